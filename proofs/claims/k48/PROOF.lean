import PyProof.Rows.All
import Wide.All
import OpenK.AllK
import Wide.FinOn
import Lean
import PyProof.EqAt
import PyProof.EqKinds
import PyProof.TupleCall
import PySem.Challenge.RW_askorder_k48_whole_chair_from_votes
set_option Elab.async false
set_option linter.all false
set_option maxRecDepth 100000
open PySem.W renaming Frag → aa, nsIn → aE, mg_none_of → aQ, findIn → aT, kia_one → bp, fnOf → bq, keepIn → bC, mroIn → bF, excIn → bM, specialIn → bQ, kitOne → cb, takesIn → cC, codeIn → cX, InstAt → cY, methodObj → dc, kitx_list → de, plainGet → dh, instObj → dz, findObj → dA, OpenLaw → dB, lookIn → dH, mg_of → dQ, clsIn → dR, cellsFrom_some → dZ, looks_findIn → ef, callWith_K → eF, plainOver → eN, hasDictIn → eO
open List renaming mem_cons_self → ac, mem_cons_of_mem → ad, range → ag, mem_cons → ah, mem_singleton → ai, mem_filter → ak, mem_range → am, length_map → aq, contains_iff_mem → ar, mem_append → au, getElem?_eq_getElem → ax, nodup_cons → ay, size_toArray → aB, length_append → aC, replicate → aD, map_cons → aF, append_nil → aH, getElem?_map → aJ, append_assoc → aK, mem_map → aN, mem_append_right → aO, pairwise_cons → aP, map_append → aS, getElem?_eq_some_iff → aU, map_map → aV, all_eq_true → aW, length_filter_le → aX, length_cons → aZ, nodup_append → bb, mem_append_left → bc, getElem?_append_left → bd, filter_eq_nil_iff → bf, nodup_nil → bh, getElem?_append_right → bi, drop_eq_getElem_cons → bn, getElem?_eq_none → br, filter_cons → bu, getElem?_set_ne → bv, pairwise_map → bw, length_range → bx, take_of_length_le → bA, pairwise_lt_range → bB, perm_ext_iff_of_nodup → bE, find?_cons → bG, findIdx_lt_length_of_exists → bH, nodup_range → bK, length_eq_zero_iff → bL, drop_eq_nil_of_le → bO, perm_append_comm → bR, reverse_cons → bU, length_take → bW, any_eq_true → bX, length_reverse → bY, filter_eq_self → bZ, filterMap_cons → b7, map_take → b8, contains_eq_any_beq → b9, filter_append → ca, range' → cc, getElem?_replicate → ce, filter_cons_of_pos → cf, filter_cons_of_neg → cg, findIdx?_eq_some_iff_getElem → ci, getElem?_set → cj, take_append_drop → cr, mem_flatten → cv, lookup_cons → cz, getElem_mem → cA, drop_length → cB, sum_cons → cE, reverse_reverse → cF, mem_iff_getElem → cG, range_succ → cI, nil_append → cJ, take_succ_cons → cK, length_pos_iff → cL, getElem?_range → cM, any_map → cN, append_of_mem → cO, filter_congr → cR, map_drop → cS, any_cons → cT, length_drop → cU, getD → cV, cons_append → cW, getElem?_toArray → c4, take_zero → c5, pairwise_append → c6, getElem?_of_mem → c7, map_congr_left → c9, all_cons → df, reverse_perm → dl, map_nil → dm, flatten_cons → dq, any_eq_false → dv, perm_middle → dG, of_mem_zip → dJ, mem_zipIdx_iff_getElem? → dL, length_nil → dM, dropLast_concat_getLast → dN, nodup_iff_pairwise_ne → dS, length_eraseIdx_of_lt → dU, drop_zero → dW, sublist_append_right → d9, take_nil → ee, getElem?_cons_succ → el, eraseIdx_cons_succ → eu, not_of_lt_findIdx → eC, getElem?_set_self → eD, drop_of_length_le → eE, length_replicate → eL, getElem?_reverse → eM, mem_of_getElem? → eQ, findIdx_getElem → eS, replicate_succ → eU, getElem_of_mem → eV, set_cons_zero → eY, set_cons_succ → eZ, ne_nil_of_mem → e7, mem_filterMap → e8, find?_eq_none → e9, contains_cons → ff
open Bool renaming false_ne_true → aj, and_eq_true_iff → av, and_eq_true → aM, not_eq_true → aR, false_eq_true → cP, or_eq_true → dO, eq_iff_iff → dP, false_and → dX, and_false → dY
open Nat renaming le_refl → ao, ne_of_lt → az, le_trans → aG, lt_of_lt_of_le → aI, zero_le → bg, lt_irrefl → bj, lt_succ_of_lt → bz, le_of_succ_le → bI, ne_of_gt → bP, le_of_ble_eq_true → bT, le_of_lt → ck, lt_succ_self → cD, le_succ → cH, min_eq_left → cZ, pow_le_pow_right → c8, lt_or_ge → dD, le_succ_of_le → dE, min_eq_right → dI, not_lt → d8, sub_zero → eG, lt_trans → eJ, le_of_eq → eK
open Option renaming bind_some → aA, map_some → bN, isSome_iff_exists → cQ, isSome_map → dg, bind_none → di, isSome_some → eP, getD_none → eW
open Array renaming getElem?_eq_getElem → aL, getElem?_eq_some_iff → aY, length_toList → bJ, getD_eq_getD_getElem? → bS, getElem?_toList → cq, getElem?_eq_none → ez, toList_push → fg
open Int renaming toNat_natCast → bV, zero_add → dF
noncomputable abbrev PySem.W.Fast.tw16009776953376381037:=PySem.Challenge.pw_askorder_k48_whole_chair_from_votes
theorem PySem.W.Fast.te16009776953376381037:PySem.Challenge.pw_askorder_k48_whole_chair_from_votes=PySem.W.Fast.tw16009776953376381037:=rfl
open PySem renaming Program → dw, World → fm, FuncData → fq, behindInMarks → ft, assignEach → fu, backTo → fw, attributeBase → fx, bootBuiltins → fy, Keyword → fA, Scope → fB, assign → fD
namespace PySem.W.Fast
def tw5005377422158887746:=0
def tw3656687608667887943:=0
def tw5092073951237806811:=0
def tw5488255319760309516:=0
def tw3407774133264011573:=0
def tw4210017682310127555:=0
def tw1941880363744949280:=0
def tw14356002987066756525:=0
def tw13794825389984361695:=0
def tw11731358649783989859:=0
def tw17690106610082899928:=0
def tw3001028722238734863:=0
def tw10623470958695036325:=0
def tw7731738851186468077:=0
def tw15596770669691512608:=0
def tw8112175321442049804:=0
def tw3132581690088396872:=0
def tw304582627433800741:=0
def tw12092701687828106430:=0
def tw12301781904587669582:=0
def tw12427840333197781955:=0
def tw8954617529792806716:=0
def tw13287793278209764183:=0
def tw10723920641052310375:=0
def tw12016107906106014290:=0
def tw13409809305095755982:=0
def tw16935540852322124368:=0
def tw6422472879702076653:=0
def tw664263322142253636:=0
def tw14449008229490598674:=0
def tw4106231926045558510:=0
def tw9890901282976009861:=0
def tw11679639171186832131:=0
def tw13057223294169049987:=0
def tw10581334889728896579:=0
def tw7825010722861252835:=0
def tw9164438686661793855:=0
def tw15108384119601342853:=0
def tw17990948002242599389:=0
def tw12608346368259496360:=0
def tw17101576393757666293:=0
def tw13804761054610905571:=0
def tw14164902287211119360:=0
def tw17117968287571640992:=0
def tw80192915723366982:=0
def tw15005045648844725523:=0
def tw7426232245556444762:=0
def tw13945497354871768996:=0
def tw5987255598856954062:=0
def tw13681848252222594685:=0
def tw7925610055933152675:=0
def tw12662361658596631930:=0
def tw6239535653928131089:=0
def tw10246788180646609270:=0
def tw15648606560907203473:=0
def tw3756091654257313464:=0
def tw8638952171558063659:=0
def tw16983297741470987421:=0
def tw6962227202644128053:=0
def tw3871968803751636461:=0
def tw13263678216071852640:=0
def tw16238443753627797357:=0
def tw12444571915105649668:=0
def tw15938260922757039583:=0
def tw7599077321532063244:=0
def tw15763843201884812041:=0
def tw10931521906550549299:=0
def tw14223029871783903329:=0
def tw8987266728477152117:=0
def tw4043488959382435980:=0
end PySem.W.Fast
namespace L2
open PySem PySem.Spec PyProof.Rows
abbrev Key:=Sum Int Str
def y4N:Key->Value->Bool
 |.inl k,v=>Value.isInt k v
 |.inr x,v=>Value.isStrOf x v
def keyH(w:fm):Key->Int
 |.inl k=>hashInt k
 |.inr x=>hashStr w x
theorem z0R:∀{k:Key} {v:Value},y4N k v=true->(∃i t,k=Sum.inl i∧v=Value.int i t)∨(∃x t,k=Sum.inr x∧v=Value.str x t)
 |.inl i,v,h=>by
  obtain⟨t,e⟩:=Value.isInt_shape (k:=i) (v:=v) h
  exact .inl ⟨i,t,rfl,e⟩
 |.inr x,v,h=>by
  obtain⟨t,e⟩:=Value.isStrOf_shape (x:=x) (v:=v) h
  exact .inr ⟨x,t,rfl,e⟩
theorem x2j(i:Int)(t:Tok):y4N (.inl i) (.int i t)=true:=by simp[y4N,Value.isInt]
theorem x1m(x:Str)(t:Tok):y4N (.inr x) (.str x t)=true:=by simp[y4N,Value.isStrOf]
theorem key_ll(a b:Int):decide ((Sum.inl a:Key)=Sum.inl b)=(a==b):=by
 by_cases e:a=b
 ·subst e;simp
 ·have h:¬ (Sum.inl a:Key)=Sum.inl b:=fun q=>e (Sum.inl.inj q)
  rw[decide_eq_false h]
  exact(beq_eq_false_iff_ne.mpr e).symm
theorem key_rr(a b:Str):decide ((Sum.inr a:Key)=Sum.inr b)=decide (a=b):=by
 by_cases e:a=b
 ·subst e;simp
 ·have h:¬ (Sum.inr a:Key)=Sum.inr b:=fun q=>e (Sum.inr.inj q)
  rw[decide_eq_false h,decide_eq_false e]
theorem key_lr(a:Int)(b:Str):decide ((Sum.inl a:Key)=Sum.inr b)=false:=decide_eq_false (fun q=>nomatch q)
theorem key_rl(a:Str)(b:Int):decide ((Sum.inr a:Key)=Sum.inl b)=false:=decide_eq_false (fun q=>nomatch q)
def z1m(prog:dw)(w:fm):PySem.KeyKind prog w Key where
 is:=y4N
 hash:=keyH w
 inj:=fun v a b ha hb=>by
  rcases z0R ha with⟨i,t,rfl,rfl⟩ | ⟨x,t,rfl,rfl⟩
  ·rcases z0R hb with⟨j,u,rfl,e⟩ | ⟨y,u,rfl,e⟩
   ·injection e with e1 _;rw[e1]
   ·exact nomatch e
  ·rcases z0R hb with⟨j,u,rfl,e⟩ | ⟨y,u,rfl,e⟩
   ·exact nomatch e
   ·injection e with e1 _;rw[e1]
 byValue:=fun k v h=>by
  rcases z0R h with⟨i,t,rfl,rfl⟩ | ⟨x,t,rfl,rfl⟩ <;> rfl
 pyHash:=fun hv h=>by
  rcases z0R hv with⟨i,t,rfl,rfl⟩ | ⟨x,t,rfl,rfl⟩
  ·exact wpAny_pyHash_int h
  ·exact wpAny_pyHash_str h
 eqBool:=fun hu hv h=>by
  rcases z0R hu with⟨i,t,rfl,rfl⟩ | ⟨x,t,rfl,rfl⟩
  ·rcases z0R hv with⟨j,u,rfl,rfl⟩ | ⟨y,u,rfl,rfl⟩
   ·rw[key_ll]at h;exact wpAny_eqBool_int h
   ·rw[key_lr]at h;exact SeqAt.EqAt.int_str i t y u _ _ _ _ h
  ·rcases z0R hv with⟨j,u,rfl,rfl⟩ | ⟨y,u,rfl,rfl⟩
   ·rw[key_rl]at h;exact SeqAt.EqAt.str_int x t j u _ _ _ _ h
   ·rw[key_rr]at h;exact wpAny_eqBool_str h
 «strs»:=fun k x t v h=>by
  rcases z0R h with⟨i,u,rfl,e⟩ | ⟨y,u,rfl,e⟩
  ·exact nomatch e
  ·injection e with e1 _
   subst e1
   cases v <;> rfl
theorem y4j(prog:dw)(w:fm)(i:Int)(t:Tok):(z1m prog w).is (.inl i) (.int i t)=true:=x2j i t
theorem y4B(prog:dw)(w:fm)(x:Str)(t:Tok):(z1m prog w).is (.inr x) (.str x t)=true:=x1m x t
inductive V where
 |non | bl (b:Bool) | int (i:Int) | str (x:Str) | byt (b:Array UInt8) | flt (b:UInt64) | ref (a:Addr) | ty (n:String)
 deriving DecidableEq
def RelV:V->Value->Prop
 |.non,u=>u=Value.none
 |.bl b,u=>u=Value.bool b
 |.int i,u=>∃t,u=Value.int i t
 |.str x,u=>∃t,u=Value.str x t
 |.byt b,u=>∃t,u=Value.bytes b t
 |.flt b,u=>∃t,u=Value.float b t
 |.ref a,u=>u=Value.ref a
 |.ty n,u=>u=Value.type n
abbrev Vals:List V->List Value->Prop:=Paired RelV
theorem Vals.length{xs:List V}{us:List Value}(r:Vals xs us):xs.length=us.length:=Paired.length r
theorem Vals.get:∀{xs:List V} {us:List Value} {i:Nat} {x:V},Vals xs us->xs[i]? = some x->∃u,us[i]? = some u∧RelV x u
 |_,_,_,_,.nil,e=>by simp at e
 |_,_,0,_,.cons r _,e=>by simp at e;subst e;exact⟨_,rfl,r⟩
 |_,_,i+1,x,.cons _ t,e=>by
  obtain⟨u,h1,h2⟩:=Vals.get (i:=i) (x:=x) t (by simpa using e)
  exact⟨u,by simpa using h1,h2⟩
theorem Vals.set{x:V}{u:Value}(r:RelV x u):∀{xs:List V} {us:List Value} (i:Nat),Vals xs us->Vals (xs.set i x) (us.set i u)
 |_,_,_,.nil=>.nil
 |_,_,0,.cons _ t=>.cons r t
 |_,_,i+1,.cons q t=>.cons q (Vals.set r i t)
theorem Vals.append:∀{xs ys:List V} {us ws:List Value},Vals xs us->Vals ys ws->Vals (xs++ys) (us++ws)
 |_,_,_,_,.nil,s=>s
 |_,_,_,_,.cons r t,s=>.cons r (Vals.append t s)
theorem Vals.take:∀{xs:List V} {us:List Value} (n:Nat),Vals xs us->Vals (xs.take n) (us.take n)
 |_,_,0,_=>.nil
 |_,_,_+1,.nil=>.nil
 |_,_,n+1,.cons r t=>.cons r (Vals.take n t)
theorem Vals.drop:∀{xs:List V} {us:List Value} (n:Nat),Vals xs us->Vals (xs.drop n) (us.drop n)
 |_,_,0,r=>r
 |_,_,_+1,.nil=>.nil
 |_,_,n+1,.cons _ t=>Vals.drop n t
def RelO:Option V->Option Value->Prop
 |some v,some u=>RelV v u
 |none,none=>True
 |_,_=>False
def KV{κ:Type}:List (κ×V)->List (κ×Value)->Prop:=Paired fun(p:κ×V) (q:κ×Value)=>p.1=q.1∧RelV p.2 q.2
def kV:Key->V
 |.inl i=>.int i
 |.inr x=>.str x
inductive HO where
 |lst (xs:List V)
 |tup (xs:List V)
 |dK (kvs:List (Key×V)) | dT (kvs:List (List Key×V))
 |set (S:Int->Bool) (n:Nat)
 |ins (C dx:Addr) (fs:List (Str×V))
 |own (x:Addr)
 |xd (fs:List (Str×V))
 |met (f x:Addr)
 |rng (lo hi:Int)
 |frz (o:Obj) (u:HO)
 |tbl (ps:Array Value)
 |ext (φ:Heap->Prop)
abbrev Hp:=Addr->Option HO
def upd(H:Hp)(a:Addr)(o:HO):Hp:=fun b=>if b=a then some o else H b
theorem z0r{H:Hp}{a:Addr}{o:HO}:upd H a o a=some o:=by unfold upd;rw[if_pos rfl]
theorem z0I{H:Hp}{a b:Addr}{o:HO}(h:b≠a):upd H a o b=H b:=by unfold upd;rw[if_neg h]
theorem ne_of{H:Hp}{a b:Addr}{o u:HO}(h:H a=some o)(h':H b=some u)(d:o≠u):a≠b:=by
 intro e;subst e;rw[h]at h';exact d (Option.some.inj h')
theorem z1r{H:Hp}{a b:Addr}{o:HO}(h:H a=some o)(h':H b=none):a≠b:=by
 intro e;subst e;rw[h]at h';cases h'
section
variable(P:dw)(w:fm)
def TupN(h:Heap)(a:Addr)(items:Array Value):Prop:=∃o,h.get? a=some o∧(o.cls = .type "tuple" ∧ o.dict=none)∧∃n,o.data = .seq items n
theorem TupN.is{h:Heap}{a:Addr}{items:Array Value}(x:TupN h a items):IsTup h a items:=let⟨o,e,c,n⟩:=x;⟨o,e,c.1,n⟩
theorem TupN.lt{h:Heap}{a:Addr}{items:Array Value}(x:TupN h a items):a<h.objs.size:=x.is.lt
theorem TupN.new(h:Heap)(items:Array Value):TupN (h.push { cls:=.type "tuple",data:=.seq items }) h.objs.size items:=⟨_,Heap.get?_push_size _ rfl,⟨rfl,rfl⟩,_,rfl⟩
def ObjOk(H:Hp)(h:Heap)(a:Addr):HO->Prop
 |.lst xs=>xs.length≤sizeLine∧∃(its:List Value) (n:Nat),Vals xs its∧h.get? a=some { cls:=.type "list",data:=.seq its.toArray n }
 |.tup xs=>xs.length≤sizeLine∧∃its:List Value,Vals xs its∧TupN h a its.toArray
 |.dK kvs=>kvs.length≤sizeLine∧(a==sysModules)=false∧∃vs,KV kvs vs∧h.DictOf (z1m P w) a vs
 |.dT kvs=>kvs.length≤sizeLine∧(a==sysModules)=false∧∃xs:List (List Key×Addr×Value),
   Paired (fun(p:List Key×V) (q:List Key×Addr×Value)=>p.1=q.1∧H q.2.1=some (.tup (p.1.map kV))∧RelV p.2 q.2.2) kvs xs ∧
   ∃o es ep,h.get? a=some o∧o.ExactDict∧o.data = .dict es ep∧es.toList=xs.map (entryOfKey (tupleKind (z1m P w)))∧(xs.map (·.1)).Nodup
 |.set S n=>h.SetOf (intKind P w) a S n
 |.ins C dx fs=>H dx=some (.own a)∧fs.length≤1000∧dx≠a∧h.get? a=some (dz C dx) ∧
   ∃mA,h.Ns1 dx mA∧(∀f,RelO (fs.lookup f) (mA f))∧PySem.Within mA (fs.map (·.1))
 |.own _=>∃o,h.get? a=some o
 |.xd fs=>∃mA,h.Ns1 a mA∧∀f,RelO (fs.lookup f) (mA f)
 |.rng lo hi=>∃t u v,h.get? a=some { cls:=.type "range",data:=.fields #[.int lo t,.int hi u,.int 1 v] }
 |.frz o u=>h.get? a=some o∧ObjOk H h a u
 |.tbl ps=>h.get? a=some { cls:=.none,data:=.fields ps }
 |.met f x=>h.get? a=some (dc (.ref f) (.ref x))
 |.ext φ=>φ h∧(∃o,h.get? a=some o)∧∀h1 h2:Heap,φ h1->(∀o,h1.get? a=some o->h2.get? a=some o)->φ h2
def HOk(H:Hp)(h:Heap):Prop:=∀a o,H a=some o->ObjOk P w H h a o
end
section
variable{P:dw}{w:fm}{H H':Hp}{h h':Heap}{a:Addr}{o:HO}
theorem ObjOk.lt(x:ObjOk P w H h a o):a<h.objs.size:=by
 cases o with
 |lst xs=>obtain⟨_,_,_,_,e⟩:=x;exact Heap.lt_size e
 |tup xs=>obtain⟨_,_,_,p⟩:=x;exact p.lt
 |dK kvs=>obtain⟨_,_,_,_,o,_,_,e,_⟩:=x;exact Heap.lt_size e
 |dT kvs=>obtain⟨_,_,_,_,o,_,_,e,_⟩:=x;exact Heap.lt_size e
 |set S n=>obtain⟨o,_,_,_,e,_⟩:=x;exact Heap.lt_size e
 |ins C dx fs=>obtain⟨_,_,_,e,_⟩:=x;exact Heap.lt_size e
 |own y=>obtain⟨_,e⟩:=x;exact Heap.lt_size e
 |xd fs=>obtain⟨_,⟨_,_,_,e,_⟩,_⟩:=x;exact Heap.lt_size e
 |rng lo hi=>obtain⟨_,_,_,e⟩:=x;exact Heap.lt_size e
 |frz ob u=>obtain⟨e,_⟩:=x;exact Heap.lt_size e
 |tbl ps=>exact Heap.lt_size (show h.get? a=some _ from x)
 |met f y=>exact Heap.lt_size (show h.get? a=some _ from x)
 |ext φ=>obtain⟨_,⟨_,e⟩,_⟩:=x;exact Heap.lt_size e
theorem Paired.mapP{α β:Type}{F G:α->β->Prop}:∀{l₁:List α} {l₂:List β},Paired F l₁ l₂->(∀a b,F a b->G a b)->Paired G l₁ l₂
 |_,_,.nil,_=>.nil
 |_,_,.cons r t,f=>.cons (f _ _ r) (Paired.mapP t f)
theorem ObjOk.stay(x:ObjOk P w H h a o)(k:∀b u,(b=a∨H b=some (.own a))->h.get? b=some u->h'.get? b=some u)
  (ho:∀b,H b=some (.own a)->H' b=some (.own a)) (ht:∀b xs,H b=some (.tup xs)->H' b=some (.tup xs)):ObjOk P w H' h' a o:=by
 induction o with
 |lst xs=>obtain⟨z,its,n,r,e⟩:=x;exact⟨z,its,n,r,k _ _ (.inl rfl) e⟩
 |tup xs=>obtain⟨z,its,r,ob,e,c⟩:=x;exact⟨z,its,r,ob,k _ _ (.inl rfl) e,c⟩
 |dK kvs=>obtain⟨z,y,vs,r,ob,es,ep,e,c⟩:=x;exact⟨z,y,vs,r,ob,es,ep,k _ _ (.inl rfl) e,c⟩
 |dT kvs=>
  obtain⟨z,y,xs,r,ob,es,ep,e,c⟩:=x
  exact⟨z,y,xs,Paired.mapP r fun p q z=>⟨z.1,ht _ _ z.2.1,z.2.2⟩,ob,es,ep,k _ _ (.inl rfl) e,c⟩
 |set S n=>obtain⟨ob,es,ep,t,e,c⟩:=x;exact⟨ob,es,ep,t,k _ _ (.inl rfl) e,c⟩
 |ins C dx fs=>
  obtain⟨d,z,ne,e,mA,⟨od,es,ep,e2,c⟩,r⟩:=x
  exact⟨ho _ d,z,ne,k _ _ (.inl rfl) e,mA,⟨od,es,ep,k _ _ (.inr d) e2,c⟩,r⟩
 |own y=>obtain⟨ob,e⟩:=x;exact⟨ob,k _ _ (.inl rfl) e⟩
 |xd fs=>obtain⟨mA,⟨od,es,ep,e,c⟩,r⟩:=x;exact⟨mA,⟨od,es,ep,k _ _ (.inl rfl) e,c⟩,r⟩
 |rng lo hi=>obtain⟨t,u,v,e⟩:=x;exact⟨t,u,v,k _ _ (.inl rfl) e⟩
 |frz ob u ih=>obtain⟨e,q⟩:=x;exact⟨k _ _ (.inl rfl) e,ih q⟩
 |tbl ps=>
  have e:h.get? a=some { cls:=.none,data:=.fields ps }:=x
  show h'.get? a=some { cls:=.none,data:=.fields ps }
  exact k a _ (.inl rfl) e
 |met f y=>
  have e:h.get? a=some (dc (.ref f) (.ref y)):=x
  show h'.get? a=some (dc (.ref f) (.ref y))
  exact k a _ (.inl rfl) e
 |ext φ=>obtain⟨p,⟨o,e⟩,st⟩:=x;exact⟨st _ _ p fun o q=>k _ _ (.inl rfl) q,⟨o,k _ _ (.inl rfl) e⟩,st⟩
theorem HOk.lt(x:HOk P w H h)(e:H a=some o):a<h.objs.size:=(x a o e).lt
theorem HOk.fresh(x:HOk P w H h)(e:h.objs.size≤a):H a=none:=by
 cases q:H a with
 |none=>rfl
 |some u=>exact absurd (aI (x.lt q) e) (bj _)
theorem HOk.kept(x:HOk P w H h)(k:∀b u,h.get? b=some u->h'.get? b=some u):HOk P w H h':=fun a o e=>
 (x a o e).stay (fun b u _ q=>k b u q) (fun _ q=>q) fun _ _ q=>q
theorem HOk.laid(x:HOk P w H h)(k:∀b u,h.get? b=some u->h'.get? b=some u)(hp:h.objs.size≤a)(new:ObjOk P w (upd H a o) h' a o):HOk P w (upd H a o) h':=fun b u e=>by
 have hn:=x.fresh hp
 by_cases hb:b=a
 ·subst hb;rw[z0r]at e;cases e;exact new
 ·rw[z0I hb]at e
  exact(x b u e).stay (fun c v _ q=>k c v q) (fun c q=>by rw[z0I (z1r q hn)];exact q) fun c xs q=>by rw[z0I (z1r q hn)];exact q
end
def Rd(H:Hp)(a:Addr)(u:HO):Prop:=H a=some u∨∃o,H a=some (.frz o u)
theorem Rd.ok{P:dw}{w:fm}{H:Hp}{h:Heap}{a:Addr}{u:HO}(r:Rd H a u)(x:HOk P w H h):ObjOk P w H h a u:=by
 rcases r with r | ⟨o,r⟩
 ·exact x a u r
 ·obtain⟨_,q⟩:=x a _ r
  exact q
def Mut:Option HO->Prop
 |some (.lst _)=>True
 |some (.dK _)=>True
 |some (.dT _)=>True
 |some (.set _ _)=>True
 |some (.ins _ _ _)=>True
 |some (.ext _)=>True
 |_=>False
section
variable{P:dw}{w:fm}{H:Hp}{h h':Heap}{x e:Addr}{o':HO}
theorem HOk.write(ok:HOk P w H h)(mu:Mut (H x))(he:e=x∨H e=some (.own x))(k:∀b u,b≠e->h.get? b=some u->h'.get? b=some u)(heo:∃u,h'.get? e=some u)
  (new:ObjOk P w (upd H x o') h' x o'):HOk P w (upd H x o') h':=fun b u q=>by
 have nown:∀c y,H c=some (.own y)->c≠x:=fun c y r z=>by subst z;rw[r]at mu;exact mu
 have ntup:∀c xs,H c=some (.tup xs)->c≠x:=fun c xs r z=>by subst z;rw[r]at mu;exact mu
 by_cases hb:b=x
 ·subst hb;rw[z0r]at q;cases q;exact new
 ·rw[z0I hb]at q
  by_cases hbe:b=e
  ·have q':H b=some (.own x):=by
    rcases he with z | z
    ·exact absurd (hbe.trans z) hb
    ·rw[hbe];exact z
   rw[q]at q';cases q'
   obtain⟨v,hv⟩:=heo
   exact⟨v,by rw[hbe];exact hv⟩
  ·refine(ok b u q).stay (fun c v hc r=>k c v ?_ r) (fun c r=>by rw[z0I (nown c b r)];exact r) fun c xs r=>by rw[z0I (ntup c xs r)];exact r
   rcases hc with rfl | hc
   ·exact hbe
   ·rintro rfl
    rcases he with z | z
    ·exact nown c b hc z
    ·rw[hc]at z;cases z;exact hb rfl
end
structure Un(fs ex:List Addr)(H H':Hp)(h h':Heap):Prop where
 keep:∀b o,h.get? b=some o->H b=none->b∉fs->b∉ex->h'.get? b=some o
 slot:∀b o,h.get? b=some o->H b=none->b∈fs->b∉ex->∃sl,h'.get? b=some { o with slots:=sl }
 free:∀b o,h.get? b=some o->H b=none->b∉ex->H' b=none
 there:∀b o,h.get? b=some o->b∉ex->∃o',h'.get? b=some o'
 tups:∀b xs,H b=some (.tup xs)->H' b=some (.tup xs)
 frzs:∀b o u,H b=some (.frz o u)->H' b=some (.frz o u)
 tbls:∀b ps,H b=some (.tbl ps)->∃more,H' b=some (.tbl (ps++more))
section
variable{fs ex:List Addr}{H H1:Hp}{h h1 h':Heap}{a x e:Addr}{o:HO}
theorem Un.any(u:Un fs ex H H1 h h1){b:Addr}{ob:Obj}(q:h.get? b=some ob)(n:H b=none)(hx:b∉ex):∃sl,h1.get? b=some { ob with slots:=sl }:=by
 by_cases hb:b∈fs
 ·exact u.slot b ob q n hb hx
 ·exact⟨ob.slots,u.keep b ob q n hb hx⟩
theorem Un.kept(k:∀b u,h.get? b=some u->h'.get? b=some u):Un fs ex H H h h':=
 ⟨fun b ob q _ _ _=>k b ob q,fun b ob q _ _ _=>⟨ob.slots,k b ob q⟩,fun _ _ _ n _=>n,fun b ob q _=>⟨ob,k b ob q⟩,fun _ _ q=>q,fun _ _ _ q=>q,fun _ ps q=>⟨#[],by rw[q];simp⟩⟩
theorem Un.refl:Un fs ex H H h h:=Un.kept fun _ _ q=>q
theorem Un.laid(k:∀b u,h.get? b=some u->h'.get? b=some u)(hp:h.objs.size≤a)(hn:H a=none):Un fs ex H (upd H a o) h h' where
 keep:=fun b u q _ _ _=>k b u q
 slot:=fun b u q _ _ _=>⟨u.slots,k b u q⟩
 free:=fun b u q n _=>by rw[z0I (az (aI (Heap.lt_size q) hp))];exact n
 there:=fun b u q _=>⟨u,k b u q⟩
 tups:=fun b xs q=>by rw[z0I (z1r q hn)];exact q
 frzs:=fun b u xs q=>by rw[z0I (z1r q hn)];exact q
 tbls:=fun b ps q=>⟨#[],by rw[z0I (z1r q hn),q];simp⟩
theorem Un.write(mu:Mut (H x))(he:e=x∨H e=some (.own x))(k:∀b u,b≠e->h.get? b=some u->h'.get? b=some u)(heo:∃u,h'.get? e=some u):Un fs ex H (upd H x o) h h':=by
 have hx:∀b,H b=none->b≠x:=fun b n z=>by subst z;rw[n]at mu;exact mu
 have hb:∀b,H b=none->b≠e:=fun b n z=>by
  subst z
  rcases he with r | r
  ·exact hx b n r
  ·rw[n]at r;cases r
 have hm:∀b u,H b=some u->¬ Mut (some u)->b≠x:=fun b u q nm z=>by subst z;rw[q]at mu;exact nm mu
 refine⟨fun b u q n _ _=>k b u (hb b n) q,fun b u q n _ _=>⟨u.slots,k b u (hb b n) q⟩,fun b u q n _=>by rw[z0I (hx b n)];exact n,fun b u q _=>?_,
  fun b xs q=>by rw[z0I (hm b _ q fun z=>z)];exact q,fun b u xs q=>by rw[z0I (hm b _ q fun z=>z)];exact q,fun b ps q=>⟨#[],by rw[z0I (hm b _ q fun z=>z),q];simp⟩⟩
 by_cases hbe:b=e
 ·subst hbe;exact heo
 ·exact⟨u,k b u hbe q⟩
end
def trk(h:Heap)(H:Hp):List Addr:=(ag h.objs.size).filter fun a=>(H a).isSome
def x2S(h:Heap)(H:Hp):Heap:=PySem.W.hideAll h (trk h H)
theorem y9b(h:Heap)(H:Hp):(x2S h H).objs.size=h.objs.size:=PySem.W.hideAll_size _ _
theorem x4m{h:Heap}{H:Hp}{b:Addr}{o:Obj}(e:h.get? b=some o)(n:H b=none):(x2S h H).get? b=some o:=
 PySem.W.hideAll_get _ e fun hm=>by
  have q:(H b).isSome=true:=(ak.mp hm).2
  rw[n]at q;simp at q
theorem of_hidT{h:Heap}{H:Hp}{b:Addr}{o:Obj}(e:(x2S h H).get? b=some o):h.get? b=some o∧H b=none:=by
 have e':h.get? b=some o:=PySem.W.of_hideAll (trk h H) e
 refine⟨e',?_⟩
 cases q:H b with
 |none=>rfl
 |some x=>
  have hm:b∈trk h H:=ak.mpr ⟨am.mpr (Heap.lt_size e'),by simp[q]⟩
  have z:(x2S h H).get? b=none:=PySem.W.hideAll_none (trk h H) hm
  rw[z]at e;cases e
def allNews(g h:Heap)(L:Addr):List (Addr×Obj):=(ag h.objs.size).filterMap fun a=>if a=L∨(g.get? a).isSome=true then none else(h.get? a).map fun o=>(a,o)
def rest(g h:Heap)(L d:Addr):List (Addr×Obj):=(allNews g h L).filter fun p=>decide (p.1≠d)
structure Mod(K:aa)(mg:Str->Option Value)(base:Heap):Prop where
 kin:K.In base
 glob:base.Ns mainGlobals mg
 blt:∃mb,base.Ns builtinsNs mb∧∀x:Str,x ≠ "__name__" → mb x=fy x
 nolimit:base.NoLimit
structure Cx where
 prog:dw
 w:fm
 K:aa
 mg:Str->Option Value
 base:Heap
 A:Around
 N:List Str
 s₀:Shared
 H₀:Hp
 env:Env
 outer:List Env
 stack:List Env
 ex:List Addr
 fn:Str->Bool
 calm:Bool
 pn:List (Addr×Obj)
 xe:Value->Shared->Prop
def frs(l:List Env):List Addr:=l.filterMap (·.frame)
abbrev Cx.fs(X:Cx):List Addr:=frs X.outer
def Vis(sc:fB)(x:Str):Prop:=sc.names.lookup x=some .local∨sc.names.lookup x=some .cell∨sc.names.lookup x=some .free
def Loc(sc:fB)(x:Str):Prop:=sc.names.lookup x=some .local∨sc.names.lookup x=some .cell
def Look(env:Env)(h:Heap)(m:Str->Option Value)(x:Str)(u:Value):Prop:=
 (env.kindOf x=some .local∧m x=some u)∨((env.kindOf x=some .cell∨env.kindOf x=some .free)∧∃c,env.cells.lookup x=some c∧h.IsCell c (some u))
structure Cx.Ok(X:Cx):Prop where
 mod:Mod X.K X.mg X.base
 kind:X.env.scope.kind = .function
 glob:X.env.globals=mainGlobals
 blt:X.env.builtins=builtinsNs
 above:X.s₀.heap.objs.size≤X.env.locals
 inj:∀x y c,X.env.cells.lookup x=some c->X.env.cells.lookup y=some c->x=y
 has:∀x,(X.env.kindOf x=some .cell∨X.env.kindOf x=some .free)->∃c,X.env.cells.lookup x=some c
 cab:∀x c,X.fn x=true->X.env.cells.lookup x=some c->X.s₀.heap.objs.size≤c
 hd:X.calm=true->X.A.handled=none
 frames:X.A.frames=some X.stack
 stk:X.stack=X.outer∨(X.stack=X.env::X.outer∧X.env.frame=some X.env.locals)
 exf:∀b∈X.ex,b≠X.env.locals∧∀x c,X.env.cells.lookup x=some c->c≠b
 bs:∀b o,X.base.get? b=some o->X.s₀.heap.get? b=some o∧X.H₀ b=none
 bsz:X.base.objs.size≤X.s₀.heap.objs.size
 noex:∀b o,X.base.get? b=some o->b∉X.ex
 exfs:∀b∈X.ex,b∉X.fs
 funs:X.s₀.heap.FunFrames X.base X.outer
 frf:∀b∈X.fs,X.H₀ b=none
structure Inv(X:Cx)(pins:List (Addr×Obj))(σ:List (Option V))(H:Hp)(s:Shared):Prop where
 ok:X.Ok
 os:s.os=X.s₀.os
 bare:AllBare s.gens
 base:Un X.fs X.ex X.H₀ H X.s₀.heap s.heap
 loc:∃m,s.heap.Ns X.env.locals m∧∀(i:Nat) (x:Str) (v:V),X.N[i]? = some x->σ[i]? = some (some v)->Vis X.env.scope x->∃u,RelV v u∧Look X.env s.heap m x u
 cell:∀x c,X.env.cells.lookup x=some c->∃v,s.heap.IsCell c v
 free:H X.env.locals=none
 freeC:∀x c,X.env.cells.lookup x=some c->H c=none
 pin:∀p∈X.pn++pins,s.heap.get? p.1=some p.2∧H p.1=none∧p.1≠X.env.locals∧p.1∉X.fs∧∀v,p.2.data≠.cell v
 hok:HOk X.prog X.w H s.heap
 len:σ.length=X.N.length
section
variable{X:Cx}{pins:List (Addr×Obj)}{σ:List (Option V)}{H H':Hp}{s:Shared}{h':Heap}
theorem Cx.Ok.nofr(ok:X.Ok){b:Addr}{o:Obj}(e:X.base.get? b=some o):b∉X.fs:=fun hb=>by
 have:=(ok.funs.mem hb).1
 rw[e]at this;cases this
theorem Inv.bs(I:Inv X pins σ H s):∀b o,X.base.get? b=some o->s.heap.get? b=some o∧H b=none:=fun b o e=>
 ⟨I.base.keep b o (I.ok.bs b o e).1 (I.ok.bs b o e).2 (I.ok.nofr e) (I.ok.noex b o e),I.base.free b o (I.ok.bs b o e).1 (I.ok.bs b o e).2 (I.ok.noex b o e)⟩
theorem Inv.bk(I:Inv X pins σ H s):∀b o,X.base.get? b=some o->s.heap.get? b=some o:=fun b o e=>(I.bs b o e).1
theorem Inv.mod(I:Inv X pins σ H s):Mod X.K X.mg X.base:=I.ok.mod
theorem Inv.kIn(I:Inv X pins σ H s):X.K.In s.heap:=I.ok.mod.kin.keeps I.bk
theorem Inv.lt(I:Inv X pins σ H s):X.env.locals<s.heap.objs.size:=let⟨_,hn,_⟩:=I.loc;hn.lt
theorem Inv.sz(I:Inv X pins σ H s):X.s₀.heap.objs.size≤s.heap.objs.size:=aG I.ok.above (ck I.lt)
theorem Inv.nofs(I:Inv X pins σ H s){a:Addr}(h:s.heap.objs.size≤a):a∉X.fs:=fun hb=>by
 obtain⟨_,o,ho,_⟩:=I.ok.funs.mem hb
 exact absurd (aI (Heap.lt_size ho) (aG I.sz h)) (bj _)
theorem Inv.cne(I:Inv X pins σ H s):∀x c,X.env.cells.lookup x=some c->c≠X.env.locals:=fun x c e z=>by
 obtain⟨v,o,ho,hd⟩:=I.cell x c e
 obtain⟨m,⟨o',es,ep,ho',hd',_⟩,_⟩:=I.loc
 rw[z,ho']at ho;cases ho;rw[hd']at hd;cases hd
theorem Inv.funs(I:Inv X pins σ H s):s.heap.FunFrames X.base X.outer:=by
 have all:∀(l:List Env),(∀b∈frs l,b∈X.fs)->X.s₀.heap.FunFrames X.base l->s.heap.FunFrames X.base l:=by
  intro l
  induction l with
  |nil=>intro _ _;trivial
  |cons env r ih=>
   intro hs hl
   obtain⟨hk,⟨L,o,hf,hn,ho,hd⟩,hr⟩:=hl
   have hL:L∈X.fs:=hs L (by unfold frs;rw[b7,hf];exact ac)
   obtain⟨sl,e⟩:=I.base.slot L o ho (I.ok.frf L hL) hL fun z=>I.ok.exfs L z hL
   exact⟨hk,⟨L,_,hf,hn,e,hd⟩,ih (fun b hb=>hs b (by unfold frs;rw[b7,hf];exact ad _ hb)) hr⟩
 exact all X.outer (fun _ hb=>hb) I.ok.funs
theorem Inv.stack(I:Inv X pins σ H s):s.heap.FunFrames X.base X.stack:=by
 rcases I.ok.stk with e | ⟨e,hf⟩
 ·rw[e];exact I.funs
 ·rw[e]
  obtain⟨m,hn,_⟩:=I.loc
  refine .cons (by rw[I.ok.kind];decide) hf hn ?_ I.funs
  exact Heap.get?_none_of_le (aG I.ok.bsz I.ok.above)
theorem Inv.stkSub(I:Inv X pins σ H s):∀b∈frs X.stack,b∈X.env.locals::X.fs:=fun b hb=>by
 rcases I.ok.stk with e | ⟨e,hf⟩
 ·rw[e]at hb;exact ad _ hb
 ·rw[e]at hb
  unfold frs at hb
  rw[b7,hf]at hb
  exact hb
theorem Inv.stkFree(I:Inv X pins σ H s):∀b∈frs X.stack,H b=none:=fun b hb=>by
 rcases ah.mp (I.stkSub b hb)with e | hb
 ·rw[e];exact I.free
 ·obtain⟨_,o,ho,_⟩:=I.ok.funs.mem hb
  exact I.base.free b o ho (I.ok.frf b hb) fun z=>I.ok.exfs b z hb
theorem Inv.step{g':Array GenState}{t':Nat}{d':Drawn}{ch:List Addr}(I:Inv X pins σ H s)
  (hch:∀b∈ch,(b∈X.ex∨X.s₀.heap.objs.size≤b)∧b≠X.env.locals∧(∀x c,X.env.cells.lookup x=some c->c≠b)∧∀p∈X.pn++pins,p.1≠b)
  (keep:∀b o,b≠X.env.locals->b∉X.fs->b∉ch->s.heap.get? b=some o->H b=none->h'.get? b=some o)
  (slot:∀b o,b≠X.env.locals->b∈X.fs->b∉ch->s.heap.get? b=some o->H b=none->∃sl,h'.get? b=some { o with slots:=sl }) (free:∀b o,b∉ch->s.heap.get? b=some o->H b=none->H' b=none)
  (there:∀b o,b∉ch->s.heap.get? b=some o->∃o',h'.get? b=some o')
  (tups:∀b xs,H b=some (.tup xs)->H' b=some (.tup xs)) (frzs:∀b o u,H b=some (.frz o u)->H' b=some (.frz o u)) (tbls:∀b ps,H b=some (.tbl ps)->∃more,H' b=some (.tbl (ps++more)))
  (ns:∀m,s.heap.Ns X.env.locals m->h'.Ns X.env.locals m) (hok:HOk X.prog X.w H' h') (hg:AllBare g'):
  Inv X pins σ H' { s with heap:=h',gens:=g',drawn:=d',toks:=t' }:=by
 have neL:∀b o,X.s₀.heap.get? b=some o->b≠X.env.locals:=fun b o e=>az (aI (Heap.lt_size e) I.ok.above)
 have neC:∀b o,X.s₀.heap.get? b=some o->b∉X.ex->b∉ch:=fun b o e hx hb=>by
  rcases (hch b hb).1 with z | z
  ·exact hx z
  ·exact absurd (aI (Heap.lt_size e) z) (bj _)
 have cellK:∀x c,X.env.cells.lookup x=some c->∀v,s.heap.IsCell c v->h'.IsCell c v:=fun x c e v ⟨o,ho,hd⟩=>by
  have nch:c∉ch:=fun z=>(hch c z).2.2.1 x c e rfl
  by_cases hc:c∈X.fs
  ·obtain⟨sl,q⟩:=slot c o (I.cne x c e) hc nch ho (I.freeC x c e)
   exact⟨_,q,hd⟩
  ·exact⟨o,keep c o (I.cne x c e) hc nch ho (I.freeC x c e),hd⟩
 refine⟨I.ok,I.os,hg,⟨fun b o e n hb hx=>?_,fun b o e n hb hx=>?_,fun b o e n hx=>?_,fun b o e hx=>?_,fun b xs e=>tups b xs (I.base.tups b xs e),fun b o xs e=>frzs b o xs (I.base.frzs b o xs e),fun b ps e=>?_⟩,?_,fun x c e=>?_,?_,fun x c e=>?_,fun p hp=>?_,hok,I.len⟩
 ·exact keep b o (neL b o e) hb (neC b o e hx) (I.base.keep b o e n hb hx) (I.base.free b o e n hx)
 ·obtain⟨sl,e1⟩:=I.base.slot b o e n hb hx
  obtain⟨sl',e2⟩:=slot b _ (neL b o e) hb (neC b o e hx) e1 (I.base.free b o e n hx)
  exact⟨sl',e2⟩
 ·obtain⟨o',e1⟩:=I.base.there b o e hx
  exact free b o' (neC b o e hx) e1 (I.base.free b o e n hx)
 ·obtain⟨o',e1⟩:=I.base.there b o e hx
  exact there b o' (neC b o e hx) e1
 ·obtain⟨m1,e1⟩:=I.base.tbls b ps e
  obtain⟨m2,e2⟩:=tbls b _ e1
  exact⟨m1++m2,by rw[e2,Array.append_assoc]⟩
 ·obtain⟨m,hn,hl⟩:=I.loc
  refine⟨m,ns m hn,fun i x v e1 e2 e3=>?_⟩
  obtain⟨u,r,l⟩:=hl i x v e1 e2 e3
  refine⟨u,r,?_⟩
  rcases l with l | ⟨k,c,e,z⟩
  ·exact .inl l
  ·exact .inr ⟨k,c,e,cellK x c e _ z⟩
 ·obtain⟨v,z⟩:=I.cell x c e
  exact⟨v,cellK x c e v z⟩
 ·obtain⟨m,⟨o,_,_,ho,_⟩,_⟩:=I.loc
  exact free _ o (fun z=>(hch _ z).2.1 rfl) ho I.free
 ·obtain⟨v,o,ho,hd⟩:=I.cell x c e
  exact free c o (fun z=>(hch c z).2.2.1 x c e rfl) ho (I.freeC x c e)
 ·obtain⟨e,n,ne,nf,d⟩:=I.pin p hp
  have nch:p.1∉ch:=fun z=>(hch p.1 z).2.2.2 p hp rfl
  exact⟨keep p.1 p.2 ne nf nch e n,free p.1 p.2 nch e n,ne,nf,d⟩
theorem Inv.un{t':Nat}(I:Inv X pins σ H s)(u:Un X.fs [] H H' s.heap h')(hok:HOk X.prog X.w H' h'):Inv X pins σ H' { s with heap:=h',toks:=t' }:=by
 obtain⟨m,⟨o,es,ep,ho,r⟩,_⟩:=id I.loc
 obtain⟨sl,hL⟩:=u.any ho I.free (by simp)
 exact I.step (g':=s.gens) (d':=s.drawn) (ch:=[]) (fun _ z=>nomatch z) (fun b o _ hb _ e n=>u.keep b o e n hb (by simp)) (fun b o _ hb _ e n=>u.slot b o e n hb (by simp)) (fun b o _ e n=>u.free b o e n (by simp)) (fun b o _ e=>u.there b o e (by simp)) u.tups u.frzs u.tbls (fun m' hm=>by
  obtain⟨o',es',ep',ho',r'⟩:=hm
  rw[ho]at ho';cases ho'
  exact⟨_,es',ep',hL,r'⟩) hok I.bare
theorem Inv.call{g':Array GenState}{t':Nat}{d':Drawn}{ch:List Addr}(I:Inv X pins σ H s)(u:Un (frs X.stack) ch H H' s.heap h')(hok:HOk X.prog X.w H' h')(hg:AllBare g')
  (hch:∀b∈ch,(b∈X.ex∨X.s₀.heap.objs.size≤b)∧b≠X.env.locals∧(∀x c,X.env.cells.lookup x=some c->c≠b)∧∀p∈X.pn++pins,p.1≠b):
  Inv X pins σ H' { s with heap:=h',gens:=g',drawn:=d',toks:=t' }:=by
 obtain⟨m,⟨o,es,ep,ho,r⟩,_⟩:=id I.loc
 obtain⟨sl,hL⟩:=u.any ho I.free fun z=>(hch _ z).2.1 rfl
 exact I.step (ch:=ch) hch (fun b o hL hb hc e n=>u.keep b o e n (fun z=>(ah.mp (I.stkSub b z)).elim hL hb) hc) (fun b o _ _ hc e n=>u.any e n hc) (fun b o hc e n=>u.free b o e n hc) (fun b o hc e=>u.there b o e hc) u.tups u.frzs u.tbls (fun m' hm=>by
  obtain⟨o',es',ep',ho',r'⟩:=hm
  rw[ho]at ho';cases ho'
  exact⟨_,es',ep',hL,r'⟩) hok hg
theorem Inv.turned{t':Nat}{it:Addr}(I:Inv X pins σ H s)(k:∀b o,b≠it->s.heap.get? b=some o->h'.get? b=some o)(hn:H it=none)(hL:it≠X.env.locals)
  (h1:it∈X.ex∨X.s₀.heap.objs.size≤it) (h2:∀x c,X.env.cells.lookup x=some c->c≠it) (h3:∀p∈X.pn++pins,p.1≠it):Inv X pins σ H { s with heap:=h',toks:=t' }:=by
 have nit:∀b u,H b=some u->b≠it:=fun b u e z=>by rw[z,hn]at e;cases e
 refine I.step (g':=s.gens) (d':=s.drawn) (ch:=[it]) (fun b hb=>?_) (fun b o _ _ hc e _=>k b o (fun z=>hc (by simp[z])) e) (fun b o _ _ hc e _=>⟨o.slots,k b o (fun z=>hc (by simp[z])) e⟩) (fun _ _ _ _ n=>n)
  (fun b o hc e=>⟨o,k b o (fun z=>hc (by simp[z])) e⟩) (fun _ _ e=>e) (fun _ _ _ e=>e) (fun b ps e=>⟨#[],by rw[e];simp⟩) (fun m hm=>?_) (fun b u e=>?_) I.bare
 ·have e:b=it:=by simpa using hb
  subst e
  exact⟨h1,hL,h2,h3⟩
 ·obtain⟨o,es,ep,ho,r⟩:=hm
  exact⟨o,es,ep,k _ o (Ne.symm hL) ho,r⟩
 ·refine(I.hok b u e).stay (fun c v hc q=>k c v ?_ q) (fun _ q=>q) fun _ _ q=>q
  rcases hc with z | z
  ·rw[z];exact nit b u e
  ·exact nit c _ z
theorem Inv.tok(I:Inv X pins σ H s)(t:Nat):Inv X pins σ H { s with toks:=t }:=I.un (h':=s.heap) (t':=t) Un.refl I.hok
theorem Inv.kept{t':Nat}(I:Inv X pins σ H s)(k:∀b u,s.heap.get? b=some u->h'.get? b=some u):Inv X pins σ H { s with heap:=h',toks:=t' }:=I.un (Un.kept k) (I.hok.kept k)
theorem Inv.laid{a:Addr}{o:HO}{t':Nat}(I:Inv X pins σ H s)(k:∀b u,s.heap.get? b=some u->h'.get? b=some u)(hp:s.heap.objs.size≤a)(new:ObjOk X.prog X.w (upd H a o) h' a o):
  Inv X pins σ (upd H a o) { s with heap:=h',toks:=t' }:=I.un (Un.laid k hp (I.hok.fresh hp)) (I.hok.laid k hp new)
theorem Inv.write{x e:Addr}{o:HO}{t':Nat}(I:Inv X pins σ H s)(mu:Mut (H x))(he:e=x∨H e=some (.own x))(k:∀b u,b≠e->s.heap.get? b=some u->h'.get? b=some u)(heo:∃u,h'.get? e=some u)
  (new:ObjOk X.prog X.w (upd H x o) h' x o):Inv X pins σ (upd H x o) { s with heap:=h',toks:=t' }:=I.un (Un.write mu he k heo) (I.hok.write mu he k heo new)
theorem Inv.pins_of{pins':List (Addr×Obj)}(I:Inv X pins σ H s)(h:∀p∈pins',s.heap.get? p.1=some p.2∧H p.1=none∧p.1≠X.env.locals∧p.1∉X.fs∧∀v,p.2.data≠.cell v):Inv X pins' σ H s:=
 ⟨I.ok,I.os,I.bare,I.base,I.loc,I.cell,I.free,I.freeC,fun p hp=>(au.mp hp).elim (fun z=>I.pin p (bc _ z)) (h p),I.hok,I.len⟩
theorem y6b{N:List Str}(hN:N.Nodup){i j:Nat}{x:Str}(a:N[i]? = some x)(b:N[j]? = some x):i=j:=by
 obtain⟨h1,e1⟩:=aU.mp a
 obtain⟨h2,e2⟩:=aU.mp b
 exact(List.getElem_inj hN).mp (e1.trans e2.symm)
theorem z8J{M:Model}{A:Around}{E:Value->Shared->Prop}{i:Nat}{x:Str}{v:V}{u:Value}{Q:Unit->Shared->Prop}(I:Inv X pins σ H s)(hN:X.N.Nodup)(hi:X.N[i]? = some x)(hx:Loc X.env.scope x)(r:RelV v u)
  (h:∀s',Inv X pins (σ.set i (some v)) H s'->(∃a,Heap.SameBut a s.heap s'.heap∧(a=X.env.locals∨X.env.cells.lookup x=some a))->Q () s') (hf:X.fn x=true∨X.env.scope.names.lookup x=some .local:=by first | exact .inl rfl | exact .inr rfl | assumption):wpAny M A (storeName X.env x u) Q E s:=by
 obtain⟨m,hn,hl⟩:=id I.loc
 have hcls:(X.env.scope.kind == .class||(X.env.scope.kind == .module&&X.env.locals != X.env.globals))=false:=by rw[I.ok.kind];rfl
 have hiσ:i<σ.length:=by rw[I.len];exact(aU.mp hi).1
 have cne:=I.cne
 have tracked:∀{a:Addr} {h':Heap},(∃o,s.heap.get? a=some o∧H a=none)->Heap.SameBut a s.heap h'->HOk X.prog X.w H h':=fun {a h'} ha hs b ob e=>by
  obtain⟨_,_,hfree⟩:=ha
  refine(I.hok b ob e).stay (fun c w' hc q=>(hs.2 c ?_).trans q) (fun _ q=>q) fun _ _ q=>q
  rintro rfl
  rcases hc with rfl | hc
  ·rw[hfree]at e;cases e
  ·rw[hfree]at hc;cases hc
 rcases hx with hk | hk
 ·refine wpAny_storeName_local hk hn (fun h' hn' hs=>?_) hcls
  obtain⟨oL,_,_,hoL,_⟩:=id hn
  refine h _ ⟨I.ok,I.os,I.bare,⟨fun b o e n hb hx=>?_,fun b o e n hb hx=>?_,I.base.free,fun b o e hx=>?_,I.base.tups,I.base.frzs,I.base.tbls⟩,⟨_,hn',fun j y v' e1 e2 e3=>?_⟩,fun y c e=>?_,I.free,I.freeC,fun p hp=>?_,tracked ⟨oL,hoL,I.free⟩ hs,by simpa using I.len⟩ ⟨_,hs,.inl rfl⟩
  ·exact(hs.2 b (az (aI (Heap.lt_size e) I.ok.above))).trans (I.base.keep b o e n hb hx)
  ·obtain⟨sl,e1⟩:=I.base.slot b o e n hb hx
   exact⟨sl,(hs.2 b (az (aI (Heap.lt_size e) I.ok.above))).trans e1⟩
  ·obtain⟨o',e1⟩:=I.base.there b o e hx
   exact⟨o',(hs.2 b (az (aI (Heap.lt_size e) I.ok.above))).trans e1⟩
  ·by_cases hj:j=i
   ·subst hj
    rw[hi]at e1;cases e1
    rw[eD hiσ]at e2
    cases e2
    exact⟨u,r,.inl ⟨hk,by simp⟩⟩
   ·rw[bv (Ne.symm hj)]at e2
    obtain⟨u',r',q⟩:=hl j y v' e1 e2 e3
    refine⟨u',r',?_⟩
    rcases q with⟨k,e⟩ | ⟨k,c,e,z⟩
    ·refine .inl ⟨k,?_⟩
     have:y≠x:=fun e=>hj (y6b hN e1 (e ▸ hi))
     simp[this,e]
    ·exact .inr ⟨k,c,e,z.sameBut hs (cne y c e)⟩
  ·obtain⟨w',z⟩:=I.cell y c e
   exact⟨w',z.sameBut hs (cne y c e)⟩
  ·obtain⟨e,n,ne,nf,d⟩:=I.pin p hp
   exact⟨(hs.2 p.1 ne).trans e,n,ne,nf,d⟩
 ·have hfn:X.fn x=true:=by
   rcases hf with z | z
   ·exact z
   ·rw[z]at hk;cases hk
  obtain⟨c,hc⟩:=I.ok.has x (.inl hk)
  obtain⟨w',z⟩:=I.cell x c hc
  refine wpAny_storeName_cell I.ok.kind hk hc z (fun h' hc' hs=>?_)
  obtain⟨oc,hoc,hocd⟩:=id z
  refine h { s with heap:=h' } ⟨I.ok,I.os,I.bare,⟨fun b o e n hb hx=>?_,fun b o e n hb hx=>?_,I.base.free,fun b o e hx=>?_,I.base.tups,I.base.frzs,I.base.tbls⟩,⟨m,hn.sameBut hs (Ne.symm (cne x c hc)),fun j y v' e1 e2 e3=>?_⟩,fun y c' e=>?_,I.free,I.freeC,fun p hp=>?_,tracked ⟨oc,hoc,I.freeC x c hc⟩ hs,by simpa using I.len⟩ ⟨c,hs,.inr hc⟩
  ·exact(hs.2 b (az (aI (Heap.lt_size e) (I.ok.cab x c hfn hc)))).trans (I.base.keep b o e n hb hx)
  ·obtain⟨sl,e1⟩:=I.base.slot b o e n hb hx
   exact⟨sl,(hs.2 b (az (aI (Heap.lt_size e) (I.ok.cab x c hfn hc)))).trans e1⟩
  ·obtain⟨o',e1⟩:=I.base.there b o e hx
   exact⟨o',(hs.2 b (az (aI (Heap.lt_size e) (I.ok.cab x c hfn hc)))).trans e1⟩
  ·by_cases hj:j=i
   ·subst hj
    rw[hi]at e1;cases e1
    rw[eD hiσ]at e2
    cases e2
    exact⟨u,r,.inr ⟨.inl hk,c,hc,hc'⟩⟩
   ·rw[bv (Ne.symm hj)]at e2
    obtain⟨u',r',q⟩:=hl j y v' e1 e2 e3
    refine⟨u',r',?_⟩
    rcases q with q | ⟨k,c',e,z'⟩
    ·exact .inl q
    ·refine .inr ⟨k,c',e,z'.sameBut hs ?_⟩
     rintro rfl
     exact hj (y6b hN e1 (I.ok.inj _ _ _ e hc ▸ hi))
  ·by_cases hcc:c'=c
   ·subst hcc;exact⟨_,hc'⟩
   ·obtain⟨w2,z2⟩:=I.cell y c' e
    exact⟨w2,z2.sameBut hs hcc⟩
  ·obtain⟨e,n,ne,nf,d⟩:=I.pin p hp
   refine⟨(hs.2 p.1 ?_).trans e,n,ne,nf,d⟩
   intro q
   rw[q,hoc]at e
   have q':oc=p.2:=Option.some.inj e
   exact d w' (by rw[←q'];exact hocd)
theorem y5S{M:Model}{A:Around}{E:Value->Shared->Prop}{i:Nat}{x:Str}{v:V}{u:Value}{Q:Unit->Shared->Prop}(I:Inv X pins σ H s)(hN:X.N.Nodup)(hi:X.N[i]? = some x)(hx:Loc X.env.scope x)(r:RelV v u)
  (h:∀s',Inv X pins (σ.set i (some v)) H s'->Q () s') (hf:X.fn x=true∨X.env.scope.names.lookup x=some .local:=by first | exact .inl rfl | exact .inr rfl | assumption):wpAny M A (storeName X.env x u) Q E s:=
 z8J I hN hi hx r (fun s' I' _=>h s' I') hf
theorem Inv.call'{s':Shared}{ch:List Addr}(I:Inv X pins σ H s)(ho:s'.os=s.os)(u:Un (frs X.stack) ch H H' s.heap s'.heap)(hok:HOk X.prog X.w H' s'.heap)(hg:AllBare s'.gens)
  (hch:∀b∈ch,(b∈X.ex∨X.s₀.heap.objs.size≤b)∧b≠X.env.locals∧(∀x c,X.env.cells.lookup x=some c->c≠b)∧∀p∈X.pn++pins,p.1≠b):Inv X pins σ H' s':=by
 obtain⟨h',g',d',t',o'⟩:=s'
 have e:o'=s.os:=ho
 subst e
 exact I.call (g':=g') (t':=t') (d':=d') u hok hg hch
end
abbrev XK:=Value->Option Addr->Hp->Prop
abbrev St:=List (Option V)
abbrev VK:=V->Hp->Prop
abbrev TE:=St->Hp->VK->Prop
abbrev TT:=St->Hp->(Bool->Hp->Prop)->Prop
abbrev TA:=St->Hp->(List V->Hp->Prop)->Prop
structure Ends where
 nx:St->Hp->Prop
 rt:VK
 bk:St->Hp->Prop:=fun _ _=>False
 ct:St->Hp->Prop:=fun _ _=>False
abbrev TS:=Ends->St->Hp->Prop
def EP(X:Cx)(pins:List (Addr×Obj))(σ:St)(Q:VK)(u:Value)(s':Shared):Prop:=∃v H',Inv X pins σ H' s'∧RelV v u∧Q v H'
def TP(X:Cx)(pins:List (Addr×Obj))(σ:St)(Q:Bool->Hp->Prop)(b:Bool)(s':Shared):Prop:=∃H',Inv X pins σ H' s'∧Q b H'
def AP(X:Cx)(pins:List (Addr×Obj))(σ:St)(Q:List V->Hp->Prop)(us:List Value)(s':Shared):Prop:=∃vs H',Inv X pins σ H' s'∧Vals vs us∧Q vs H'
def SP(X:Cx)(pins:List (Addr×Obj))(D:Ends)(f:Flow)(s':Shared):Prop:=
 match f with
 |.next=>∃σ' H',Inv X pins σ' H' s'∧D.nx σ' H'
 |.brk=>∃σ' H',Inv X pins σ' H' s'∧D.bk σ' H'
 |.cont=>∃σ' H',Inv X pins σ' H' s'∧D.ct σ' H'
 |.ret u=>∃v σ' H',Inv X pins σ' H' s'∧RelV v u∧D.rt v H'
def PE(X:Cx)(e:Expr)(t:TE):Prop:=
 ∀(pins:List (Addr×Obj)) (s:Shared) (σ:St) (H:Hp) (Q:VK),Inv X pins σ H s->t σ H Q->wpAny (model X.prog X.w) X.A (eval e X.env) (EP X pins σ Q) X.xe s
def PT(X:Cx)(e:Expr)(t:TT):Prop:=
 ∀(pins:List (Addr×Obj)) (s:Shared) (σ:St) (H:Hp) (Q:Bool->Hp->Prop),Inv X pins σ H s->t σ H Q->wpAny (model X.prog X.w) X.A (isTrue e X.env (eval e X.env)) (TP X pins σ Q) X.xe s
def PW(X:Cx)(e:Expr)(t:TT):Prop:=
 ∀(whole:Sem Value) (pins:List (Addr×Obj)) (s:Shared) (σ:St) (H:Hp) (Q:Bool->Hp->Prop),Inv X pins σ H s->t σ H Q->wpAny (model X.prog X.w) X.A (isTrue e X.env whole) (TP X pins σ Q) X.xe s
theorem PW.pt{X:Cx}{e:Expr}{t:TT}(h:PW X e t):PT X e t:=h _
def PA(X:Cx)(es:List Expr)(t:TA):Prop:=
 ∀(pos:Pos) (pins:List (Addr×Obj)) (s:Shared) (σ:St) (H:Hp) (Q:List V->Hp->Prop),Inv X pins σ H s->t σ H Q->wpAny (model X.prog X.w) X.A (spliced (fw pos (starEach es X.env))) (AP X pins σ Q) X.xe s
def PS(X:Cx)(st:Stmt)(t:TS):Prop:=
 ∀(pins:List (Addr×Obj)) (s:Shared) (σ:St) (H:Hp) (D:Ends),Inv X pins σ H s->t D σ H->wpAny (model X.prog X.w) X.A (exec st X.env) (SP X pins D) X.xe s
def PSs(X:Cx)(st:List Stmt)(t:TS):Prop:=
 ∀(pins:List (Addr×Obj)) (s:Shared) (σ:St) (H:Hp) (D:Ends),Inv X pins σ H s->t D σ H->wpAny (model X.prog X.w) X.A (execs st X.env) (SP X pins D) X.xe s
theorem thn{α:Type}{t:Sem α}{Q Q':α->Shared->Prop}{M:Model}{A:Around}{E:Value->Shared->Prop}{s:Shared}(h:wpAny M A t Q E s)(hQ:∀a s,Q a s->Q' a s):wpAny M A t Q' E s:=wpAny_mono h hQ fun _ _ x=>x
section
variable{X:Cx}
def y7r(i:Nat):TE:=fun σ H Q=>∃v,σ[i]? = some (some v)∧Q v H
def tC(v:V):TE:=fun _ H Q=>Q v H
theorem pe_var{i:Nat}{x:Str}{pos:Pos}(hN:X.N[i]? = some x)(hv:Vis X.env.scope x)(hd:(x==("__debug__" : Str))=false:=by decide)(hcd:(x==("__classdict__" : Str))=false:=by decide):PE X (.Name x pos) (y7r i):=by
 intro pins s σ H Q I h
 obtain⟨v,e,h⟩:=h
 obtain⟨m,hn,hl⟩:=I.loc
 obtain⟨u,r,l⟩:=hl i x v hN e hv
 have fin:EP X pins σ Q u s:=⟨v,H,I,r,h⟩
 rcases l with⟨hk,hm⟩ | ⟨hk,c,hc,hcell⟩
 ·exact wpAny_Name (wpAny_loadName_local I.ok.kind hk hn hm fin) hd
 ·rcases hk with hk | hk
  ·exact wpAny_Name (wpAny_loadName_cell I.ok.kind hk hc hcell fin) hd
  ·exact wpAny_Name (wpAny_loadName_free I.ok.kind hk hc hcell fin hcd) hd
theorem pe_int{i j pos}:PE X (.Constant (.int i) j pos) (tC (.int i)):=fun _ _ _ H _ I h=>wpAny_Constant_int ⟨.int i,H,I.tok _,⟨_,rfl⟩,h⟩
theorem pe_bl{b j pos}:PE X (.Constant (.bool b) j pos) (tC (.bl b)):=fun _ _ _ H _ I h=>Constant_bool ⟨.bl b,H,I,rfl,h⟩
theorem pe_non{j pos}:PE X (.Constant .none j pos) (tC .non):=fun _ _ _ H _ I h=>Constant_none ⟨.non,H,I,rfl,h⟩
theorem pe_str{x j pos}:PE X (.Constant (.str x) j pos) (tC (.str x)):=fun _ _ _ H _ I h=>Calls.Constant_str ⟨.str x,H,I.tok _,⟨_,rfl⟩,h⟩
def Gl(X:Cx)(x:Str):Prop:=X.env.kindOf x=some .globalImplicit
theorem y3Q{E:Value->Shared->Prop}{pins:List (Addr×Obj)}{s:Shared}{σ:St}{H:Hp}{x:Str}{u:Value}{pos:Pos}{Q:Value->Shared->Prop}(I:Inv X pins σ H s)(hg:Gl X x)(hm:X.mg x=some u)(h:Q u s)
  (hd:(x==("__debug__" : Str))=false:=by decide):wpAny (model X.prog X.w) X.A (eval (.Name x pos) X.env) Q E s:=
 Calls.Name_function_global I.ok.kind hg (Calls.loadGlobal_global (by rw[I.ok.glob];exact I.mod.glob.keeps I.bk) hm h) hd
theorem z4G{E:Value->Shared->Prop}{pins:List (Addr×Obj)}{s:Shared}{σ:St}{H:Hp}{x:Str}{u:Value}{pos:Pos}{Q:Value->Shared->Prop}(I:Inv X pins σ H s)(hg:Gl X x)(hm:X.mg x=none)(hv:fy x=some u)(h:Q u s)
  (hn:x ≠ "__name__" := by decide) (hd:(x==("__debug__" : Str))=false:=by decide):wpAny (model X.prog X.w) X.A (eval (.Name x pos) X.env) Q E s:=by
 obtain⟨mb,h1,h2⟩:=I.mod.blt
 exact Calls.Name_function_global I.ok.kind hg (Calls.loadGlobal_builtin (by rw[I.ok.glob];exact I.mod.glob.keeps I.bk) hm (by rw[I.ok.blt];exact h1.keeps I.bk) ((h2 x hn).trans hv) h) hd
theorem pe_bltn{x:Str}{v:V}{u:Value}{pos:Pos}(hg:Gl X x)(hm:X.mg x=none)(hv:fy x=some u)(r:RelV v u)(hn:x ≠ "__name__" := by decide)(hd:(x==("__debug__" : Str))=false:=by decide):PE X (.Name x pos) (tC v):=
 fun _ _ _ H _ I h=>z4G I hg hm hv ⟨v,H,I,r,h⟩ hn hd
variable{a b:Expr}{ta tb:TE}{pos:Pos}
def PC(X:Cx)(op:CmpOp)(a b:Expr)(t:TE):Prop:=
 ∀(pins:List (Addr×Obj)) (s:Shared) (σ:St) (H:Hp) (Q:VK),Inv X pins σ H s->t σ H Q →
  wpAny (model X.prog X.w) X.A (eval a X.env) (fun v s₁=>wpAny (model X.prog X.w) X.A (eval b X.env) (fun u s₂=>wpAny (model X.prog X.w) X.A (compareOp op v u) (EP X pins σ Q) X.xe s₂) X.xe s₁) X.xe s
theorem x2C(b:Expr){op:CmpOp}(h:op≠.In)(h2:op≠.NotIn):ft op b=false:=by
 have e1:(op==CmpOp.In)=false:=by cases op <;> first | rfl | exact absurd rfl h
 have e2:(op==CmpOp.NotIn)=false:=by cases op <;> first | rfl | exact absurd rfl h2
 cases b <;> simp[ft,e1,e2]
def tNotN(ta:TE):TE:=fun σ H Q=>ta σ H fun x H1=>Q (.bl (!decide (x = .non))) H1
theorem RelV.none_iff{x:V}{v:Value}(r:RelV x v):(v==Value.none)=decide (x = .non):=by
 cases x with
 |non=>cases r;rfl
 |bl _=>cases r;rfl
 |int _=>obtain⟨t,rfl⟩:=r;rfl
 |str _=>obtain⟨t,rfl⟩:=r;rfl
 |byt _=>obtain⟨t,rfl⟩:=r;rfl
 |flt _=>obtain⟨t,rfl⟩:=r;rfl
 |ref _=>cases r;rfl
 |ty _=>cases r;rfl
theorem pc_notN{j pos'}(ha:PE X a ta):PC X .IsNot a (.Constant .none j pos') (tNotN ta):=by
 intro pins s σ H Q I h
 refine thn (ha pins s σ H _ I h) fun v s1 ⟨x,H1,I1,r1,q1⟩=>?_
 exact Constant_none (isnot_none_gen ⟨.bl _,H1,I1,by rw[r1.none_iff];rfl,q1⟩)
def tB(t:TE):TT:=fun σ H Q=>t σ H fun x H1=>∃c,x = .bl c∧Q c H1
theorem x1F{op:CmpOp}{t:TE}(h:PC X op a b t)(h1:ft op b=false:=by first | exact x2C _ (by decide) (by decide) | rfl):PT X (.Compare a [op] [b] pos) (tB t):=by
 intro pins s σ H Q I hw
 refine wpAny_isTrue_Compare1 (thn (h pins s σ H _ I hw) fun v s1 h1=>thn h1 fun u s2 h2=>thn h2 fun c s3 ⟨x,H1,I1,r1,q1⟩=>?_) h1
 obtain⟨d,rfl,q⟩:=q1
 cases r1
 exact wpAny_truthy_bool ⟨H1,I1,q⟩
variable{tA tB':TT}{rest:List Expr}
def tAnd(t u:TT):TT:=fun σ H Q=>t σ H fun c H1=>if c=true then u σ H1 Q else Q false H1
def tOr(t u:TT):TT:=fun σ H Q=>t σ H fun c H1=>if c=true then Q true H1 else u σ H1 Q
def tNot(t:TT):TT:=fun σ H Q=>t σ H fun c H1=>Q (!c) H1
theorem pw_and1(ha:PT X a tA):PW X (.BoolOp .And [a] pos) tA:=by
 intro wh pins s σ H Q I h
 refine isTrue_and (thn (ha pins s σ H Q I h) fun c s1 e=>?_)
 cases c with
 |true=>exact isTrue_and_nil e
 |false=>exact e
theorem pw_or1(ha:PT X a tA):PW X (.BoolOp .Or [a] pos) tA:=by
 intro wh pins s σ H Q I h
 refine isTrue_or (thn (ha pins s σ H Q I h) fun c s1 e=>?_)
 cases c with
 |false=>exact isTrue_or_nil e
 |true=>exact e
theorem pw_and(ha:PT X a tA)(hb:PW X (.BoolOp .And (b::rest) pos) tB'):PW X (.BoolOp .And (a::b::rest) pos) (tAnd tA tB'):=by
 intro wh pins s σ H Q I h
 refine isTrue_and (thn (ha pins s σ H _ I h) fun c s1 ⟨H1,I1,q1⟩=>?_)
 cases c with
 |true=>exact hb wh pins s1 σ H1 Q I1 q1
 |false=>exact⟨H1,I1,q1⟩
theorem pw_or(ha:PT X a tA)(hb:PW X (.BoolOp .Or (b::rest) pos) tB'):PW X (.BoolOp .Or (a::b::rest) pos) (tOr tA tB'):=by
 intro wh pins s σ H Q I h
 refine isTrue_or (thn (ha pins s σ H _ I h) fun c s1 ⟨H1,I1,q1⟩=>?_)
 cases c with
 |true=>exact⟨H1,I1,q1⟩
 |false=>exact hb wh pins s1 σ H1 Q I1 q1
theorem pt_not(ha:PT X a tA):PT X (.UnaryOp .Not a pos) (tNot tA):=by
 intro pins s σ H Q I h
 exact isTrue_not (ha pins s σ H (fun c H1=>Q (!c) H1) I h)
def tAndV(ta tb:TE):TE:=fun σ H Q=>ta σ H fun x H1=>∃c,x = .bl c∧if c=true then tb σ H1 Q else Q (.bl false) H1
def tNotV(ta:TE):TE:=fun σ H Q=>ta σ H fun x H1=>∃c,x = .bl c∧Q (.bl (!c)) H1
theorem pe_one{op}{t:TE}(h:PE X a t):PE X (.BoolOp op [a] pos) t:=fun pins s σ H Q I hw=>BoolOp_one (h pins s σ H Q I hw)
theorem pe_and(ha:PE X a ta)(hb:PE X (.BoolOp .And (b::rest) pos) tb):PE X (.BoolOp .And (a::b::rest) pos) (tAndV ta tb):=by
 intro pins s σ H Q I h
 refine BoolOp_and (thn (ha pins s σ H _ I h) fun v s1 ⟨x,H1,I1,r1,q1⟩=>?_)
 obtain⟨c,rfl,q1⟩:=q1
 cases r1
 refine wpAny_truthy_bool ?_
 cases c with
 |true=>exact hb pins s1 σ H1 Q I1 q1
 |false=>exact⟨.bl false,H1,I1,rfl,q1⟩
theorem pe_not(ha:PE X a ta):PE X (.UnaryOp .Not a pos) (tNotV ta):=by
 intro pins s σ H Q I h
 refine UnaryOp_ (thn (ha pins s σ H _ I h) fun v s1 ⟨x,H1,I1,r1,q1⟩=>?_)
 obtain⟨c,rfl,q1⟩:=q1
 cases r1
 exact not_of (wpAny_truthy_bool ⟨.bl (!c),H1,I1,rfl,q1⟩)
def tIf(t:TT)(ta tb:TE):TE:=fun σ H Q=>t σ H fun c H1=>if c=true then ta σ H1 Q else tb σ H1 Q
theorem x3C{c:Expr}(hc:PT X c tA)(ha:PE X a ta)(hb:PE X b tb):PE X (.IfExp c a b pos) (tIf tA ta tb):=by
 intro pins s σ H Q I h
 refine wpAny_IfExp (thn (hc pins s σ H _ I h) fun d s1 ⟨H1,I1,q1⟩=>?_)
 cases d with
 |true=>exact ha pins s1 σ H1 Q I1 q1
 |false=>exact hb pins s1 σ H1 Q I1 q1
end
def SqL(K:aa)(H:Hp)(a:Addr)(xs:List V):Prop:=
 Rd H a (.lst xs) ∨
  ∃(o:Obj) (its:Array Value) (n:Nat),K.lookup a=some o∧o.cls = .type "list" ∧ o.dict=none∧o.data = .seq its n∧its.size≤sizeLine∧Vals xs its.toList
def SqT(K:aa)(H:Hp)(a:Addr)(xs:List V):Prop:=
 Rd H a (.tup xs) ∨
  ∃(o:Obj) (its:Array Value) (n:Nat),K.lookup a=some o∧(o.cls = .type "tuple" ∧ o.dict=none)∧o.data = .seq its n∧its.size≤sizeLine∧Vals xs its.toList
def absV:Value->Option V
 |.none=>some .non
 |.bool b=>some (.bl b)
 |.int i _=>some (.int i)
 |.str x _=>some (.str x)
 |.bytes b _=>some (.byt b)
 |.float b _=>some (.flt b)
 |.ref a=>some (.ref a)
 |.type n=>some (.ty n)
 |_=>none
theorem RelV.abs{x:V}{u:Value}(r:RelV x u):absV u=some x:=by
 cases x with
 |non=>cases r;rfl
 |bl _=>cases r;rfl
 |int _=>obtain⟨t,rfl⟩:=r;rfl
 |str _=>obtain⟨t,rfl⟩:=r;rfl
 |byt _=>obtain⟨t,rfl⟩:=r;rfl
 |flt _=>obtain⟨t,rfl⟩:=r;rfl
 |ref _=>cases r;rfl
 |ty _=>cases r;rfl
theorem RelV.inj{x y:V}{u:Value}(r:RelV x u)(q:RelV y u):x=y:=Option.some.inj (r.abs.symm.trans q.abs)
theorem Vals.inj:∀{xs ys:List V} {us:List Value},Vals xs us->Vals ys us->xs=ys
 |_,_,_,.nil,.nil=>rfl
 |_,_,_,.cons r t,.cons r' t'=>by rw[r.inj r',Vals.inj t t']
section
variable{X:Cx}{pins:List (Addr×Obj)}{σ:St}{H:Hp}{s:Shared}{a:Addr}{xs ys:List V}
theorem SqL.of{K:aa}(h:H a=some (.lst xs)):SqL K H a xs:=.inl (.inl h)
theorem SqT.of{K:aa}(h:H a=some (.tup xs)):SqT K H a xs:=.inl (.inl h)
theorem Inv.list(I:Inv X pins σ H s)(h:SqL X.K H a xs):∃its:List Value,Vals xs its∧PlainL s.heap a its.toArray∧xs.length≤sizeLine:=by
 rcases h with h | ⟨o,its,n,hk,hc,hd,hs,hz,r⟩
 ·obtain⟨z,its,n,r,e⟩:=h.ok I.hok
  exact⟨its,r,⟨_,n,e,rfl,rfl,rfl⟩,z⟩
 ·refine⟨its.toList,r,⟨o,n,I.kIn a o hk,hc,hd,by simpa using hs⟩,?_⟩
  have e:=r.length
  simp only[bJ]at e
  omega
theorem Inv.tuple(I:Inv X pins σ H s)(h:SqT X.K H a xs):∃its:List Value,Vals xs its∧IsTup s.heap a its.toArray∧xs.length≤sizeLine:=by
 rcases h with h | ⟨o,its,n,hk,hc,hs,hz,r⟩
 ·obtain⟨z,its,r,p⟩:=h.ok I.hok
  exact⟨its,r,p.is,z⟩
 ·refine⟨its.toList,r,⟨o,I.kIn a o hk,hc.1,n,by simpa using hs⟩,?_⟩
  have e:=r.length
  simp only[bJ]at e
  omega
theorem Inv.list_inj(I:Inv X pins σ H s)(h:SqL X.K H a xs)(h':SqL X.K H a ys):xs=ys:=by
 obtain⟨its,r,⟨o,n,e,_,_,d⟩,_⟩:=I.list h
 obtain⟨its',r',⟨o',n',e',_,_,d'⟩,_⟩:=I.list h'
 rw[e]at e';cases e'
 rw[d]at d'
 injection d' with d1 _
 have:its=its':=by simpa using congrArg Array.toList d1
 subst this
 exact r.inj r'
theorem Inv.tuple_inj(I:Inv X pins σ H s)(h:SqT X.K H a xs)(h':SqT X.K H a ys):xs=ys:=by
 obtain⟨its,r,⟨o,e,_,n,d⟩,_⟩:=I.tuple h
 obtain⟨its',r',⟨o',e',_,n',d'⟩,_⟩:=I.tuple h'
 rw[e]at e';cases e'
 rw[d]at d'
 injection d' with d1 _
 have:its=its':=by simpa using congrArg Array.toList d1
 subst this
 exact r.inj r'
end
abbrev Cx.wish(X:Cx)(E:Value->Shared->Prop):Cx:={ X with xe:=E }
abbrev Cx.nox(X:Cx):Cx:=X.wish fun _ _=>False
theorem Cx.Ok.wish{X:Cx}(ok:X.Ok)(E:Value->Shared->Prop):(X.wish E).Ok:=
 ⟨ok.mod,ok.kind,ok.glob,ok.blt,ok.above,ok.inj,ok.has,ok.cab,ok.hd,ok.frames,ok.stk,ok.exf,ok.bs,ok.bsz,ok.noex,ok.exfs,ok.funs,ok.frf⟩
theorem Cx.Ok.unwish{X:Cx}{E:Value->Shared->Prop}(ok:(X.wish E).Ok):X.Ok:=
 ⟨ok.mod,ok.kind,ok.glob,ok.blt,ok.above,ok.inj,ok.has,ok.cab,ok.hd,ok.frames,ok.stk,ok.exf,ok.bs,ok.bsz,ok.noex,ok.exfs,ok.funs,ok.frf⟩
section
variable{X:Cx}{pins:List (Addr×Obj)}{σ:St}{H:Hp}{s:Shared}{E:Value->Shared->Prop}
theorem Inv.wish(I:Inv X pins σ H s)(E:Value->Shared->Prop):Inv (X.wish E) pins σ H s:=⟨I.ok.wish E,I.os,I.bare,I.base,I.loc,I.cell,I.free,I.freeC,I.pin,I.hok,I.len⟩
theorem Inv.unwish(I:Inv (X.wish E) pins σ H s):Inv X pins σ H s:=⟨I.ok.unwish,I.os,I.bare,I.base,I.loc,I.cell,I.free,I.freeC,I.pin,I.hok,I.len⟩
theorem SP.unwish{D:Ends}{f:Flow}{s':Shared}(h:SP (X.wish E) pins D f s'):SP X pins D f s':=by
 cases f with
 |next=>obtain⟨σ',H',I,q⟩:=h;exact⟨σ',H',I.unwish,q⟩
 |brk=>obtain⟨σ',H',I,q⟩:=h;exact⟨σ',H',I.unwish,q⟩
 |cont=>obtain⟨σ',H',I,q⟩:=h;exact⟨σ',H',I.unwish,q⟩
 |ret u=>obtain⟨v,σ',H',I,r,q⟩:=h;exact⟨v,σ',H',I.unwish,r,q⟩
theorem PSs.nox{st:List Stmt}{t:TS}(h:PSs X.nox st t):PSs X st t:=fun pins s σ H D I hw=>
 wpAny_mono (h pins s σ H D (I.wish _) hw) (fun _ _ q=>q.unwish) fun _ _ z=>False.elim z
end
section
variable{X:Cx}{st:Stmt}{rest:List Stmt}{t u:TS}{e:Expr}{te:TE}{pos:Pos}
def tNext:TS:=fun D σ H=>D.nx σ H
def tSeq(t u:TS):TS:=fun D σ H=>t { D with nx:=u D } σ H
theorem pss_nil:PSs X [] tNext:=fun _ _ σ H _ I h=>wpAny_execs_nil ⟨σ,H,I,h⟩
theorem x2W(h1:PS X st t)(h2:PSs X rest u):PSs X (st::rest) (tSeq t u):=by
 intro pins s σ H D I h
 refine wpAny_execs_cons (thn (h1 pins s σ H { D with nx:=u D } I h) fun f s1 q=>?_)
 cases f with
 |next=>
  obtain⟨σ',H',I',q⟩:=q
  exact h2 pins s1 σ' H' D I' q
 |ret v=>exact q
 |brk=>exact q
 |cont=>exact q
theorem pss_one(h1:PS X st t):PSs X [st] t:=by
 intro pins s σ H D I h
 refine wpAny_execs_cons (thn (h1 pins s σ H D I h) fun f s1 q=>?_)
 cases f with
 |next=>exact wpAny_execs_nil q
 |ret v=>exact q
 |brk=>exact q
 |cont=>exact q
theorem Inv.quiet{pins:List (Addr×Obj)}{σ:St}{H:Hp}{s:Shared}(I:Inv X pins σ H s):interactive X.env=false:=by simp[interactive,I.ok.kind]
def tDrop(te:TE):TS:=fun D σ H=>te σ H fun _ H1=>D.nx σ H1
theorem z6U(he:PE X e te)(hs:swapsWith e none pos.line X.env=pure false:=by rfl):PS X (.Expr e pos) (tDrop te):=by
 intro pins s σ H D I h
 exact wpAny_Expr_any (thn (he pins s σ H _ I h) fun v s1 ⟨x,H1,I1,r1,q1⟩=>⟨σ,H1,I1,q1⟩) I.quiet hs
def tRet(te:TE):TS:=fun D σ H=>te σ H D.rt
theorem y1J(he:PE X e te):PS X (.Return (some e) pos) (tRet te):=by
 intro pins s σ H D I h
 exact wpAny_Return_some (thn (he pins s σ H _ I h) fun v s1 ⟨x,H1,I1,r1,q1⟩=>⟨x,σ,H1,I1,r1,q1⟩)
def tIfS(c:TT)(t u:TS):TS:=fun D σ H=>c σ H fun b H1=>if b=true then t D σ H1 else u D σ H1
theorem ps_if{c:Expr}{a b:List Stmt}{tc:TT}(hc:PT X c tc)(ha:PSs X a t)(hb:PSs X b u):PS X (.If c a b pos) (tIfS tc t u):=by
 intro pins s σ H D I h
 refine wpAny_If (thn (hc pins s σ H _ I h) fun d s1 ⟨H1,I1,q1⟩=>?_)
 cases d with
 |true=>exact ha pins s1 σ H1 D I1 q1
 |false=>exact hb pins s1 σ H1 D I1 q1
end
abbrev TG:=V->St->Hp->(St->Hp->Prop)->Prop
abbrev TGs:=List V->St->Hp->(St->Hp->Prop)->Prop
def PG(X:Cx)(target:Expr)(t:TG):Prop:=
 ∀(pins:List (Addr×Obj)) (s:Shared) (σ:St) (H:Hp) (v:V) (u:Value) (Q:St->Hp->Prop),Inv X pins σ H s->RelV v u->t v σ H Q →
  wpAny (model X.prog X.w) X.A (fD target X.env u) (fun _ s'=>∃σ' H',Inv X pins σ' H' s'∧Q σ' H') X.xe s
def PGs(X:Cx)(ts:List Expr)(t:TGs):Prop:=
 ∀(pins:List (Addr×Obj)) (s:Shared) (σ:St) (H:Hp) (vs:List V) (us:List Value) (Q:St->Hp->Prop),Inv X pins σ H s->Vals vs us->t vs σ H Q →
  wpAny (model X.prog X.w) X.A (assignInOrder ((fu ts X.env).map (·.2)) us) (fun _ s'=>∃σ' H',Inv X pins σ' H' s'∧Q σ' H') X.xe s
abbrev TSet:=V->V->V->Hp->(Hp->Prop)->Prop
def PSet(X:Cx)(t:TSet):Prop:=
 ∀(pins:List (Addr×Obj)) (s:Shared) (σ:St) (H:Hp) (o i v:V) (ov iv u:Value) (Q:Hp->Prop),Inv X pins σ H s->RelV o ov->RelV i iv->RelV v u->t o i v H Q →
  wpAny (model X.prog X.w) X.A (setItem ov iv u) (fun _ s'=>∃H',Inv X pins σ H' s'∧Q H') X.xe s
section
variable{X:Cx}{pos:Pos}
def z2W(i:Nat):TG:=fun v σ H Q=>Q (σ.set i (some v)) H
theorem z0l{i:Nat}{x:Str}(hN:X.N.Nodup)(hi:X.N[i]? = some x)(hx:Loc X.env.scope x)(hf:X.fn x=true∨X.env.scope.names.lookup x=some .local:=by first | exact .inl rfl | exact .inr rfl | assumption):PG X (.Name x pos) (z2W i):=by
 intro pins s σ H v u Q I r h
 exact wpAny_assign_Name (y5S I hN hi hx r (fun s' I'=>⟨_,H,I',h⟩) hf)
def gNil:TGs:=fun vs σ H Q=>vs=[]∧Q σ H
def y9z(t:TG)(u:TGs):TGs:=fun vs σ H Q=>∃v r,vs=v::r∧t v σ H fun σ' H'=>u r σ' H' Q
theorem y8H:PGs X [] gNil:=by
 intro pins s σ H vs us Q I r h
 obtain⟨e,h⟩:=h
 subst e
 cases r
 exact assignInOrder_nil ⟨σ,H,I,h⟩
theorem z7U{e:Expr}{es:List Expr}{t:TG}{u:TGs}(h1:PG X e t)(h2:PGs X es u)
  (hs:(fu (e::es) X.env).map (·.2)=fD e X.env::(fu es X.env).map (·.2):=by rfl):PGs X (e::es) (y9z t u):=by
 intro pins s σ H vs us Q I r h
 obtain⟨v,vr,e1,h⟩:=h
 subst e1
 cases r with
 |cons r rr=>
  rw[hs]
  refine assignInOrder_cons (thn (h1 pins s σ H _ _ _ I r h) fun _ s1 ⟨σ1,H1,I1,q1⟩=>?_)
  exact h2 pins s1 σ1 H1 _ _ Q I1 rr q1
def gTup(K:aa)(n:Nat)(t:TGs):TG:=fun v σ H Q=>∃a xs,v = .ref a∧SqT K H a xs∧xs.length=n∧t xs σ H Q
theorem x4x{es:List Expr}{k:Nat}{t:TGs}{n:Nat}(hc:X.calm=true)(h:PGs X es t)
  (hn:(fu es X.env).length=n:=by rfl) (hst:(fu es X.env).findIdx? (·.1)=none:=by rfl):PG X (.Tuple es k pos) (gTup X.K n t):=by
 intro pins s σ H v u Q I r hw
 obtain⟨a,xs,e1,hq,hl,hw⟩:=hw
 subst e1
 cases r
 obtain⟨its,rv,ht,hz⟩:=I.tuple hq
 refine assign_Tuple_tuple (I.ok.hd hc) ht (by simp[hn,←hl,rv.length]) hst fun h' hx=>?_
 have I1:Inv X pins σ H { s with heap:=h' }:=I.kept (t':=s.toks) fun b o e=>hx b o (az (Heap.lt_size e)) e
 exact h pins _ σ H xs _ Q I1 (by simpa using rv) hw
def gSub(to ti:TE)(t:TSet):TG:=fun v σ H Q=>to σ H fun o H1=>ti σ H1 fun i H2=>t o i v H2 fun H3=>Q σ H3
theorem pg_sub{o i:Expr}{to ti:TE}{t:TSet}(ho:PE X o to)(hi:PE X i ti)(hs:PSet X t)
  (ha:∀v,fD (.Subscript o i pos) X.env v=(do
   let ov ←holding [v] (eval o X.env)
   let iv ←holding [v,ov] (eval i X.env)
   standAt pos
   holding [v,ov,iv] (setItem ov iv v)
   release [v,ov,iv] []):=by intro _;rfl):PG X (.Subscript o i pos) (gSub to ti t):=by
 intro pins s σ H v u Q I r h
 rw[ha]
 refine wpAny_bind (wpAny_holding (thn (ho pins s σ H _ I h) fun ov s1 ⟨x,H1,I1,r1,q1⟩=>?_))
 refine wpAny_bind (wpAny_holding (thn (hi pins s1 σ H1 _ I1 q1) fun iv s2 ⟨y,H2,I2,r2,q2⟩=>?_))
 refine wpAny_bind (wpAny_standAt (wpAny_bind (wpAny_holding (thn (hs pins s2 σ H2 x y v ov iv u _ I2 r1 r2 r q2) fun _ s3 ⟨H3,I3,q3⟩=>?_))))
 exact wpAny_release ⟨σ,H3,I3,q3⟩
def tAsg(te:TE)(g:TG):TS:=fun D σ H=>te σ H fun x H1=>g x σ H1 D.nx
theorem ps_asg{tg e:Expr}{te:TE}{g:TG}(he:PE X e te)(hg:PG X tg g)(hs:swapsWithSole [tg] e pos.line X.env=pure false:=by rfl)(hw:swappedStores [tg] e X.env=pure none:=by rfl)
  (h1:(fu [tg] X.env).map (·.2)=[fD tg X.env]:=by rfl):PS X (.Assign [tg] e pos) (tAsg te g):=by
 intro pins s σ H D I h
 refine wpAny_Assign_stores (thn (he pins s σ H _ I h) fun v s1 ⟨x,H1,I1,r1,q1⟩=>?_) hs hw
 rw[h1]
 exact thn (hg pins s1 σ H1 x v _ I1 r1 q1) fun _ s2 q=>q
theorem ps_set{i:Nat}{x:Str}{e:Expr}{te:TE}{pos':Pos}(hN:X.N.Nodup)(hi:X.N[i]? = some x)(hx:Loc X.env.scope x)(he:PE X e te)(hs:swapsWith e (some (.Name x pos')) pos.line X.env=pure false:=by rfl)(hf:X.fn x=true∨X.env.scope.names.lookup x=some .local:=by first | exact .inl rfl | exact .inr rfl | assumption):
  PS X (.Assign [.Name x pos'] e pos) (tAsg te (z2W i)):=by
 intro pins s σ H D I h
 refine wpAny_Assign_Name (thn (he pins s σ H _ I h) fun v s1 ⟨y,H1,I1,r1,q1⟩=>?_) hs
 exact y5S I1 hN hi hx r1 (fun s2 I2=>⟨_,H1,I2,q1⟩) hf
end
section
variable{X:Cx}{pos:Pos}
def tWhile(c:TT)(tb:TS):TS:=fun D σ H=>∃W:Nat->St->Hp->Prop,(∃m,W m σ H)∧∀m σ H,W m σ H →
 c σ H fun b H1=>if b=true then ∃N:St->Hp->Prop,(∀σ' H',N σ' H'->∃m',m'<m∧W m' σ' H')∧tb { D with nx:=N,ct:=N,bk:=D.nx } σ H1 else D.nx σ H1
theorem x3f{c:Expr}{body:List Stmt}{tc:TT}{tb:TS}(hp:PassesOwn (model X.prog X.w) X.A X.env X.xe)(hc:PT X c tc)(hb:PSs X body tb):PS X (.While c body [] pos) (tWhile tc tb):=by
 intro pins s σ H D I h
 obtain⟨W,⟨m0,w0⟩,turn⟩:=h
 refine wpAny_While (codeAny_whileLoop (fun n s'=>∃σ' H',Inv X pins σ' H' s'∧W n σ' H') ?_ m0 ⟨σ,H,I,w0⟩)
 rintro n s1 ⟨σ1,H1,I1,w1⟩
 refine wpAny_passesOwn hp (thn (hc pins s1 σ1 H1 _ I1 (turn n σ1 H1 w1)) fun b s2 ⟨H2,I2,q2⟩=>?_)
 cases b with
 |true=>
  obtain⟨N,hN,q2⟩:=q2
  rw[if_pos rfl]
  refine wpAny_passesOwn hp (thn (hb pins s2 σ1 H2 _ I2 q2) fun f s3 q3=>?_)
  cases f with
  |next=>
   obtain⟨σ3,H3,I3,n3⟩:=q3
   obtain⟨m',hm,w3⟩:=hN σ3 H3 n3
   exact⟨m',hm,σ3,H3,I3,w3⟩
  |cont=>
   obtain⟨σ3,H3,I3,n3⟩:=q3
   obtain⟨m',hm,w3⟩:=hN σ3 H3 n3
   exact⟨m',hm,σ3,H3,I3,w3⟩
  |brk=>exact q3
  |ret v=>exact q3
 |false=>
  rw[if_neg aj]
  exact wpAny_execs_nil ⟨σ1,H2,I2,q2⟩
end
structure It where
 go:Nat->Hp->Prop
 yld:Nat->Hp->V->Hp->Prop
 stop:Nat->Hp->Prop
def y2k(X:Cx)(pins:List (Addr×Obj))(H:Hp)(b:Addr):Prop:=
 H b=none∧b≠X.env.locals∧b∉X.fs∧(b∈X.ex∨X.s₀.heap.objs.size≤b)∧(∀x c,X.env.cells.lookup x=some c->c≠b)∧∀p∈X.pn++pins,p.1≠b
theorem Inv.fpOk{X:Cx}{pins:List (Addr×Obj)}{σ:St}{H H':Hp}{s:Shared}{b:Addr}(I:Inv X pins σ H s)(hb:s.heap.objs.size≤b)(hn:H' b=none):y2k X pins H' b:=by
 refine⟨hn,bP (aI I.lt hb),I.nofs hb,.inr (aG I.sz hb),fun x c e z=>?_,fun p hp z=>?_⟩
 ·obtain⟨v,q⟩:=I.cell x c e
  exact absurd (aI q.lt (by rw[z];exact hb)) (bj _)
 ·exact absurd (aI (Heap.lt_size (I.pin p hp).1) (by rw[z];exact hb)) (bj _)
structure Turn(P:dw)(w:fm)(K:aa)(tg:Expr)(J:It)(fp:List Addr)(it:Addr)(tn:Nat->Heap->Prop):Prop where
 mem:it∈fp
 obj:∀i h,tn i h->∀b∈fp,∃o,h.get? b=some o∧∀v,o.data≠.cell v
 keep:∀i h h',tn i h->(∀b∈fp,∀o,h.get? b=some o->h'.get? b=some o)->tn i h'
 item:∀(X:Cx),X.prog=P->X.w=w->X.K=K->X.calm=true->∀(i:Nat) (pins:List (Addr×Obj)) (s:Shared) (σ:St) (H:Hp) (E:Value->Shared->Prop),Inv X pins σ H s->(∀b∈fp,y2k X pins H b)->tn i s.heap->J.go i H →
  wpAny (model P w) X.A (pyNext (.ref it)) (fun r s1=>∃u,r=some u ∧
   wpAny (model P w) X.A (letOwnedTupleGo tg (.ref it) u) (fun _ s2=>∃x H',Inv X pins σ H' s2∧RelV x u∧J.yld i H x H'∧tn (i+1) s2.heap∧∀b∈fp,H' b=none) E s1) E s
 done:∀(X:Cx),X.prog=P->X.w=w->X.K=K->X.calm=true->∀(i:Nat) (pins:List (Addr×Obj)) (s:Shared) (σ:St) (H:Hp) (E:Value->Shared->Prop),Inv X pins σ H s->(∀b∈fp,y2k X pins H b)->tn i s.heap->J.stop i H →
  wpAny (model P w) X.A (pyNext (.ref it)) (fun r s1=>r=none∧Inv X pins σ H s1) E s
 self:∀(A:Around) (i:Nat) (s:Shared) (Q:Value->Shared->Prop) (E:Value->Shared->Prop),tn i s.heap->Q (.ref it) s->wpAny (model P w) A (pyIter (.ref it)) Q E s
abbrev TI:=St->Hp->(It->Hp->Prop)->Prop
def PIE(X:Cx)(pins:List (Addr×Obj))(σ:St)(tg:Expr)(R:It->Hp->Prop)(itv:Value)(s2:Shared):Prop:=
 ∃(it:Addr) (fp:List Addr) (tn:Nat->Heap->Prop) (J:It) (H':Hp),itv = .ref it∧Inv X pins σ H' s2∧Turn X.prog X.w X.K tg J fp it tn∧tn 0 s2.heap∧(∀b∈fp,y2k X pins H' b)∧R J H'
def PI(X:Cx)(tg iter:Expr)(wi:TI):Prop:=
 ∀(pins:List (Addr×Obj)) (s:Shared) (σ:St) (H:Hp) (R:It->Hp->Prop),Inv X pins σ H s->wi σ H R →
  wpAny (model X.prog X.w) X.A (eval iter X.env) (fun v s1=>wpAny (model X.prog X.w) X.A (pyIter v) (PIE X pins σ tg R) X.xe s1) X.xe s
theorem x1l{M:Model}{A:Around}{E:Value->Shared->Prop}{s:Shared}{tg:Expr}{it:Addr}{u:Value}{o:Obj}{n:String}{vs:Array Value}{Q:Unit->Shared->Prop}(ho:s.heap.get? it=some o)(hc:o.cls = .type n)(hd:o.data = .fields vs)
  (hn:["enumerate", "zip", "dict_itemiterator", "dict_reverseitemiterator", "odict_iterator", "itertools.zip_longest", "itertools.pairwise"].contains n=false) (hQ:Q () s):wpAny M A (letOwnedTupleGo tg (.ref it) u) Q E s:=by
 unfold letOwnedTupleGo
 cases tg <;> first
  |exact wpAny_pure hQ
  | (cases u <;> first
    |exact wpAny_pure hQ
    | (refine wpAny_bind (wpAny_load ho ?_)
       rw[hc,hd]
       show wpAny M A (if(["enumerate", "zip", "dict_itemiterator", "dict_reverseitemiterator", "odict_iterator", "itertools.zip_longest", "itertools.pairwise"].contains n&&vs[0]? == some (rawInt _))=true then _ else _) Q E s
       rw[if_neg (by intro h;rw[hn,dX]at h;cases h)]
       exact wpAny_pure hQ))
def Itl(K:aa)(a:Addr):It:=
 ⟨fun i H=>∃xs x,SqL K H a xs∧xs[i]? = some x,fun i H x H'=>H'=H∧∀xs,SqL K H a xs->xs[i]? = some x,fun i H=>∃xs,SqL K H a xs∧xs.length≤i⟩
def Itt(K:aa)(a:Addr):It:=
 ⟨fun i H=>∃xs x,SqT K H a xs∧xs[i]? = some x,fun i H x H'=>H'=H∧∀xs,SqT K H a xs->xs[i]? = some x,fun i H=>∃xs,SqT K H a xs∧xs.length≤i⟩
def Itr(lo:Int)(n:Nat):It:=⟨fun i _=>i<n,fun i H x H'=>H'=H∧x = .int (lo+i),fun i _=>n≤i⟩
theorem y8x{P:dw}{w:fm}{K:aa}{tg:Expr}(a it:Addr):Turn P w K tg (Itl K a) [it] it (fun i h=>h.IsListIter it a i) where
 mem:=by simp
 obj:=fun i h st b hb=>by
  have e:b=it:=by simpa using hb
  subst e
  obtain⟨o,e,c,d⟩:=st
  exact⟨o,e,fun v z=>by rw[d]at z;cases z⟩
 keep:=fun i h h' st k=>st.at fun o e=>k it (by simp) o e
 item:=by
  intro X hP hw hK hc i pins s σ H E I hf st hg
  subst hP hw hK
  obtain⟨xs,x,hq,hx⟩:=hg
  obtain⟨its,rv,p,hz⟩:=I.list hq
  obtain⟨u,hu,ru⟩:=rv.get hx
  obtain⟨f0,f1,f2,f3,f4,f5⟩:=hf it (by simp)
  refine wpAny_pyNext_list_item st p.isList (x:=u) (by simpa using hu) fun h' st' sb=>?_
  have I1:Inv X pins σ H { s with heap:=h' }:=I.turned (t':=s.toks) (fun b o hb e=>(sb.2 b hb).trans e) f0 f1 f3 f4 f5
  obtain⟨o,e,c,d⟩:=id st'
  exact⟨u,rfl,x1l (s:={ s with heap:=h' }) e c d (by decide) ⟨x,H,I1,ru,⟨rfl,fun ys hy=>by rw[I.list_inj hy hq];exact hx⟩,st',fun b hb=>(hf b hb).1⟩⟩
 done:=by
  intro X hP hw hK hc i pins s σ H E I hf st hg
  subst hP hw hK
  obtain⟨xs,hq,hx⟩:=hg
  obtain⟨its,rv,p,hz⟩:=I.list hq
  obtain⟨f0,f1,f2,f3,f4,f5⟩:=hf it (by simp)
  have hl:=rv.length
  exact wpAny_pyNext_list_end (I.ok.hd hc) st p.isList (by simp;omega) fun h' eb=>⟨rfl,I.turned (t':=s.toks) (fun b o hb e=>eb b o hb e) f0 f1 f3 f4 f5⟩
 self:=fun _ _ _ _ _ st h=>wpAny_pyIter_listiter st h
theorem y7V{P:dw}{w:fm}{K:aa}{tg:Expr}(a it:Addr):Turn P w K tg (Itt K a) [it] it (fun i h=>h.IsTupleIter it a i) where
 mem:=by simp
 obj:=fun i h st b hb=>by
  have e:b=it:=by simpa using hb
  subst e
  obtain⟨o,e,c,d⟩:=st
  exact⟨o,e,fun v z=>by rw[d]at z;cases z⟩
 keep:=fun i h h' st k=>st.at fun o e=>k it (by simp) o e
 item:=by
  intro X hP hw hK hc i pins s σ H E I hf st hg
  subst hP hw hK
  obtain⟨xs,x,hq,hx⟩:=hg
  obtain⟨its,rv,p,hz⟩:=I.tuple hq
  obtain⟨u,hu,ru⟩:=rv.get hx
  obtain⟨f0,f1,f2,f3,f4,f5⟩:=hf it (by simp)
  refine wpAny_pyNext_tuple_item st (show s.heap.IsTuple a its.toArray from p) (x:=u) (by simpa using hu) fun h' st' sb=>?_
  have I1:Inv X pins σ H { s with heap:=h' }:=I.turned (t':=s.toks) (fun b o hb e=>(sb.2 b hb).trans e) f0 f1 f3 f4 f5
  obtain⟨o,e,c,d⟩:=id st'
  exact⟨u,rfl,x1l (s:={ s with heap:=h' }) e c d (by decide) ⟨x,H,I1,ru,⟨rfl,fun ys hy=>by rw[I.tuple_inj hy hq];exact hx⟩,st',fun b hb=>(hf b hb).1⟩⟩
 done:=by
  intro X hP hw hK hc i pins s σ H E I hf st hg
  subst hP hw hK
  obtain⟨xs,hq,hx⟩:=hg
  obtain⟨its,rv,p,hz⟩:=I.tuple hq
  obtain⟨f0,f1,f2,f3,f4,f5⟩:=hf it (by simp)
  have hl:=rv.length
  exact wpAny_pyNext_tuple_end (I.ok.hd hc) st (show s.heap.IsTuple a its.toArray from p) (by simp;omega) fun h' eb=>⟨rfl,I.turned (t':=s.toks) (fun b o hb e=>eb b o hb e) f0 f1 f3 f4 f5⟩
 self:=fun _ _ _ _ _ st h=>wpAny_pyIter_tupleiter st h
theorem y8o{P:dw}{w:fm}{K:aa}{tg:Expr}(it:Addr)(lo:Int)(n:Nat):Turn P w K tg (Itr lo n) [it] it (fun i h=>IsRangeIter h it (lo+(i:Nat)*1) ((n:Int) - (i:Nat)) 1) where
 mem:=by simp
 obj:=fun i h st b hb=>by
  have e:b=it:=by simpa using hb
  subst e
  exact⟨_,st,fun v z=>by
   have z':Data.fields _=Data.cell v:=z
   cases z'⟩
 keep:=fun i h h' st k=>k it (by simp) _ st
 item:=by
  intro X hP hw hK hc i pins s σ H E I hf st hg
  subst hP hw hK
  obtain⟨f0,f1,f2,f3,f4,f5⟩:=hf it (by simp)
  have W:=Walks.range (prog:=X.prog) (w:=X.w) (I.ok.hd hc) it lo 1 n
  refine W.item i s _ _ hg st fun v h' tk hv st' kk=>?_
  obtain⟨t,rfl⟩:=hv
  have I1:Inv X pins σ H { s with heap:=h',toks:=tk }:=I.turned (fun b o hb e=>kk b o (by simpa using hb) e) f0 f1 f3 f4 f5
  refine⟨_,rfl,x1l (s:={ s with heap:=h',toks:=tk }) (n := "range_iterator") st' rfl rfl (by decide) ⟨.int (lo+i),H,I1,⟨t,?_⟩,⟨rfl,rfl⟩,st',fun b hb=>(hf b hb).1⟩⟩
  rw[Int.mul_one]
 done:=by
  intro X hP hw hK hc i pins s σ H E I hf st hg
  subst hP hw hK
  obtain⟨f0,f1,f2,f3,f4,f5⟩:=hf it (by simp)
  exact wpAny_pyNext_range_end (I.ok.hd hc) st (by have:n≤i:=hg;omega) fun h' eb=>⟨rfl,I.turned (t':=s.toks) (fun b o hb e=>eb b o hb e) f0 f1 f3 f4 f5⟩
 self:=fun _ _ _ _ _ st h=>wpAny_pyIter_rangeiter st h
section
variable{X:Cx}{tg:Expr}
theorem x3J{pins:List (Addr×Obj)}{σ:St}{H:Hp}{s:Shared}{R:It->Hp->Prop}{E:Value->Shared->Prop}{lo hi:Int}{t u v:Tok}{tk:Nat}(I:Inv X pins σ H s)(h1:-(2 ^ 62)≤lo)(h2:lo<2 ^ 62)(h3:-(2 ^ 62)≤hi)(h4:hi<2 ^ 62)
  (q:R (Itr lo (hi - lo).toNat) H):wpAny (model X.prog X.w) X.A (pyIter (.ref s.heap.objs.size)) (PIE X pins σ tg R) E { s with heap:=s.heap.push { cls:=.type "range",data:=.fields #[.int lo t,.int hi u,.int 1 v] },toks:=tk }:=by
 refine wpAny_pyIter_range (IsRange.new ..) (small_one h1 h2 h3 h4) ?_
 have I1:Inv X pins σ H { s with heap:=s.heap.push { cls:=.type "range",data:=.fields #[.int lo t,.int hi u,.int 1 v] },toks:=tk }:=I.kept fun b o e=>Heap.get?_push_of_some _ e
 refine⟨(s.heap.push { cls:=.type "range",data:=.fields #[.int lo t,.int hi u,.int 1 v] }).objs.size,[(s.heap.push { cls:=.type "range",data:=.fields #[.int lo t,.int hi u,.int 1 v] }).objs.size],_,_,H,rfl,
  I1.kept (t':=tk) fun b o e=>Heap.get?_push_of_some _ e,y8o _ lo (hi - lo).toNat,?_,fun b hb=>?_,q⟩
 ·have e1:lo+((0:Nat):Int)*1=lo:=by simp
  have e2:(((hi - lo).toNat:Nat):Int) - ((0:Nat):Int)=Builtin.Range.rangeSize lo hi 1:=by rw[rangeSize_one];split <;> omega
  show IsRangeIter _ _ (lo+((0:Nat):Int)*1) ((((hi - lo).toNat:Nat):Int) - ((0:Nat):Int)) 1
  rw[e1,e2]
  exact Heap.get?_push_size _ rfl
 ·have e:b=(s.heap.push { cls:=.type "range",data:=.fields #[.int lo t,.int hi u,.int 1 v] }).objs.size:=by simpa using hb
  subst e
  exact I1.fpOk (ao _) (I1.hok.fresh (ao _))
def iRng1(ta:TA):TI:=fun σ H R=>ta σ H fun vs H1=>∃j:Int,vs=[.int j]∧-(2 ^ 62)≤j∧j<2 ^ 62∧R (Itr 0 j.toNat) H1
theorem y9n{a:Expr}{ta:TA}{p pos:Pos}(hg:Gl X "range")(hm:X.mg "range" = none)(ha:PA X [a] ta)(hs:starEach [a] X.env=[(false,eval a X.env)]:=by rfl):PI X tg (.Call (.Name "range" p) [a] [] pos) (iRng1 ta):=by
 intro pins s σ H R I h
 refine Call_ (z4G I hg hm boot_range (PyProof.Rows.callWith_type1 (thn (ha pos pins s σ H _ I h) fun us s1 ⟨vs,H1,I1,r1,q1⟩=>?_) hs rfl))
 obtain⟨j,e,q1,q2,q⟩:=q1
 subst e
 cases r1 with
 |cons r rr=>
  cases rr
  obtain⟨t,rfl⟩:=r
  exact call_range_1 (x3J I1 (by omega) (by omega) q1 q2 (by simpa using q))
def tFor(wi:TI)(g:TG)(tb:TS):TS:=fun D σ H=>wi σ H fun J H1=>∃W:Nat->Nat->St->Hp->Prop,(∃m,W 0 m σ H1)∧∀i m σ H,W i m σ H →
 (J.stop i H∧D.nx σ H)∨(J.go i H∧∃N:St->Hp->Prop,(∀σ' H',N σ' H'->∃m',m'<m∧W (i+1) m' σ' H')∧∀x H',J.yld i H x H'->g x σ H' fun σ2 H2=>tb { D with nx:=N,ct:=N,bk:=D.nx } σ2 H2)
def y1T(fp:List Addr)(h:Heap):List (Addr×Obj):=fp.filterMap fun b=>(h.get? b).map fun o=>(b,o)
theorem z4Z{fp:List Addr}{h:Heap}{b:Addr}{o:Obj}(hb:b∈fp)(e:h.get? b=some o):(b,o)∈y1T fp h:=e8.mpr ⟨b,hb,by rw[e];rfl⟩
theorem y9j{fp:List Addr}{h:Heap}{p:Addr×Obj}(hp:p∈y1T fp h):p.1∈fp∧h.get? p.1=some p.2:=by
 obtain⟨b,hb,e⟩:=e8.mp hp
 cases q:h.get? b with
 |none=>rw[q]at e;cases e
 |some o=>
  rw[q]at e
  have e':(b,o)=p:=Option.some.inj e
  subst e'
  exact⟨hb,q⟩
theorem Inv.pinned{pins:List (Addr×Obj)}{σ:St}{H:Hp}{s:Shared}{fp:List Addr}(I:Inv X pins σ H s)(hf:∀b∈fp,y2k X pins H b)(ho:∀b∈fp,∃o,s.heap.get? b=some o∧∀v,o.data≠.cell v):Inv X (pins++y1T fp s.heap) σ H s:=
 I.pins_of fun p hp=>(au.mp hp).elim (fun z=>I.pin p (aO _ z)) fun z=>by
  obtain⟨hb,e⟩:=y9j z
  obtain⟨f0,f1,f2,_⟩:=hf p.1 hb
  obtain⟨o,e',d⟩:=ho p.1 hb
  rw[e]at e';cases e'
  exact⟨e,f0,f1,f2,d⟩
theorem Inv.unpinned{pins pl:List (Addr×Obj)}{σ:St}{H:Hp}{s:Shared}(I:Inv X (pins++pl) σ H s):Inv X pins σ H s:=I.pins_of fun p hp=>I.pin p (aO _ (bc _ hp))
theorem x4Y{iter:Expr}{body:List Stmt}{wi:TI}{g:TG}{tb:TS}{pos:Pos}(hp:PassesOwn (model X.prog X.w) X.A X.env X.xe)(hc:X.calm=true)(hi:PI X tg iter wi)(hg:PG X tg g)(hb:PSs X body tb)
  (hs:∀x,foldedSetIterable iter X.env x=pure x:=by intro _;rfl):PS X (.For tg iter body [] pos) (tFor wi g tb):=by
 intro pins s σ H D I h
 refine wpAny_For (thn (hi pins s σ H _ I h) fun v s1 h1=>thn h1 fun itv s2 h2=>?_) hs
 obtain⟨it,fp,tn,J,H2,e,I2,T,st2,f2,W,⟨m0,w0⟩,turn⟩:=h2
 subst e
 have stat:∀{H':Hp},(∀b∈fp,H' b=none)->∀b∈fp,y2k X pins H' b:=fun hn b hb=>⟨hn b hb,(f2 b hb).2⟩
 refine codeAny_forLoop_any (fun n s'=>∃i σ' H',Inv X pins σ' H' s'∧tn i s'.heap∧(∀b∈fp,H' b=none)∧W i n σ' H') ?_ m0 ⟨0,σ,H2,I2,st2,fun b hb=>(f2 b hb).1,w0⟩
 rintro n s3 ⟨i,σ3,H3,I3,st3,fr3,w3⟩
 rcases turn i n σ3 H3 w3 with⟨stop,qn⟩ | ⟨go,N,hN,step⟩
 ·refine wpAny_passesOwn hp (thn (T.done X rfl rfl rfl hc i pins s3 σ3 H3 X.xe I3 (stat fr3) st3 stop) fun r s4 ⟨hr,I4⟩=>?_)
  subst hr
  exact wpAny_execs_nil ⟨σ3,H3,I4,qn⟩
 ·refine wpAny_passesOwn hp (thn (T.item X rfl rfl rfl hc i pins s3 σ3 H3 X.xe I3 (stat fr3) st3 go) fun r s4 ⟨u,hr,h4⟩=>?_)
  subst hr
  refine wpAny_passesOwn hp (thn h4 fun _ s5 ⟨x,H5,I5,r5,y5,st5,fr5⟩=>?_)
  have I5':=I5.pinned (stat fr5) (T.obj _ _ st5)
  refine wpAny_passesOwn hp (thn (hg _ s5 σ3 H5 x u _ I5' r5 (step x H5 y5)) fun _ s6 ⟨σ6,H6,I6,q6⟩=>?_)
  refine wpAny_passesOwn hp (thn (hb _ s6 σ6 H6 _ I6 q6) fun f s7 q7=>?_)
  have again:∀{σ7:St} {H7:Hp},Inv X (pins++y1T fp s5.heap) σ7 H7 s7->N σ7 H7->∃m,m<n∧∃i σ' H',Inv X pins σ' H' s7∧tn i s7.heap∧(∀b∈fp,H' b=none)∧W i m σ' H':=fun {σ7 H7} I7 n7=>by
   obtain⟨m',hm,w7⟩:=hN σ7 H7 n7
   refine⟨m',hm,i+1,σ7,H7,I7.unpinned,T.keep _ _ _ st5 fun b hb o e=>(I7.pin (b,o) (aO _ (aO _ (z4Z hb e)))).1,fun b hb=>?_,w7⟩
   obtain⟨o,e,d⟩:=T.obj _ _ st5 b hb
   exact(I7.pin (b,o) (aO _ (aO _ (z4Z hb e)))).2.1
  cases f with
  |next=>obtain⟨σ7,H7,I7,n7⟩:=q7;exact again I7 n7
  |cont=>obtain⟨σ7,H7,I7,n7⟩:=q7;exact again I7 n7
  |brk=>obtain⟨σ7,H7,I7,q7⟩:=q7;exact⟨σ7,H7,I7.unpinned,q7⟩
  |ret v=>obtain⟨x7,σ7,H7,I7,r7,q7⟩:=q7;exact⟨x7,σ7,H7,I7.unpinned,r7,q7⟩
end
theorem y0t{K:aa}{a:Addr}{xs:List V}{g:TG}{tb:TS}{D:Ends}{σ:St}{H:Hp}(Pv:Nat->St->Hp->Prop)(h0:Pv 0 σ H)(hl:∀i σ H,i≤xs.length->Pv i σ H->SqL K H a xs)
  (hs:∀i x σ H,xs[i]? = some x->Pv i σ H->g x σ H fun σ2 H2=>tb { D with nx:=Pv (i+1),ct:=Pv (i+1),bk:=D.nx } σ2 H2) (hd:∀σ H,Pv xs.length σ H->D.nx σ H):
  ∃W:Nat->Nat->St->Hp->Prop,(∃m,W 0 m σ H)∧∀i m σ H,W i m σ H →
   ((Itl K a).stop i H∧D.nx σ H)∨((Itl K a).go i H∧∃N:St->Hp->Prop,(∀σ' H',N σ' H'->∃m',m'<m∧W (i+1) m' σ' H')∧∀x H',(Itl K a).yld i H x H'->g x σ H' fun σ2 H2=>tb { D with nx:=N,ct:=N,bk:=D.nx } σ2 H2):=by
 refine⟨fun i m σ H=>m=xs.length - i∧i≤xs.length∧Pv i σ H,⟨xs.length,by simp,bg _,h0⟩,?_⟩
 rintro i m σ H ⟨rfl,hi,p⟩
 have q:=hl i σ H hi p
 by_cases hlt:i<xs.length
 ·refine .inr ⟨⟨xs,xs[i],q,by simp[hlt]⟩,Pv (i+1),fun σ' H' p'=>⟨xs.length - (i+1),by omega,rfl,hlt,p'⟩,fun x H' y=>?_⟩
  obtain⟨e,y⟩:=y
  subst e
  exact hs i x σ _ (y xs q) p
 ·have e:i=xs.length:=by omega
  subst e
  exact .inl ⟨⟨xs,q,ao _⟩,hd σ H p⟩
abbrev R2:=V->V->Hp->VK->Prop
def OpR(X:Cx)(f:Value->Value->Sem Value)(r:R2):Prop:=
 ∀(pins:List (Addr×Obj)) (s:Shared) (σ:St) (H:Hp) (x y:V) (v u:Value) (Q:VK),Inv X pins σ H s->RelV x v->RelV y u->r x y H Q →
  wpAny (model X.prog X.w) X.A (f v u) (EP X pins σ Q) X.xe s
def UnR(X:Cx)(f:Value->Sem Value)(r:V->Hp->VK->Prop):Prop:=
 ∀(pins:List (Addr×Obj)) (s:Shared) (σ:St) (H:Hp) (x:V) (v:Value) (Q:VK),Inv X pins σ H s->RelV x v->r x H Q →
  wpAny (model X.prog X.w) X.A (f v) (EP X pins σ Q) X.xe s
def z6T(X:Cx)(f:Value)(r:List V->Hp->VK->Prop):Prop:=
 ∀(pins:List (Addr×Obj)) (s:Shared) (σ:St) (H:Hp) (xs:List V) (us:List Value) (Q:VK),Inv X pins σ H s->Vals xs us->r xs H Q →
  wpAny (model X.prog X.w) X.A (call f us) (EP X pins σ Q) X.xe s
def TruR(X:Cx)(r:V->Hp->(Bool->Hp->Prop)->Prop):Prop:=
 ∀(pins:List (Addr×Obj)) (s:Shared) (σ:St) (H:Hp) (x:V) (v:Value) (Q:Bool->Hp->Prop),Inv X pins σ H s->RelV x v->r x H Q →
  wpAny (model X.prog X.w) X.A (truthy v) (TP X pins σ Q) X.xe s
def tOp(r:R2)(ta tb:TE):TE:=fun σ H Q=>ta σ H fun x H1=>tb σ H1 fun y H2=>r x y H2 Q
def tUn(r:V->Hp->VK->Prop)(ta:TE):TE:=fun σ H Q=>ta σ H fun x H1=>r x H1 Q
def rI(C:Int->Int->Prop)(g:Int->Int->V):R2:=fun x y H Q=>∃i j,x = .int i∧y = .int j∧C i j∧Q (g i j) H
def rI0(g:Int->Int->V):R2:=fun x y H Q=>∃i j,x = .int i∧y = .int j∧Q (g i j) H
def rU(g:Int->V):V->Hp->VK->Prop:=fun x H Q=>∃i,x = .int i∧Q (g i) H
section
variable{X:Cx}{a b:Expr}{ta tb:TE}{pos:Pos}
theorem binT(ha:PE X a ta)(hb:PE X b tb){pins:List (Addr×Obj)}{s:Shared}{σ:St}{H:Hp}{R:V->V->Hp->Prop}(I:Inv X pins σ H s)
  (h:ta σ H fun x H1=>tb σ H1 fun y H2=>R x y H2) {Q:Value->Shared->Prop} {f:Value->Value->Sem Value}
  (hf:∀v u s2 x y H2,Inv X pins σ H2 s2->RelV x v->RelV y u->R x y H2->wpAny (model X.prog X.w) X.A (f v u) Q X.xe s2):
  wpAny (model X.prog X.w) X.A (eval a X.env) (fun v s₁=>wpAny (model X.prog X.w) X.A (eval b X.env) (fun u s₂=>wpAny (model X.prog X.w) X.A (f v u) Q X.xe s₂) X.xe s₁) X.xe s:=by
 refine thn (ha pins s σ H _ I h) fun v s1 ⟨x,H1,I1,r1,q1⟩=>?_
 refine thn (hb pins s1 σ H1 _ I1 q1) fun u s2 ⟨y,H2,I2,r2,q2⟩=>?_
 exact hf v u s2 x y H2 I2 r1 r2 q2
theorem pe_op{op:Operator}{r:R2}(ho:OpR X (binaryOp op) r)(ha:PE X a ta)(hb:PE X b tb):PE X (.BinOp a op b pos) (tOp r ta tb):=by
 intro pins s σ H Q I h
 exact wpAny_BinOp (binT ha hb I h fun v u s2 x y H2 I2 rx ry q=>ho pins s2 σ H2 x y v u Q I2 rx ry q)
theorem pe_un{op:UnaryOp}{r:V->Hp->VK->Prop}(ho:UnR X (unaryOp op) r)(ha:PE X a ta):PE X (.UnaryOp op a pos) (tUn r ta):=by
 intro pins s σ H Q I h
 exact UnaryOp_ (thn (ha pins s σ H _ I h) fun v s1 ⟨x,H1,I1,r1,q1⟩=>ho pins s1 σ H1 x v Q I1 r1 q1)
theorem opI{f:Value->Value->Sem Value}{C:Int->Int->Prop}{g:Int->Int->Int}
  (rule:∀(i j:Int) (t u:Tok) (s:Shared) (Q:Value->Shared->Prop) (E:Value->Shared->Prop),C i j->Q (.int (g i j) s.toks) { s with toks:=s.toks+1 }->wpAny (model X.prog X.w) X.A (f (.int i t) (.int j u)) Q E s):
  OpR X f (rI C fun i j=>.int (g i j)):=by
 intro pins s σ H x y v u Q I rx ry h
 obtain⟨i,j,rfl,rfl,hc,q⟩:=h
 obtain⟨t,rfl⟩:=rx
 obtain⟨t',rfl⟩:=ry
 exact rule i j t t' s _ _ hc ⟨.int (g i j),H,I.tok _,⟨_,rfl⟩,q⟩
theorem opI0{f:Value->Value->Sem Value}{g:Int->Int->Int}
  (rule:∀(i j:Int) (t u:Tok) (s:Shared) (Q:Value->Shared->Prop) (E:Value->Shared->Prop),Q (.int (g i j) s.toks) { s with toks:=s.toks+1 }->wpAny (model X.prog X.w) X.A (f (.int i t) (.int j u)) Q E s):
  OpR X f (rI0 fun i j=>.int (g i j)):=by
 intro pins s σ H x y v u Q I rx ry h
 obtain⟨i,j,rfl,rfl,q⟩:=h
 obtain⟨t,rfl⟩:=rx
 obtain⟨t',rfl⟩:=ry
 exact rule i j t t' s _ _ ⟨.int (g i j),H,I.tok _,⟨_,rfl⟩,q⟩
theorem opB0{f:Value->Value->Sem Value}{g:Int->Int->Bool}
  (rule:∀(i j:Int) (t u:Tok) (s:Shared) (Q:Value->Shared->Prop) (E:Value->Shared->Prop),Q (.bool (g i j)) s->wpAny (model X.prog X.w) X.A (f (.int i t) (.int j u)) Q E s):
  OpR X f (rI0 fun i j=>.bl (g i j)):=by
 intro pins s σ H x y v u Q I rx ry h
 obtain⟨i,j,rfl,rfl,q⟩:=h
 obtain⟨t,rfl⟩:=rx
 obtain⟨t',rfl⟩:=ry
 exact rule i j t t' s _ _ ⟨.bl (g i j),H,I,rfl,q⟩
def CDiv(i j:Int):Prop:=0<j∧j<1073741824
def CDivN(i j:Int):Prop:=j≠0∧j.natAbs<1073741824
def CPow(i j:Int):Prop:=0≤j∧j≤1000000∧i.natAbs<2 ^ 64
def CMul(i j:Int):Prop:=(-(2 ^ 64)<i∧i<2 ^ 64)∨(-(2 ^ 64)<j∧j<2 ^ 64)
theorem CMul.ok{i j:Int}(h:CMul i j):IntMulOk i j:=by
 rcases h with⟨h1,h2⟩ | ⟨h1,h2⟩
 ·exact .of_left (intBits_le_64 h1 h2)
 ·exact .of_right (intBits_le_64 h1 h2)
theorem op_add:OpR X (binaryOp .Add) (rI0 fun i j=>.int (i+j)):=opI0 fun _ _ _ _ _ _ _ q=>add_int q
theorem op_sub:OpR X (binaryOp .Sub) (rI0 fun i j=>.int (i - j)):=opI0 fun _ _ _ _ _ _ _ q=>sub_int q
theorem op_mul:OpR X (binaryOp .Mult) (rI CMul fun i j=>.int (i*j)):=opI fun _ _ _ _ _ _ _ hc q=>mul_int q hc.ok
theorem op_fdiv:OpR X (binaryOp .FloorDiv) (rI CDiv fun i j=>.int (i / j)):=opI fun i j _ _ _ _ _ hc q=>by
 have h1:(0:Int)<j:=hc.1
 have h2:j<1073741824:=hc.2
 exact floordiv_int (by omega) (by rw[Int.fdiv_eq_ediv_of_nonneg i (by omega)];exact q) (.inl (PyProof.noPylong_small (by omega)))
theorem op_mod:OpR X (binaryOp .Mod) (rI (fun _ j=>0<j) fun i j=>.int (i % j)):=opI fun i j _ _ _ _ _ hc q=>by
 have h1:(0:Int)<j:=hc
 exact mod_int' (by omega) (by rw[Int.fmod_eq_emod_of_nonneg i (by omega)];exact q)
theorem op_pow:OpR X (binaryOp .Pow) (rI CPow fun i j=>.int (i ^ j.toNat)):=opI fun _ _ _ _ _ _ _ hc q=>pow_int_small hc.1 hc.2.1 hc.2.2 q
theorem unI{f:Value->Sem Value}{g:Int->Int}
  (rule:∀(i:Int) (t:Tok) (s:Shared) (Q:Value->Shared->Prop) (E:Value->Shared->Prop),Q (.int (g i) s.toks) { s with toks:=s.toks+1 }->wpAny (model X.prog X.w) X.A (f (.int i t)) Q E s):
  UnR X f (rU fun i=>.int (g i)):=by
 intro pins s σ H x v Q I rx h
 obtain⟨i,rfl,q⟩:=h
 obtain⟨t,rfl⟩:=rx
 exact rule i t s _ _ ⟨.int (g i),H,I.tok _,⟨_,rfl⟩,q⟩
theorem un_neg:UnR X (unaryOp .USub) (rU fun i=>.int (-i)):=unI fun _ _ _ _ _ q=>neg_int q
end
section
variable{X:Cx}{a b c:Expr}{ta tb tc:TE}{pos:Pos}
theorem op_lt:OpR X (compareOp .Lt) (rI0 fun i j=>.bl (decide (i<j))):=opB0 fun _ _ _ _ _ _ _ q=>lt_int q
theorem op_le:OpR X (compareOp .LtE) (rI0 fun i j=>.bl (decide (i≤j))):=opB0 fun _ _ _ _ _ _ _ q=>le_int q
theorem op_gt:OpR X (compareOp .Gt) (rI0 fun i j=>.bl (decide (j<i))):=opB0 fun _ _ _ _ _ _ _ q=>gt_int q
theorem z7w(b:Expr){op:CmpOp}(h:op≠.In:=by decide)(h2:op≠.NotIn:=by decide):ft op b=false:=by
 have e1:(op==CmpOp.In)=false:=by cases op <;> first | rfl | exact absurd rfl h
 have e2:(op==CmpOp.NotIn)=false:=by cases op <;> first | rfl | exact absurd rfl h2
 cases b <;> simp[ft,e1,e2]
theorem pe_cmpR{op:CmpOp}{r:R2}(ho:OpR X (compareOp op) r)(ha:PE X a ta)(hb:PE X b tb)(hm:ft op b=false):PE X (.Compare a [op] [b] pos) (tOp r ta tb):=by
 intro pins s σ H Q I h
 exact wpAny_Compare1 (binT ha hb I h fun v u s2 x y H2 I2 rx ry q=>ho pins s2 σ H2 x y v u Q I2 rx ry q) hm
def tTest(t:TE):TT:=fun σ H Q=>t σ H fun x H'=>∃k,x = .bl k∧Q k H'
theorem pt_cmpR{op:CmpOp}{r:R2}(ho:OpR X (compareOp op) r)(ha:PE X a ta)(hb:PE X b tb)(hm:ft op b=false):PT X (.Compare a [op] [b] pos) (tTest (tOp r ta tb)):=by
 intro pins s σ H Q I h
 refine wpAny_isTrue_Compare1 (thn (ha pins s σ H _ I h) fun v s1 ⟨x,H1,I1,r1,q1⟩=>thn (hb pins s1 σ H1 _ I1 q1) fun u s2 ⟨y,H2,I2,r2,q2⟩=>
  thn (ho pins s2 σ H2 x y v u _ I2 r1 r2 q2) fun c s3 ⟨z,H3,I3,r3,k,e,q3⟩=>?_) hm
 subst e
 cases r3
 exact wpAny_truthy_bool ⟨H3,I3,q3⟩
def x4u(r r':R2)(ta tb tc:TE):TE:=fun σ H Q=>ta σ H fun x H1=>tb σ H1 fun y H2=>r x y H2 fun z H3=>∃k,z = .bl k ∧
 (if k=true then tc σ H3 fun w' H4=>r' y w' H4 Q else Q (.bl false) H3)
theorem x3m{op op':CmpOp}{r r':R2}(ho:OpR X (compareOp op) r)(ho':OpR X (compareOp op') r')(ha:PE X a ta)(hb:PE X b tb)(hc:PE X c tc)
  (hm:lastMarks [op,op'] [b,c]=false:=by with_unfolding_all rfl):PE X (.Compare a [op,op'] [b,c] pos) (x4u r r' ta tb tc):=by
 intro pins s σ H Q I h
 refine Compare_chain (thn (ha pins s σ H _ I h) fun v s1 ⟨x,H1,I1,r1,q1⟩=>chain_link (thn (hb pins s1 σ H1 _ I1 q1) fun u s2 ⟨y,H2,I2,r2,q2⟩=>
  thn (ho pins s2 σ H2 x y v u _ I2 r1 r2 q2) fun d s3 ⟨z,H3,I3,r3,k,e,q3⟩=>?_)) hm
 subst e
 cases r3
 refine wpAny_truthy_bool ?_
 cases k with
 |false=>exact ite_ff ⟨.bl false,H3,I3,rfl,q3⟩
 |true=>exact ite_tt (chain_last (thn (hc pins s3 σ H3 _ I3 q3) fun w' s4 ⟨z',H4,I4,r4,q4⟩=>ho' pins s4 σ H4 y z' u w' Q I4 r2 r4 q4))
def TruV(K:aa)(x:V)(H:Hp)(k:Bool):Prop:=
 match x with
 |.non=>k=false
 |.bl b=>k=b
 |.int i=>k=(i != 0)
 |.str y=>y.length≤sizeLine∧k=((y.length:Int) != 0)
 |.byt y=>y.size≤sizeLine∧k=((y.size:Int) != 0)
 |.ref p=>(∃xs,SqL K H p xs∧k = !xs.isEmpty)∨(∃xs,SqT K H p xs∧k = !xs.isEmpty)∨∃kvs,H p=some (.dK kvs)∧k = !kvs.isEmpty
 |_=>False
theorem y7v{κ:Type}{kvs:List (κ×V)}{vs:List (κ×Value)}(r:KV kvs vs):(!vs.isEmpty) = !kvs.isEmpty:=by
 cases r <;> rfl
theorem z9L{xs:List V}{its:List Value}(r:Vals xs its):(!its.toArray.isEmpty) = !xs.isEmpty:=by
 cases r <;> simp
theorem z9K:(sizeLine:Nat)<2 ^ 63:=by rw[sizeLine_eq];decide
theorem tru_ok:TruR X (fun x H Q=>∃k,TruV X.K x H k∧Q k H):=by
 intro pins s σ H x v Q I rx h
 obtain⟨k,e,q⟩:=h
 have hl:=z9K
 have hs:sizeLine=16777216:=sizeLine_eq
 cases x with
 |non=>
  cases rx
  have e':k=false:=e
  subst e'
  exact truthy_none ⟨H,I,q⟩
 |bl b=>
  cases rx
  have e':k=b:=e
  subst e'
  exact wpAny_truthy_bool ⟨H,I,q⟩
 |int i=>
  obtain⟨t,rfl⟩:=rx
  have e':k=(i != 0):=e
  subst e'
  exact PySem.P.truthy_int ⟨H,I,q⟩
 |str y=>
  obtain⟨t,rfl⟩:=rx
  obtain⟨hy,e'⟩:y.length≤sizeLine∧k=((y.length:Int) != 0):=e
  subst e'
  exact PySem.P.truthy_str (by omega) ⟨H,I.tok _,q⟩
 |byt y=>
  obtain⟨t,rfl⟩:=rx
  obtain⟨hy,e'⟩:y.size≤sizeLine∧k=((y.size:Int) != 0):=e
  subst e'
  exact PySem.W.truthy_bytes (by omega) ⟨H,I.tok _,q⟩
 |ref p=>
  cases rx
  have e':(∃xs,SqL X.K H p xs∧k = !xs.isEmpty)∨(∃xs,SqT X.K H p xs∧k = !xs.isEmpty)∨∃kvs,H p=some (.dK kvs)∧k = !kvs.isEmpty:=e
  rcases e' with⟨xs,hx,e'⟩ | ⟨xs,hx,e'⟩ | ⟨kvs,hx,e'⟩
  ·subst e'
   obtain⟨its,r,pl,hz⟩:=I.list hx
   have hlen:=r.length
   exact wpAny_truthy_list pl.isList (by simp only[aB];omega) ⟨H,I.tok _,by rw[z9L r];exact q⟩
  ·subst e'
   obtain⟨its,r,pl,hz⟩:=I.tuple hx
   have hlen:=r.length
   exact truthy_tuple pl (by simp only[aB];omega) ⟨H,I.tok _,by rw[z9L r];exact q⟩
  ·subst e'
   obtain⟨hz,hS,vs,r,m⟩:kvs.length≤sizeLine∧(p==sysModules)=false∧∃vs,KV kvs vs∧s.heap.DictOf (z1m X.prog X.w) p vs:=I.hok p _ hx
   have hlen:kvs.length=vs.length:=Paired.length r
   exact wpAny_truthy_dict hS m (by omega) ⟨H,I.tok _,by rw[y7v r];exact q⟩
 |_=>exact(show False from e).elim
theorem x4b(ha:PE X a ta)(he:∀whole,isTrue a X.env whole=(do let v ←whole;standAt a.pos;holding [v] (truthy v))):
  PT X a (fun σ H Q=>ta σ H fun x H'=>∃k,TruV X.K x H' k∧Q k H'):=by
 intro pins s σ H Q I h
 exact isTrue_plain (thn (ha pins s σ H _ I h) fun v s1 ⟨x,H1,I1,r1,q1⟩=>tru_ok pins s1 σ H1 x v Q I1 r1 q1) (he _)
theorem y3O{x:V}{us:List Value}(r:Vals [x] us):∃u,us=[u]∧RelV x u:=by
 cases r with
 |cons r1 r2=>cases r2;exact⟨_,rfl,r1⟩
theorem vals2{x y:V}{us:List Value}(r:Vals [x,y] us):∃u w',us=[u,w']∧RelV x u∧RelV y w':=by
 cases r with
 |cons r1 r2=>
  cases r2 with
  |cons r3 r4=>cases r4;exact⟨_,_,rfl,r1,r3⟩
def LenV(K:aa)(x:V)(H:Hp)(n:Nat):Prop:=
 match x with
 |.str y=>y.length≤sizeLine∧n=y.length
 |.byt y=>y.size≤sizeLine∧n=y.size
 |.ref p=>(∃xs,SqL K H p xs∧n=xs.length)∨∃xs,SqT K H p xs∧n=xs.length
 |_=>False
theorem x2B:z6T X (.builtin "len") (fun xs H Q=>∃x n,xs=[x]∧LenV X.K x H n∧Q (.int n) H):=by
 intro pins s σ H xs us Q I r h
 obtain⟨x,n,rfl,e,q⟩:=h
 obtain⟨u,rfl,rx⟩:=y3O r
 have hl:=z9K
 have hs:sizeLine=16777216:=sizeLine_eq
 cases x with
 |str y=>
  obtain⟨t,rfl⟩:=rx
  obtain⟨hy,e'⟩:y.length≤sizeLine∧n=y.length:=e
  subst e'
  exact len_str (by omega) ⟨.int _,H,I.tok _,⟨_,rfl⟩,q⟩
 |byt y=>
  obtain⟨t,rfl⟩:=rx
  obtain⟨hy,e'⟩:y.size≤sizeLine∧n=y.size:=e
  subst e'
  exact PySem.W.len_bytes (by omega) ⟨.int _,H,I.tok _,⟨_,rfl⟩,q⟩
 |ref p=>
  cases rx
  have e':(∃xs,SqL X.K H p xs∧n=xs.length)∨∃xs,SqT X.K H p xs∧n=xs.length:=e
  rcases e' with⟨xs,hx,e'⟩ | ⟨xs,hx,e'⟩
  ·subst e'
   obtain⟨its,r',pl,hz⟩:=I.list hx
   have hlen:=r'.length
   exact Calls.call_len_list pl.isList (by simp only[aB];omega) ⟨.int xs.length,H,I.tok _,⟨_,by simp only[aB];rw[hlen]⟩,q⟩
  ·subst e'
   obtain⟨its,r',pl,hz⟩:=I.tuple hx
   have hlen:=r'.length
   exact len_tuple pl (by simp only[aB];omega) ⟨.int xs.length,H,I.tok _,⟨_,by simp only[aB];rw[hlen]⟩,q⟩
 |_=>exact(show False from e).elim
end
structure ObjM(h:Heap)(x dx C:Addr)(mA:Str->Option Value):Prop where
 obj:h.get? x=some (dz C dx)
 ns:h.Ns1 dx mA
 ne:dx≠x
theorem x1n{h:Heap}{dx:Addr}{mA:Str->Option Value}(n:h.Ns1 dx mA):∃od,h.get? dx=some od∧∀name,dH name od=some (mA name):=by
 obtain⟨o,es,ep,ho,hd,hk,_,hm⟩:=n
 refine⟨o,ho,fun name=>?_⟩
 have e:=hm name
 unfold nsFind findBy at e
 rw[←Array.find?_toList]at e
 unfold dH
 rw[hd]
 dsimp only
 split
 ·rename_i y q
  rw[q]at e
  exact congrArg some e
 ·rename_i q
  rw[q]at e
  have a:es.toList.any (·.refKey)=false:=by
   rw[dv]
   intro y hy
   obtain⟨z,t,hkey⟩:=hk y (Array.mem_toList_iff.mp hy)
   simp[DictEntry.refKey,hkey]
  have a':¬ es.toList.any (·.refKey)=true:=by rw[a];exact aj
  rw[if_neg a']
  exact congrArg some e
theorem ObjM.look{h:Heap}{x dx C:Addr}{mA:Str->Option Value}(I:ObjM h x dx C mA):∃od,cY h x (dz C dx) C (some od)∧∀name,dH name od=some (mA name):=
 let⟨od,ho,hl⟩:=x1n I.ns
 ⟨od,⟨I.obj,rfl,rfl,ho⟩,hl⟩
section
end
section
variable{P:dw}{w:fm}{H:Hp}{h:Heap}{a C dx:Addr}{fs:List (Str×V)}
theorem ins_get(hok:HOk P w H h)(e:H a=some (.ins C dx fs)):∃mA,ObjM h a dx C mA∧(∀f,RelO (fs.lookup f) (mA f))∧PySem.Within mA (fs.map (·.1))∧fs.length≤1000∧H dx=some (.own a):=by
 obtain⟨d,z,ne,ob,mA,n,r,q⟩:=(show ObjOk P w H h a (.ins C dx fs) from hok a _ e)
 exact⟨mA,⟨ob,n,ne⟩,r,q,z,d⟩
end
structure Cls(K:aa)(C:Addr):Prop where
 pg:dh K C Str.empty=true
 hd:eO K C=true
 po:eN K C=true
 sa:aT K (.ref C) "__setattr__" = some (some (.builtin "object.__setattr__"))
theorem Cls.get{K:aa}{C:Addr}(c:Cls K C)(f:Str):dh K C f=true:=c.pg
def NoAttr(K:aa)(C:Addr)(f:Str):Prop:=aT K (.ref C) f=some none
structure Con(K:aa)(C:Addr)(f:Str)(v:V)(u:Value):Prop where
 at_:aT K (.ref C) f=some (some u)
 rel:RelV v u
 get:bQ K u "__get__" = some none
 cp:PySem.W.copiedNames.contains f=false
structure Meth(K:aa)(C:Addr)(m:Str)(f:Addr):Prop where
 at_:aT K (.ref C) m=some (some (.ref f))
 fn:PySem.W.isFn K (.ref f)=true
 kp:bC K (.ref f)=true
section
end
section
end
section
variable{H:Hp}
inductive TyOf(K:aa)(H:Hp):V->Value->Prop where
 |non:TyOf K H .non (.type "NoneType")
 |bl (x:Bool):TyOf K H (.bl x) (.type "bool")
 |int (i:Int):TyOf K H (.int i) (.type "int")
 |str (x:Str):TyOf K H (.str x) (.type "str")
 |flt (x:UInt64):TyOf K H (.flt x) (.type "float")
 |lst {a:Addr} {xs:List V} (e:H a=some (.lst xs)):TyOf K H (.ref a) (.type "list")
 |frz {a:Addr} {o:Obj} {xs:List V} (e:H a=some (.frz o (.lst xs))):TyOf K H (.ref a) (.type "list")
 |tup {a:Addr} {xs:List V} (e:H a=some (.tup xs)):TyOf K H (.ref a) (.type "tuple")
 |dK {a:Addr} {kvs:List (Key×V)} (e:H a=some (.dK kvs)):TyOf K H (.ref a) (.type "dict")
 |dT {a:Addr} {kvs:List (List Key×V)} (e:H a=some (.dT kvs)):TyOf K H (.ref a) (.type "dict")
 |ins {a C dx:Addr} {fs:List (Str×V)} (e:H a=some (.ins C dx fs)) (cl:Cls K C) (ha:aT K (.ref C) "__class__" = some (some (.builtin "object.__class__")))
   (hn:bQ K (.builtin "object.__class__") "__get__" = some (some (.builtin "getset_descriptor.__get__"))) (htk:cC K (.builtin "object.__class__")=some true)
   (hm:bF K C (.type "object")=some true):TyOf K H (.ref a) (.ref C)
end
structure Room(k:Nat)(A:Around):Prop where
 hd:A.handled=none
 dp:A.depth+3*k+5<recursionLimit
 un:A.units+16*k+200<cLine
theorem Room.mono{j k:Nat}{A:Around}(r:Room k A)(h:j≤k):Room j A:=⟨r.hd,by have:=r.dp;omega,by have:=r.un;omega⟩
theorem Room.deeper{k:Nat}{A:Around}(r:Room (k+1) A)(env:Env):Room k (A.deeper env):=
 ⟨r.hd,by have:=r.dp;show A.depth+1+3*k+5<_;omega,by have:=r.un;show A.units+3+16*k+200<_;omega⟩
theorem Room.depth{k:Nat}{A:Around}(r:Room k A):A.depth<recursionLimit:=by have:=r.dp;omega
theorem Room.units{k:Nat}{A:Around}(r:Room k A):A.units+64<cLine:=by have:=r.un;omega
def tNil:TA:=fun _ H Q=>Q [] H
def tCons(ta:TE)(tr:TA):TA:=fun σ H Q=>ta σ H fun x H1=>tr σ H1 fun xs H2=>Q (x::xs) H2
section
variable{X:Cx}{e:Expr}{es:List Expr}{te:TE}{t:TA}{pos:Pos}
theorem pa_nil:PA X [] tNil:=fun _ _ _ _ H Q I h=>Calls.spliced_nil ⟨[],H,I,.nil,h⟩
theorem z1y(ha:PE X e te)(hr:PA X es t)(hs:starEach (e::es) X.env=(false,eval e X.env)::starEach es X.env:=by rfl):PA X (e::es) (tCons te t):=by
 intro pos pins s σ H Q I h
 rw[hs]
 show wpAny _ _ (spliced ((false,eval e X.env)::fw pos (starEach es X.env))) _ _ s
 refine Calls.spliced_cons (thn (ha pins s σ H _ I h) fun u s1 ⟨x,H1,I1,r1,q1⟩=>?_)
 exact thn (hr pos pins s1 σ H1 _ I1 q1) fun us s2 ⟨xs,H2,I2,r2,q2⟩=>⟨x::xs,H2,I2,.cons r1 r2,q2⟩
def tTup(t:TA):TE:=fun σ H Q=>t σ H fun xs H1=>xs.length≤sizeLine∧∀p,H1 p=none->Q (.ref p) (upd H1 p (.tup xs))
def tLst(t:TA):TE:=fun σ H Q=>t σ H fun xs H1=>xs.length≤sizeLine∧∀p,H1 p=none->Q (.ref p) (upd H1 p (.lst xs))
theorem pe_tup{x1}(h:PA X es t):PE X (.Tuple es x1 pos) (tTup t):=by
 intro pins s σ H Q I hq
 refine wpAny_Tuple_spliced (thn (h pos pins s σ H _ I hq) fun us s1 ⟨xs,H1,I1,r,z,q⟩=>⟨by rw[←r.length];exact z,?_⟩)
 have hf:H1 s1.heap.objs.size=none:=I1.hok.fresh (ao _)
 refine⟨.ref s1.heap.objs.size,upd H1 s1.heap.objs.size (.tup xs),I1.laid (t':=s1.toks) (fun b u e=>Heap.get?_push_of_some _ e) (ao _) ?_,rfl,q _ hf⟩
 exact⟨z,us,r,TupN.new _ _⟩
theorem y9K(h:PA X es t):PE X (.List es pos) (tLst t):=by
 intro pins s σ H Q I hq
 refine wpAny_List_spliced (thn (h pos pins s σ H _ I hq) fun us s1 ⟨xs,H1,I1,r,z,q⟩=>⟨by rw[←r.length];exact z,?_⟩)
 have hf:H1 s1.heap.objs.size=none:=I1.hok.fresh (ao _)
 refine⟨.ref s1.heap.objs.size,upd H1 s1.heap.objs.size (.lst xs),I1.laid (t':=s1.toks) (fun b u e=>Heap.get?_push_of_some _ e) (ao _) ?_,rfl,q _ hf⟩
 exact⟨z,us,0,r,Heap.get?_push_size _ rfl⟩
end
abbrev Sp:=List V->Hp->VK->XK->Prop
abbrev CXT:=List Env->Hp->Shared->XK->Value->Shared->Prop
structure Env0(P:dw)(w:fm)(K:aa)(mg:Str->Option Value)(base:Heap)(A:Around)(outer:List Env)(s:Shared)(H:Hp):Prop where
 frames:A.frames=some outer
 mod:Mod K mg base
 bs:∀b o,base.get? b=some o->s.heap.get? b=some o∧H b=none
 bsz:base.objs.size≤s.heap.objs.size
 funs:s.heap.FunFrames base outer
 frf:∀b∈frs outer,H b=none
 hok:HOk P w H s.heap
 bare:AllBare s.gens
def CE(outer:List Env)(P:dw)(w:fm)(H:Hp)(s:Shared)(Q:VK)(u:Value)(s':Shared):Prop:=
 ∃v H',s'.os=s.os∧AllBare s'.gens∧Un (frs outer) [] H H' s.heap s'.heap∧HOk P w H' s'.heap∧RelV v u∧Q v H'
def CR(CX:CXT)(outer:List Env)(P:dw)(w:fm)(H:Hp)(s:Shared)(Q:VK)(E:XK)(r:Result)(s':Shared):Prop:=
 match r with
 |.ok (.ret u)=>CE outer P w H s Q u s'
 |.ok _=>False
 |.error e=>CX outer H s E e s'
structure FnOk(P:dw)(w:fm)(K:aa)(mg:Str->Option Value)(base:Heap)(CX:CXT)(k:Nat)(f:Addr)(fd:fq)(ps:List Str)(sp:Sp):Prop where
 len:∀vs H Q E,sp vs H Q E->vs.length=ps.length
 run:∀(A:Around) (outer:List Env) (s:Shared) (H:Hp) (args:Args) (us:List Value) (vs:List V) (Q:VK) (E:XK),Room k A->Env0 P w K mg base A outer s H->BindsTo s fd args (ps.zip us)->Vals vs us->sp vs H Q E →
  codeAny (model P w) A (.call (.ref f) args) (CR CX outer P w H s Q E) s
theorem FnOk.imp{P:dw}{w:fm}{K:aa}{mg:Str->Option Value}{base:Heap}{CX:CXT}{k:Nat}{f:Addr}{fd:fq}{ps:List Str}{sp sp':Sp}(F:FnOk P w K mg base CX k f fd ps sp)
  (h:∀vs H Q E,sp' vs H Q E->sp vs H Q E):FnOk P w K mg base CX k f fd ps sp':=
 ⟨fun vs H Q E q=>F.len vs H Q E (h _ _ _ _ q),fun A outer s H args us vs Q E hr he hb hv hs=>F.run A outer s H args us vs Q E hr he hb hv (h _ _ _ _ hs)⟩
section
variable{X:Cx}{pins:List (Addr×Obj)}{σ:St}{H:Hp}{s s':Shared}
theorem Inv.env0(I:Inv X pins σ H s):Env0 X.prog X.w X.K X.mg X.base X.A X.stack s H:=
 ⟨I.ok.frames,I.ok.mod,I.bs,aG I.ok.bsz I.sz,I.stack,I.stkFree,I.hok,I.bare⟩
theorem Inv.after{Q:VK}{u:Value}(I:Inv X pins σ H s)(h:CE X.stack X.prog X.w H s Q u s'):EP X pins σ Q u s':=by
 obtain⟨v,H',os,bare,un,hok,r,q⟩:=h
 obtain⟨hh,g,d,t,os'⟩:=s'
 obtain rfl:os'=s.os:=os
 exact⟨v,H',I.call (h':=hh) (g':=g) (d':=d) (t':=t) (ch:=[]) un hok bare (fun b z=>absurd z (by simp)),r,q⟩
end
def tCall(sp:Sp)(dvs:List V)(E:XK)(t:TA):TE:=fun σ H Q=>t σ H fun vs H1=>sp (vs++dvs) H1 Q E
def Binds(K:aa)(fd:fq)(ps:List Str)(ds:List Value):Prop:=
 ∀(s:Shared) (us:List Value),K.In s.heap->(us++ds).length=ps.length->BindsTo s fd ⟨us,[]⟩ (ps.zip (us++ds))
theorem Binds.all{K:aa}{fd:fq}{ps:List Str}(h:∀us:List Value,us.length=ps.length->bindArgs fd ⟨us,[]⟩=pure (ps.zip us)):Binds K fd ps []:=fun s us _ hl=>by
 rw[aH]at hl ⊢
 exact .of_eq (h us hl)
def y8E(CX:CXT)(X:Cx)(E:XK):Prop:=∀(pins:List (Addr×Obj)) (σ:St) (H:Hp) (s:Shared) (e:Value) (s':Shared),Inv X pins σ H s->CX X.stack H s E e s'->X.xe e s'
section
variable{X:Cx}{CX:CXT}{k:Nat}{f C:Addr}{fd:fq}{ps:List Str}{sp:Sp}{dvs:List V}{ds:List Value}{E:XK}{x:Str}{p pos:Pos}{e:Expr}{es:List Expr}{t:TA}
theorem run_fn{pins:List (Addr×Obj)}{σ:St}{H:Hp}{s:Shared}{Q:VK}{us:List Value}{vs:List V}(F:FnOk X.prog X.w X.K X.mg X.base CX k f fd ps sp)(hr:Room k X.A)(hb:Binds X.K fd ps ds)(hd:Vals dvs ds)(hx:y8E CX X E)
  (I:Inv X pins σ H s) (r:Vals vs us) (h:sp (vs++dvs) H Q E):wpAny (model X.prog X.w) X.A (call (.ref f) us) (EP X pins σ Q) X.xe s:=by
 have r2:Vals (vs++dvs) (us++ds):=r.append hd
 have hl:(us++ds).length=ps.length:=by rw[←r2.length];exact F.len _ _ _ _ h
 refine wpAny_call (codeAny_mono (F.run X.A X.stack s H ⟨us,[]⟩ (us++ds) (vs++dvs) Q E hr I.env0 (hb s us I.kIn hl) r2 h) fun r s' hq=>?_)
 cases r with
 |error e=>exact hx pins σ H s e s' I hq
 |ok fl=>
  cases fl with
  |ret u=>exact I.after hq
  |next=>exact False.elim hq
  |brk=>exact False.elim hq
  |cont=>exact False.elim hq
theorem pe_call(F:FnOk X.prog X.w X.K X.mg X.base CX k f fd ps sp)(hr:Room k X.A)(hg:Gl X x)(hm:X.mg x=some (.ref f))(hk:bC X.K (.ref f)=true)(hb:Binds X.K fd ps ds)(hd:Vals dvs ds)(hx:y8E CX X E)
  (ha:PA X (e::es) t) (hdb:(x==("__debug__" : Str))=false:=by decide) (he:starEach (e::es) X.env=(false,eval e X.env)::starEach es X.env:=by rfl) (hpl:(fw pos (starEach es X.env)).any (·.1)=false:=by rfl):
  PE X (.Call (.Name x p) (e::es) [] pos) (tCall sp dvs E t):=by
 intro pins s σ H Q I h
 refine wpAny_Call_Name_kw (y3Q I hg hm ?_ hdb)
 refine eF (h₀:=X.base) I.ok.mod.kin hk (thn (ha pos pins s σ H _ I h) fun us s1 ⟨vs,H1,I1,r,q⟩=>⟨I1.kIn,?_⟩) he hpl
 exact run_fn F hr hb hd hx I1 r q
structure Mk(K:aa)(C f:Addr):Prop where
 makes:PySem.W.makesIn K C=true
 init:aT K (.ref C) "__init__" = some (some (.ref f))
 fn:PySem.W.isFn K (.ref f)=true
 kp:bC K (.ref C)=true
end
section
variable{fd:fq}{ps ks:List Str}
structure KBinds(K:aa)(fd:fq)(ps ks:List Str)(g:List Value->List Value->List Value)(gV:List V->List V->List V):Prop where
 to:∀(s:Shared) (us ws:List Value),K.In s.heap->(g us ws).length=ps.length->BindsTo s fd ⟨us,ks.zip ws⟩ (ps.zip (g us ws))
 rel:∀{vs:List V} {us:List Value} {zs:List V} {ws:List Value},Vals vs us->Vals zs ws->Vals (gV vs zs) (g us ws)
end
structure FnScope(N P:List Str)(sc:fB):Prop where
 kind:sc.kind = .function
 co:sc.isCoroutine=false
 gen:sc.isGenerator=false
 nd:N.Nodup
 pre:N.take P.length=P
 par:∀x∈P,sc.names.lookup x=some .local∨sc.names.lookup x=some .cell
 nofree:∀y∈sc.names,y.2≠.free
theorem y2K{kindOf:Str->Option NameKind}{x:Str}:∀{binds:List (Str×Value)} {m:Str->Option Value},(∀v,(x,v)∉binds)->bindL kindOf binds m x=m x
 |[],_,_=>rfl
 | (n,v)::r,m,h=>by
  unfold bindL
  rw[y2K fun w hw=>h w (ad _ hw)]
  split
  ·have:x≠n:=by rintro rfl;exact h v ac
   simp[this]
  ·rfl
theorem y2h{kindOf:Str->Option NameKind}{x:Str}:∀{binds:List (Str×Value)} {m:Str->Option Value},(∀v,(x,v)∉binds)->bindC kindOf binds m x=m x
 |[],_,_=>rfl
 | (n,v)::r,m,h=>by
  unfold bindC
  rw[y2h fun w hw=>h w (ad _ hw)]
  split
  ·rfl
  ·have:x≠n:=by rintro rfl;exact h v ac
   simp[this]
theorem y2Z{kindOf:Str->Option NameKind}{x:Str}{v:Value}:∀{P:List Str} {vs:List Value} {i:Nat} {m:Str->Option Value},P.Nodup->P[i]? = some x->vs[i]? = some v->kindOf x=some .local →
  bindL kindOf (P.zip vs) m x=some v
 |[],_,_,_,_,h,_,_=>by simp at h
 |_::_,[],_,_,_,_,h,_=>by simp at h
 |p::P,w::vs,0,m,nd,h1,h2,hk=>by
  simp at h1 h2;subst h1;subst h2
  show bindL kindOf ((p,w)::P.zip vs) m p=_
  unfold bindL
  rw[y2K fun v hv=>(ay.mp nd).1 (dJ hv).1,if_pos hk]
  simp
 |p::P,w::vs,i+1,m,nd,h1,h2,hk=>by
  show bindL kindOf ((p,w)::P.zip vs) m x=_
  unfold bindL
  exact y2Z (i:=i) (ay.mp nd).2 (by simpa using h1) (by simpa using h2) hk
theorem y3n{kindOf:Str->Option NameKind}{x:Str}{v:Value}:∀{P:List Str} {vs:List Value} {i:Nat} {m:Str->Option Value},P.Nodup->P[i]? = some x->vs[i]? = some v->kindOf x≠some .local →
  bindC kindOf (P.zip vs) m x=some v
 |[],_,_,_,_,h,_,_=>by simp at h
 |_::_,[],_,_,_,_,h,_=>by simp at h
 |p::P,w::vs,0,m,nd,h1,h2,hk=>by
  simp at h1 h2;subst h1;subst h2
  show bindC kindOf ((p,w)::P.zip vs) m p=_
  unfold bindC
  rw[y2h fun v hv=>(ay.mp nd).1 (dJ hv).1,if_neg hk]
  simp
 |p::P,w::vs,i+1,m,nd,h1,h2,hk=>by
  show bindC kindOf ((p,w)::P.zip vs) m x=_
  unfold bindC
  exact y3n (i:=i) (ay.mp nd).2 (by simpa using h1) (by simpa using h2) hk
def z5d(N:List Str)(vs:List V):St:=vs.map some++aD (N.length - vs.length) none
def y0M(CX:CXT)(P:dw)(w:fm)(K:aa)(mg:Str->Option Value)(base:Heap)(N:List Str)(qual:Str)(scope:fB)(f:Addr)(cd:Value)(A:Around)(outer:List Env)(s:Shared)(H:Hp)(E:XK):Cx where
 prog:=P
 w:=w
 K:=K
 mg:=mg
 base:=base
 A:=A.deeper (envOfC qual scope s.heap.objs.size f cd)
 N:=N
 s₀:=s
 H₀:=H
 env:=envOfC qual scope s.heap.objs.size f cd
 outer:=outer
 stack:=envOfC qual scope s.heap.objs.size f cd::outer
 ex:=[]
 calm:=true
 fn:=fun _=>true
 pn:=[]
 xe:=fun e s'=>wpAny (model P w) (A.deeper (envOfC qual scope s.heap.objs.size f cd)) (leaving (envOfC qual scope s.heap.objs.size f cd) e) (fun _ s''=>CX outer H s E e s'') (fun e' s''=>CX outer H s E e' s'') s'
theorem y6A{sc:fB}{n:Nat}{x:Str}(h:sc.names.lookup x=some .cell):∃c,(cellsFrom n sc.names []).lookup x=some c:=by
 have q:=dZ sc.names n [] (.inl h)
 exact cQ.mp q
theorem y8C{CX:CXT}{P:dw}{w:fm}{K:aa}{mg:Str->Option Value}{base:Heap}{N ps:List Str}{qual:Str}{scope:fB}{f:Addr}{cd:Value}{A:Around}{outer:List Env}{s s1:Shared}{H:Hp}{E:XK}{us:List Value}{vs:List V}
  (S:FnScope N ps scope) (hd:A.handled=none) (e0:Env0 P w K mg base A outer s H) (hl:vs.length=ps.length) (r:Vals vs us)
  (x:InCallC s s.heap.objs.size (bindL (envOfC qual scope s.heap.objs.size f cd).kindOf (ps.zip us) fun _=>none) (cellsFrom (s.heap.objs.size+1) scope.names []) (bindC (envOfC qual scope s.heap.objs.size f cd).kindOf (ps.zip us) fun _=>none) s1):
  Inv (y0M CX P w K mg base N qual scope f cd A outer s H E) [] (z5d N vs) H s1:=by
 have hpl:ps.length≤N.length:=by have:=congrArg List.length S.pre;rw[bW]at this;omega
 obtain⟨h1,tk,rfl,hk⟩:=x.done
 have noA:∀b:Addr,b∉(y0M CX P w K mg base N qual scope f cd A outer s H E).ex:=fun b z=>absurd (show b∈([]:List Addr) from z) (by simp)
 refine⟨⟨e0.mod,S.kind,rfl,rfl,ao _,fun y z c h1 h2=>?_,fun y hy=>?_,fun y c _ h=>?_,fun _=>hd,Around.frames_deeper e0.frames,.inr ⟨rfl,rfl⟩,fun b z=>absurd z (noA b),e0.bs,e0.bsz,fun b _ _=>noA b,fun b z=>absurd z (noA b),e0.funs,e0.frf⟩,
  rfl,e0.bare,Un.kept hk,⟨_,x.toInCall.ns,fun i y v h1 h2 h3=>?_⟩,fun y c h=>⟨_,x.cell y c h⟩,e0.hok.fresh (ao _),fun y c h=>?_,fun p hp=>absurd (show p∈([]:List (Addr×Obj)) from hp) (by simp),e0.hok.kept hk,?_⟩
 ·exact name_of_addr x.apart (PySem.mem_of_lookup h1) (PySem.mem_of_lookup h2)
 ·have hy:scope.names.lookup y=some .cell∨scope.names.lookup y=some .free:=hy
  rcases hy with hy | hy
  ·exact y6A hy
  ·exact absurd rfl (S.nofree _ (PySem.mem_of_lookup hy))
 ·exact ck (x.above y c (PySem.mem_of_lookup h))
 ·have hi:i<vs.length:=by
   unfold z5d at h2
   by_cases hi:i<vs.length
   ·exact hi
   ·rw[bi (by simpa using hi)]at h2
    rw[ce]at h2
    split at h2 <;> cases h2
  have ha:vs[i]? = some v:=by
   unfold z5d at h2
   rw[bd (by simpa using hi),aJ]at h2
   cases e:vs[i]? with
   |none=>rw[e]at h2;cases h2
   |some a=>rw[e]at h2;cases h2;rfl
  obtain⟨u,hu,rv⟩:=r.get ha
  have hp:ps[i]? = some y:=by
   rw[←S.pre,List.getElem?_take_of_lt (by omega)];exact h1
  have ndP:ps.Nodup:=by rw[←S.pre];exact S.nd.sublist (List.take_sublist _ _)
  refine⟨u,rv,?_⟩
  rcases S.par y (eQ hp)with k | k
  ·exact .inl ⟨k,y2Z ndP hp hu k⟩
  ·obtain⟨c,e⟩:=y6A (n:=s.heap.objs.size+1) k
   refine .inr ⟨.inl k,c,e,?_⟩
   have q:=x.cell y c e
   rw[y3n ndP hp hu (by show scope.names.lookup y≠_;rw[k];decide)]at q
   exact q
 ·exact e0.hok.fresh (ck (x.above y c (PySem.mem_of_lookup h)))
 ·unfold z5d
  show _=N.length
  rw[aC,aq,eL]
  omega
theorem fn_of{CX:CXT}{P:dw}{w:fm}{K:aa}{mg:Str->Option Value}{base:Heap}{k:Nat}{f:Addr}{name qual:Str}{params:Arguments}{body:List Stmt}{scope:fB}{dV kV doc pm cdv ct oc:Value}{an od:Option Addr}
  {osl:Array (Option Value)} {N ps:List Str} {sp:Sp} (lk:K.lookup f=some ⟨oc,od,.func (bq name qual params body scope dV kV doc pm an cdv ct),osl⟩) (hcd:cX K cdv qual=true) (S:FnScope N ps scope)
  (len:∀vs H Q E,sp vs H Q E->vs.length=ps.length)
  (hbody:∀(A:Around) (outer:List Env) (s:Shared) (H:Hp) (vs:List V) (Q:VK) (E:XK),Room k (A.deeper (envOfC qual scope s.heap.objs.size f cdv))->sp vs H Q E →
   ∃t,PSs (y0M CX P w K mg base N qual scope f cdv A outer s H E) body t∧t { nx:=fun _ H'=>Q .non H',rt:=Q } (z5d N vs) H):
  FnOk P w K mg base CX (k+1) f (bq name qual params body scope dV kV doc pm an cdv ct) ps sp:=by
 refine⟨len,fun A outer s H args us vs Q E hr e0 hb r hsp=>?_⟩
 have hl:=len _ _ _ _ hsp
 have KX:K.In s.heap:=e0.mod.kin.keeps fun b o e=>(e0.bs b o e).1
 have lim:s.heap.NoLimit:=e0.mod.nolimit.keeps fun b o e=>(e0.bs b o e).1
 have hkind:∀y∈ps.zip us,scope.names.lookup y.1=some .local∨(scope.names.lookup y.1=some .cell∧((cellsFrom (s.heap.objs.size+1) scope.names []).lookup y.1).isSome=true):=fun⟨n,v⟩ hy=>by
  rcases S.par n (dJ hy).1 with q | q
  ·exact .inl q
  ·exact .inr ⟨q,dZ _ _ _ (.inl q)⟩
 refine codeAny_call_function hr.depth (KX _ _ lk) rfl S.co S.gen rfl (PySem.W.codeRec_of KX hcd) (hb _ _ _ _ ?_)
 refine wpAny_newFunctionEnv_cells S.kind hkind fun env he s1 x=>?_
 subst he
 refine⟨lim.keeps x.toInCall.keep,codeAny_func ?_⟩
 obtain⟨t,ht,hq⟩:=hbody A outer s H vs Q E (hr.deeper _) hsp
 have I:Inv (y0M CX P w K mg base N qual scope f cdv A outer s H E) [] (z5d N vs) H s1:=y8C S hr.hd e0 hl r x
 refine wpAny_mono (ht [] s1 (z5d N vs) H _ I hq) (fun fl s' hs=>?_) fun e s' hs=>hs
 have fin:∀{σ':St} {H':Hp} {v:V} {u:Value},Inv (y0M CX P w K mg base N qual scope f cdv A outer s H E) [] σ' H' s'->RelV v u->Q v H'->CE outer P w H s Q u s':=
  fun {σ' H' v u} J rv q=>⟨v,H',J.os,J.bare,J.base,J.hok,rv,q⟩
 cases fl with
 |ret u=>
  obtain⟨v,σ',H',J,rv,q⟩:=hs
  exact fin J rv q
 |next=>
  obtain⟨σ',H',J,q⟩:=hs
  exact fin (v:=V.non) (u:=Value.none) J rfl q
 |brk=>
  obtain⟨_,_,_,q⟩:=hs
  exact False.elim q
 |cont=>
  obtain⟨_,_,_,q⟩:=hs
  exact False.elim q
section
variable{X:Cx}{x:Str}{p pos:Pos}{e:Expr}{es:List Expr}{t:TA}{id T:String}{r:List V->Hp->VK->Prop}
def tCB(r:List V->Hp->VK->Prop)(t:TA):TE:=fun σ H Q=>t σ H fun vs H1=>r vs H1 Q
theorem y0T(hc:z6T X (.builtin id) r)(hg:Gl X x)(hm:X.mg x=none)(hv:fy x=some (.builtin id))(ha:PA X (e::es) t)(hn:x ≠ "__name__" := by decide)(hdb:(x==("__debug__" : Str))=false:=by decide)
  (he:starEach (e::es) X.env=(false,eval e X.env)::starEach es X.env:=by rfl) (hpl:(fw pos (starEach es X.env)).any (·.1)=false:=by rfl):PE X (.Call (.Name x p) (e::es) [] pos) (tCB r t):=by
 intro pins s σ H Q I h
 refine wpAny_Call_Name_kw (z4G I hg hm hv ?_ hn hdb)
 exact PyProof.Rows.callWith_builtin1 (thn (ha pos pins s σ H _ I h) fun us s1 ⟨vs,H1,I1,r1,q1⟩=>hc pins s1 σ H1 vs us Q I1 r1 q1) he hpl
theorem y2i(hc:z6T X (.type T) r)(hg:Gl X x)(hm:X.mg x=none)(hv:fy x=some (.type T))(ha:PA X (e::es) t)(hn:x ≠ "__name__" := by decide)(hdb:(x==("__debug__" : Str))=false:=by decide)
  (he:starEach (e::es) X.env=(false,eval e X.env)::starEach es X.env:=by rfl) (hpl:(fw pos (starEach es X.env)).any (·.1)=false:=by rfl):PE X (.Call (.Name x p) (e::es) [] pos) (tCB r t):=by
 intro pins s σ H Q I h
 refine wpAny_Call_Name_kw (z4G I hg hm hv ?_ hn hdb)
 exact PyProof.Rows.callWith_type1 (thn (ha pos pins s σ H _ I h) fun us s1 ⟨vs,H1,I1,r1,q1⟩=>hc pins s1 σ H1 vs us Q I1 r1 q1) he hpl
end
end L2
namespace HT
open PySem PyProof.Rows
section
open PySem.SeqAt
open PySem.AutoSeq1 (wpAny_loadPart')
open PySem.MeetsSeq PySem.MeetsSeq2 PySem.MeetsSeq3
end
section
def sIx(n d:Nat):Option Int->Nat
 |none=>d
 |some v=>if v<0 then(v+(n:Int)).toNat else min v.toNat n
end
end HT
namespace L2
open PySem PySem.Spec PyProof.Rows
abbrev TO:=St->Hp->(Option Int->Hp->Prop)->Prop
def PO(X:Cx)(e:Option Expr)(t:TO):Prop:=
 ∀(pins:List (Addr×Obj)) (s:Shared) (σ:St) (H:Hp) (Q:Option Int->Hp->Prop),Inv X pins σ H s->t σ H Q →
  wpAny (model X.prog X.w) X.A (evalPart e X.env) (fun u s'=>∃o H',Inv X pins σ H' s'∧IsPart u o∧Q o H') X.xe s
def tNoPart:TO:=fun _ H Q=>Q none H
def tPart(t:TE):TO:=fun σ H Q=>t σ H fun x H1=>∃i,x = .int i∧Q (some i) H1
theorem z6F{ns:List Int}:∀{us:List Value},Vals (ns.map V.int) us->IntsAre us ns:=by
 induction ns with
 |nil=>intro us r;rw[dm]at r;cases r;exact .nil
 |cons n ns ih=>
  intro us r
  rw[aF]at r
  cases r with
  |cons r1 r2=>
   obtain⟨t,e⟩:=r1
   subst e
   exact .cons n t (ih r2)
section
variable{X:Cx}{e:Expr}{te:TE}{lo hi:Option Expr}{tl th:TO}{pos p2:Pos}
theorem po_none:PO X none tNoPart:=by
 intro pins s σ H Q I h
 rw[evalPart_none]
 exact wpAny_pure ⟨none,H,I,.none,h⟩
theorem po_some(h:PE X e te):PO X (some e) (tPart te):=by
 intro pins s σ H Q I hw
 rw[evalPart_some]
 refine thn (h pins s σ H _ I hw) fun u s1 ⟨x,H1,I1,r1,q1⟩=>?_
 obtain⟨i,rfl,q⟩:=q1
 obtain⟨t,rfl⟩:=r1
 exact⟨some i,H1,I1,.int i t,q⟩
def SlR(X:Cx)(r:V->Option Int->Option Int->Hp->VK->Prop):Prop:=
 ∀(pins:List (Addr×Obj)) (s:Shared) (σ:St) (H:Hp) (x:V) (v vl vu:Value) (lo hi:Option Int) (sl:Addr) (Q:VK),Inv X pins σ H s->RelV x v->s.heap.IsSliceOf sl vl vu .none->IsPart vl lo->IsPart vu hi->r x lo hi H Q →
  ∃T id,typeLookup (.type T) "__getitem__" = pure (some (.builtin id))∧s.TypeIs v T∧wpAny (model X.prog X.w) X.A (getItem v (.ref sl)) (EP X pins σ Q) X.xe s
def tSl(r:V->Option Int->Option Int->Hp->VK->Prop)(te:TE)(tl th:TO):TE:=fun σ H Q=>te σ H fun x H1=>tl σ H1 fun l H2=>th σ H2 fun u H3=>r x l u H3 Q
theorem x3g{r:V->Option Int->Option Int->Hp->VK->Prop}(hr:SlR X r)(he:PE X e te)(hl:PO X lo tl)(hu:PO X hi th):PE X (.Subscript e (.Slice lo hi none p2) pos) (tSl r te tl th):=by
 intro pins s σ H Q I h
 refine Subscript_ (thn (he pins s σ H _ I h) fun v s1 ⟨x,H1,I1,r1,q1⟩=>?_)
 refine wpAny_Slice (thn (hl pins s1 σ H1 _ I1 q1) fun vl s2 ⟨l,H2,I2,pl,q2⟩=>thn (hu pins s2 σ H2 _ I2 q2) fun vu s3 ⟨u,H3,I3,pu,q3⟩=>?_)
 rw[evalPart_none]
 refine wpAny_pure ?_
 have I4:Inv X pins σ H3 { s3 with heap:=s3.heap.push { cls:=.type "slice",data:=.fields #[vl,vu,.none] } }:=I3.kept (t':=s3.toks) fun b ob q=>Heap.get?_push_of_some _ q
 obtain⟨T,id,hT,ht,hg⟩:=hr pins { s3 with heap:=s3.heap.push { cls:=.type "slice",data:=.fields #[vl,vu,.none] } } σ H3 x v vl vu l u s3.heap.objs.size Q I4 r1 (Heap.IsSliceOf.new ..) pl pu q3
 show wpAny (model X.prog X.w) X.A (subscriptTail e (.Slice lo hi none p2) v (.ref s3.heap.objs.size)) (EP X pins σ Q) X.xe { s3 with heap:=s3.heap.push { cls:=.type "slice",data:=.fields #[vl,vu,.none] } }
 exact tail_any (ops:=[.ref s3.heap.objs.size,v]) ht hT hg (by with_unfolding_all rfl)
def cutV(xs:List V)(lo hi:Option Int):List V:=(xs.drop (HT.sIx xs.length 0 lo)).take (HT.sIx xs.length xs.length hi - HT.sIx xs.length 0 lo)
theorem y3U(xs:List V)(lo hi:Option Int):(cutV xs lo hi).length≤xs.length:=by
 unfold cutV
 rw[bW,cU]
 omega
end
def ixN(n:Nat)(i:Int):Option Nat:=if 0≤i then(if i<n then some i.toNat else none)else if -(n:Int)≤i then some (i+n).toNat else none
def atI{α:Type}(xs:List α)(i:Int):Option α:=(ixN xs.length i).bind fun j=>xs[j]?
theorem x0M{n:Nat}{i:Int}{j:Nat}(h:ixN n i=some j):seqIndex? i n=some j∧j<n∧-(n:Int)≤i∧i<n:=by
 unfold ixN at h
 by_cases h0:0≤i
 ·rw[if_pos h0]at h
  by_cases h1:i<n
  ·rw[if_pos h1]at h
   have e:i.toNat=j:=Option.some.inj h
   exact⟨by rw[seqIndex_of h0 h1,e],by omega,by omega,h1⟩
  ·rw[if_neg h1]at h;cases h
 ·rw[if_neg h0]at h
  by_cases h1:-(n:Int)≤i
  ·rw[if_pos h1]at h
   have e:(i+n).toNat=j:=Option.some.inj h
   exact⟨by rw[seqIndex_neg (by omega) h1,e],by omega,h1,by omega⟩
  ·rw[if_neg h1]at h;cases h
theorem y4d{α:Type}{xs:List α}{i:Int}{v:α}(h:atI xs i=some v):∃j,seqIndex? i xs.length=some j∧xs[j]? = some v∧j<xs.length∧-(xs.length:Int)≤i∧i<xs.length:=by
 unfold atI at h
 cases e:ixN xs.length i with
 |none=>rw[e]at h;cases h
 |some j=>
  rw[e]at h
  obtain⟨h1,h2,h3,h4⟩:=x0M e
  exact⟨j,h1,h,h2,h3,h4⟩
theorem z5x{α:Type}{xs:List α}{j:Nat}{v:α}(h:xs[j]? = some v):atI xs (j:Int)=some v:=by
 have hj:j<xs.length:=(aU.mp h).1
 have e:ixN xs.length (j:Int)=some j:=by
  unfold ixN
  rw[if_pos (by omega),if_pos (by omega)];simp
 unfold atI;rw[e];exact h
def y3V(b:Expr):Prop:=∀o i,subscripted b false o i=operate [o,i] (getItem o i)
def IxR(X:Cx)(r:R2):Prop:=
 ∀(value slice:Expr) (pins:List (Addr×Obj)) (s:Shared) (σ:St) (H:Hp) (x y:V) (v u:Value) (Q:VK),Inv X pins σ H s->RelV x v->RelV y u->r x y H Q →
  subscripted slice false v u=operate [v,u] (getItem v u)->wpAny (model X.prog X.w) X.A (subscriptTail value slice v u) (EP X pins σ Q) X.xe s
def MtR(X:Cx)(id:String)(r:V->List V->Hp->VK->Prop):Prop:=
 ∀(pins:List (Addr×Obj)) (s:Shared) (σ:St) (H:Hp) (x:V) (xs:List V) (v:Value) (us:List Value) (Q:VK),Inv X pins σ H s->RelV x v->Vals xs us->r x xs H Q →
  wpAny (model X.prog X.w) X.A (call (.builtin id) (v::us)) (EP X pins σ Q) X.xe s
section
variable{X:Cx}{a b:Expr}{ta tb:TE}{pos:Pos}
theorem IxR.or{r r':R2}(h:IxR X r)(h':IxR X r'):IxR X (fun x y H Q=>r x y H Q∨r' x y H Q):=by
 intro value slice pins s σ H x y v u Q I rx ry q hs
 rcases q with q | q
 ·exact h value slice pins s σ H x y v u Q I rx ry q hs
 ·exact h' value slice pins s σ H x y v u Q I rx ry q hs
theorem pe_ix{r:R2}(hr:IxR X r)(ha:PE X a ta)(hb:PE X b tb)(hs:y3V b):PE X (.Subscript a b pos) (tOp r ta tb):=by
 intro pins s σ H Q I h
 exact Subscript_ (binT ha hb I h fun v u s2 x y H2 I2 rx ry q=>hr a b pins s2 σ H2 x y v u Q I2 rx ry q (hs _ _))
def rIxL(K:aa):R2:=fun x y H Q=>∃p xs i v,x = .ref p∧y = .int i∧SqL K H p xs∧atI xs i=some v∧Q v H
def rIxT(K:aa):R2:=fun x y H Q=>∃p xs i v,x = .ref p∧y = .int i∧SqT K H p xs∧atI xs i=some v∧Q v H
def rIxS:R2:=fun x y H Q=>∃z i c,x = .str z∧y = .int i∧z.length≤sizeLine∧atI z.cps.toList i=some c∧Q (.str ⟨#[c]⟩) H
theorem ix_list:IxR X (rIxL X.K):=by
 intro value slice pins s σ H x y v u Q I rx ry h hs
 obtain⟨p,xs,i,z,rfl,rfl,hq,he,q⟩:=h
 cases rx
 obtain⟨t,rfl⟩:=ry
 obtain⟨its,r,pl,hz⟩:=I.list hq
 obtain⟨j,h1,h2,h3,h4,h5⟩:=y4d he
 obtain⟨w,ew,rw'⟩:=r.get h2
 have hl:=r.length
 have hn:=z9K
 have fin:EP X pins σ Q w s:=⟨z,H,I,rw',q⟩
 by_cases h0:0≤i
 ·have hj:i.toNat=j:=by
   rw[seqIndex_of h0 h5]at h1
   exact Option.some.inj h1
  exact item_listR pl.isList h0 (by omega) (by rw[hj];simpa using ew) fin hs
 ·have hj:(i+(its.toArray.size:Int)).toNat=j:=by
   rw[seqIndex_neg (by omega) h4]at h1
   rw[aB,←hl]
   exact Option.some.inj h1
  exact subscriptTail_builtinR (x:=w) pl.isList.typeIs slot_list_getitem.lookup
   (wpAny_getItem_list_neg (Q:=fun r s'=>r=w∧EP X pins σ Q r s') pl.isList (by omega) (by rw[aB] <;> omega) (by omega) (by rw[hj];simpa using ew) ⟨rfl,fin⟩) hs
theorem ix_tup:IxR X (rIxT X.K):=by
 intro value slice pins s σ H x y v u Q I rx ry h hs
 obtain⟨p,xs,i,z,rfl,rfl,hq,he,q⟩:=h
 cases rx
 obtain⟨t,rfl⟩:=ry
 obtain⟨its,r,pl,hz⟩:=I.tuple hq
 obtain⟨j,h1,h2,h3,h4,h5⟩:=y4d he
 obtain⟨w,ew,rw'⟩:=r.get h2
 have hl:=r.length
 have hn:=z9K
 have fin:EP X pins σ Q w s:=⟨z,H,I,rw',q⟩
 exact subscriptTail_builtinR (x:=w) pl.typeIs slot_tuple_getitem.lookup
  (getItem_tuple (j:=j) (Q:=fun r s'=>r=w∧EP X pins σ Q r s') pl (by omega) (by omega) (by rw[aB,←hl];exact h1) (by simpa using ew) ⟨rfl,fin⟩) hs
theorem ix_str:IxR X rIxS:=by
 intro value slice pins s σ H x y v u Q I rx ry h hs
 obtain⟨z,i,c,rfl,rfl,hz,he,q⟩:=h
 obtain⟨t,rfl⟩:=rx
 obtain⟨t',rfl⟩:=ry
 obtain⟨j,h1,h2,h3,h4,h5⟩:=y4d he
 have hl:z.cps.toList.length=z.length:=by simp[Str.length]
 rw[hl]at h1 h4 h5
 have hn:=z9K
 exact tail_any (typeIs_str s z t) slot_str_getitem.lookup (getItem_str (c:=c) (by
  have e1:decide (i < -(2 ^ 63:Int))=false:=decide_eq_false (by omega)
  have e2:decide (i ≥ 2 ^ 63)=false:=decide_eq_false (by omega)
  rw[e1,e2,Bool.or_false]) (by rw[h1];simpa using h2) ⟨.str ⟨#[c]⟩,H,I.tok _,⟨_,rfl⟩,q⟩) hs
def rIx(K:aa):R2:=fun x y H Q=>rIxL K x y H Q∨rIxT K x y H Q∨rIxS x y H Q
theorem x5z:IxR X (rIx X.K):=ix_list.or (ix_tup.or ix_str)
theorem y7t(its:List Value)(n j:Nat)(u:Value):Obj.mapSeq (·.setIfInBounds j u) { cls:=.type "list",data:=.seq its.toArray n } = { cls:=.type "list",data:=.seq (its.set j u).toArray n }:=by
 simp[Obj.mapSeq]
theorem Inv.lst{pins:List (Addr×Obj)}{σ:St}{H:Hp}{s:Shared}{p:Addr}{xs:List V}(I:Inv X pins σ H s)(h:H p=some (.lst xs)):
  ∃(its:List Value) (n:Nat),Vals xs its∧s.heap.get? p=some { cls:=.type "list",data:=.seq its.toArray n }∧xs.length≤sizeLine:=by
 obtain⟨z,its,n,r,e⟩:=I.hok p _ h
 exact⟨its,n,r,e,z⟩
theorem Inv.lstUpd{pins:List (Addr×Obj)}{σ:St}{H:Hp}{s:Shared}{p:Addr}{xs ys:List V}{its its':List Value}{n n':Nat}{f:Obj->Obj}(I:Inv X pins σ H s)(h:H p=some (.lst xs))
  (ho:s.heap.get? p=some { cls:=.type "list",data:=.seq its.toArray n }) (hf:f { cls:=.type "list",data:=.seq its.toArray n } = { cls:=.type "list",data:=.seq its'.toArray n' }) (r:Vals ys its') (hz:ys.length≤sizeLine) (t:Nat):
  Inv X pins σ (upd H p (.lst ys)) { s with heap:=s.heap.update p f,toks:=t }:=by
 have e:(s.heap.update p f).get? p=some { cls:=.type "list",data:=.seq its'.toArray n' }:=by
  rw[Heap.get?_update_self f ho (by rw[hf] <;> rfl),hf]
 refine I.write (x:=p) (e:=p) (by rw[h];trivial) (.inl rfl) (fun b u hb q=>(Heap.get?_update_other _ _ (Ne.symm hb)).trans q) ⟨_,e⟩ ?_
 exact⟨hz,its',n',r,e⟩
def rSetL:V->V->V->Hp->(Hp->Prop)->Prop:=fun o i v H Q=>∃p xs k j,o = .ref p∧i = .int k∧H p=some (.lst xs)∧ixN xs.length k=some j∧Q (upd H p (.lst (xs.set j v)))
theorem x3r:PSet X rSetL:=by
 intro pins s σ H o i v ov iv u Q I ro ri rv h
 obtain⟨p,xs,k,j,rfl,rfl,hp,hj,q⟩:=h
 cases ro
 obtain⟨t,rfl⟩:=ri
 obtain⟨its,n,r,ho,hz⟩:=I.lst hp
 obtain⟨h1,h2,h3,h4⟩:=x0M hj
 have hl:=r.length
 have hn:=z9K
 have I':Inv X pins σ (upd H p (.lst (xs.set j v))) { s with heap:=s.heap.update p (Obj.mapSeq (·.setIfInBounds j u)) }:=
  I.lstUpd hp ho (y7t its n j u) (r.set rv j) (by rw[List.length_set];exact hz) s.toks
 by_cases h0:0≤k
 ·have hk:k.toNat=j:=by
   rw[seqIndex_of h0 h4]at h1
   exact Option.some.inj h1
  exact PySem.W.ki_setAt ho h0 (by omega) (by rw[aB,←hl];exact h4) (by rw[hk];exact⟨_,I',q⟩)
 ·have hk:(k+(its.toArray.size:Int)).toNat=j:=by
   rw[seqIndex_neg (by omega) h3]at h1
   rw[aB,←hl]
   exact Option.some.inj h1
  exact PySem.W.ki_setBack ho (by omega) (by rw[aB,←hl];exact h3) (by omega) (by rw[hk];exact⟨_,I',q⟩)
theorem y2G(lo hi:Option Int)(n:Nat):(sliceBounds lo hi none n).1=((HT.sIx n 0 lo:Nat):Int)∧(sliceBounds lo hi none n).2.1=((HT.sIx n n hi:Nat):Int)∧(sliceBounds lo hi none n).2.2=1:=by
 refine⟨?_,?_,rfl⟩
 ·cases lo with
  |none=>simp[sliceBounds,HT.sIx]
  |some i=>
   simp only[sliceBounds,HT.sIx,eW,show(1:Int)>0 by decide,if_true]
   by_cases h:i<0
   ·simp only[h,if_true] <;> omega
   ·simp only[h,if_false] <;> omega
 ·cases hi with
  |none=>simp[sliceBounds,HT.sIx]
  |some i=>
   simp only[sliceBounds,HT.sIx,eW,show(1:Int)>0 by decide,if_true]
   by_cases h:i<0
   ·simp only[h,if_true] <;> omega
   ·simp only[h,if_false] <;> omega
theorem y1b(its:List Value)(lo hi:Option Int):slicePick its.toArray lo hi none=((its.drop (HT.sIx its.length 0 lo)).take (HT.sIx its.length its.length hi - HT.sIx its.length 0 lo)).toArray:=by
 obtain⟨h1,h2,h3⟩:=y2G lo hi its.toArray.size
 unfold slicePick
 rw[h1,h2,h3]
 simp only[sliceRange_one,pick_run,aB] <;> rfl
def rSlL(K:aa):V->Option Int->Option Int->Hp->VK->Prop:=fun x lo hi H Q=>∃a xs,x = .ref a∧SqL K H a xs∧∀p,H p=none->Q (.ref p) (upd H p (.lst (cutV xs lo hi)))
theorem sl_list:SlR X (rSlL X.K):=by
 intro pins s σ H x v vl vu lo hi sl Q I rx hs pl pu h
 obtain⟨a,xs,rfl,hx,q⟩:=h
 cases rx
 obtain⟨its,r,ht,hz⟩:=I.list hx
 have hlen:=r.length
 refine⟨"list",_,slot_list_getitem.lookup,ht.isList.typeIs,?_⟩
 refine wpAny_getItem_list_slice ht.isList hs pl pu .none (by simp) ?_ (by rw[aB] <;> omega)
 rw[y1b,←hlen]
 refine⟨.ref s.heap.objs.size,_,I.laid (t':=s.toks) (o:=.lst (cutV xs lo hi)) (fun b ob q=>Heap.get?_push_of_some _ q) (ao _) ?_,rfl,q _ (I.hok.fresh (ao _))⟩
 exact⟨aG (y3U xs lo hi) hz,_,0,(r.drop (HT.sIx xs.length 0 lo)).take (HT.sIx xs.length xs.length hi - HT.sIx xs.length 0 lo),Heap.get?_push_size _ rfl⟩
theorem y3h:z6T X (.type "list") (fun xs H Q=>∃p ys,xs=[.ref p]∧(SqL X.K H p ys∨SqT X.K H p ys)∧∀l,H l=none->Q (.ref l) (upd H l (.lst ys))):=by
 intro pins s σ H xs us Q I r h
 obtain⟨p,ys,rfl,hq,q⟩:=h
 obtain⟨u,rfl,rx⟩:=y3O r
 cases rx
 have fin:∀(its:List Value),Vals ys its->ys.length≤sizeLine->∀(h':Heap) (c':Nat),(∀b o',s.heap.get? b=some o'->h'.get? b=some o') →
   h'.get? s.heap.objs.size=some { cls:=.type "list",dict:=none,data:=.seq its.toArray c',slots:=#[] }->EP X pins σ Q (.ref s.heap.objs.size) { s with heap:=h' }:=fun its r' hz h' c' kp e=>
  ⟨.ref s.heap.objs.size,_,I.laid (t':=s.toks) kp (ao _) (show ObjOk X.prog X.w _ h' _ (.lst ys) from⟨hz,its,c',r',e⟩),rfl,q _ (I.hok.fresh (ao _))⟩
 rcases hq with hq | hq
 ·obtain⟨its,r',pl,hz⟩:=I.list hq
  have hlen:=r'.length
  obtain⟨o,ho,hc,n,hd⟩:=pl.isList
  exact call_list_seq p (.inl rfl) ho hc hd (fun h' c' kp e=>fin its r' hz h' c' kp e) (by simp only[aB] <;> omega)
 ·obtain⟨its,r',pl,hz⟩:=I.tuple hq
  have hlen:=r'.length
  obtain⟨o,ho,hc,n,hd⟩:=pl
  exact call_list_seq p (.inr rfl) ho hc hd (fun h' c' kp e=>fin its r' hz h' c' kp e) (by simp only[aB] <;> omega)
theorem y1y:z6T X (.type "tuple") (fun xs H Q=>∃p ys,xs=[.ref p]∧((SqL X.K H p ys∧∀l,H l=none->Q (.ref l) (upd H l (.tup ys)))∨(SqT X.K H p ys∧Q (.ref p) H))):=by
 intro pins s σ H xs us Q I r h
 obtain⟨p,ys,rfl,h⟩:=h
 obtain⟨u,rfl,rx⟩:=y3O r
 cases rx
 rcases h with⟨hq,q⟩ | ⟨hq,q⟩
 ·obtain⟨its,r',pl,hz⟩:=I.list hq
  have hlen:=r'.length
  refine call_tuple_list pl.isList (fun h' kp=>?_) (by simp only[aB] <;> omega)
  have I1:Inv X pins σ H { s with heap:=h' }:=I.kept (t':=s.toks) kp
  have I2:Inv X pins σ (upd H h'.objs.size (.tup ys)) { s with heap:=h'.push { cls:=.type "tuple",data:=.seq its.toArray } }:=
   I1.laid (t':=s.toks) (fun b o e=>Heap.get?_push_of_some _ e) (ao _) (show ObjOk X.prog X.w _ _ _ (.tup ys) from⟨hz,its,r',TupN.new _ _⟩)
  exact⟨.ref h'.objs.size,_,I2,rfl,q _ (I1.hok.fresh (ao _))⟩
 ·obtain⟨its,r',pl,hz⟩:=I.tuple hq
  exact call_tuple_same pl ⟨.ref p,H,I,rfl,q⟩
def tyV(K:aa)(T:String)(x:V)(H:Hp):Prop:=match x with
 |.str _=>T = "str"
 |.int _=>T = "int"
 |.ref p=>(T = "list" ∧ ∃xs,SqL K H p xs)∨(T = "tuple" ∧ ∃o,K.lookup p=some o∧o.cls = .type "tuple" ∧ o.dict=none) ∨
   (T = "dict" ∧ ((∃kvs,H p=some (.dK kvs))∨∃kvs,H p=some (.dT kvs)))∨(T = "set" ∧ ∃S n,H p=some (.set S n))
 |_=>False
theorem tyV_is{pins:List (Addr×Obj)}{σ:St}{H:Hp}{s:Shared}{T:String}{x:V}{v:Value}(I:Inv X pins σ H s)(r:RelV x v)(ty:tyV X.K T x H):
  s.TypeIs v T∧∀a,v = .ref a->∃ob,s.heap.get? a=some ob∧ob.dict=none:=by
 cases x with
 |str z=>
  obtain⟨t,rfl⟩:=r
  cases (show T = "str" from ty)
  exact⟨typeIs_str s z t,fun _ e=>nomatch e⟩
 |int i=>
  obtain⟨t,rfl⟩:=r
  cases (show T = "int" from ty)
  exact⟨typeIs_int s i t,fun _ e=>nomatch e⟩
 |ref p=>
  cases r
  rcases ty with⟨rfl,xs,hq⟩ | ⟨rfl,o,hk,hc,hd⟩ | ⟨rfl,hk⟩ | ⟨rfl,S,n,hk⟩
  ·obtain⟨its,_,pl,_⟩:=I.list hq
   refine⟨pl.isList.typeIs,fun a e=>?_⟩
   cases e
   obtain⟨o,n,e,c,hd,_⟩:=pl
   exact⟨o,e,hd⟩
  ·refine⟨⟨o,I.kIn p o hk,hc⟩,fun a e=>?_⟩
   cases e
   exact⟨o,I.kIn _ o hk,hd⟩
  ·have z:∃o,s.heap.get? p=some o∧o.ExactDict:=by
    rcases hk with⟨kvs,hk⟩ | ⟨kvs,hk⟩
    ·obtain⟨_,_,_,_,o,_,_,e,ex,_⟩:=I.hok p _ hk
     exact⟨o,e,ex⟩
    ·obtain⟨_,_,_,_,o,_,_,e,ex,_⟩:=I.hok p _ hk
     exact⟨o,e,ex⟩
   obtain⟨o,e,ex⟩:=z
   refine⟨⟨o,e,ex.1⟩,fun a e2=>?_⟩
   cases e2
   exact⟨o,e,ex.2.1⟩
  ·obtain⟨o,_,_,_,e,ex,_⟩:=I.hok p _ hk
   refine⟨⟨o,e,ex.1⟩,fun a e2=>?_⟩
   cases e2
   exact⟨o,e,ex.2.1⟩
 |_=>exact False.elim ty
def tBM(K:aa)(T:String)(r:V->List V->Hp->VK->Prop)(to:TE)(t:TA):TE:=fun σ H Q=>to σ H fun x H1=>tyV K T x H1∧t σ H1 fun xs H2=>r x xs H2 Q
variable{o e:Expr}{es:List Expr}{to:TE}{t:TA}{name:Str}{apos cpos:Pos}{T id:String}{r:V->List V->Hp->VK->Prop}
theorem y8Q(pa:PlainAttrs T)(slot:Slot T name id)(hty:typeOf (.builtin id)=pure (.type "method_descriptor"))(hm:MtR X id r)(ho:PE X o to)(ha:PA X (e::es) t)
  (hbase:fx o name X.env (eval o X.env)=eval o X.env:=by rfl)
  (hfew:((fw cpos (starEach (e::es) X.env)).all (fun x=>!x.1)&&(backToKw cpos (keywordEach [] X.env)).all (fun x=>x.1.isSome)
   && decide ((e::es).length+([]:List fA).length+(if([]:List fA).isEmpty then 0 else 1)<30))=true:=by rfl)
  (hline:(apos.endLine==cpos.line)=true:=by rfl) (hs:starEach (e::es) X.env=(false,eval e X.env)::starEach es X.env:=by rfl) (hplain:(fw cpos (starEach es X.env)).any (·.1)=false:=by rfl):
  PE X (.Call (.Attribute o name apos) (e::es) [] cpos) (tBM X.K T r to t):=by
 intro pins s σ H Q I h
 refine wpAny_Call_method_late hbase hfew hline rfl (thn (ho pins s σ H _ I h) fun v s1 ⟨x,H1,I1,r1,ty,q1⟩=>?_)
 obtain⟨h1,h2⟩:=tyV_is I1 r1 ty
 refine⟨T,id,pa,slot,hty,h1,h2,?_⟩
 have hA:=ha cpos pins s1 σ H1 _ I1 q1
 rw[hs]at hA ⊢
 refine Calls.callWith_builtin (by show(false||(fw cpos (starEach es X.env)).any (·.1))=false;rw[hplain] <;> rfl) (Calls.evalArgs_plain ?_)
 exact thn hA fun us s2 ⟨vs,H2,I2,r2,q2⟩=>hm pins s2 σ H2 x vs v us Q I2 r1 r2 q2
end
def MtM(X:Cx)(id:String)(r:V->List V->Hp->VK->Prop):Prop:=
 ∀(pins:List (Addr×Obj)) (s:Shared) (σ:St) (H:Hp) (x:V) (xs:List V) (v:Value) (us:List Value) (Q:VK),Inv X pins σ H s->RelV x v->Vals xs us->r x xs H Q →
  wpAny (model X.prog X.w) X.A (call (.builtin id) (v::us)) (EP X pins σ Q) X.xe s
theorem Vals.one:∀{x:V} {us:List Value},Vals [x] us->∃u,us=[u]∧RelV x u
 |_,_,.cons r .nil=>⟨_,rfl,r⟩
theorem Vals.two:∀{x y:V} {us:List Value},Vals [x,y] us->∃u v,us=[u,v]∧RelV x u∧RelV y v
 |_,_,_,.cons r (.cons q .nil)=>⟨_,_,rfl,r,q⟩
theorem Vals.rep{xs:List V}{us:List Value}(h:Vals xs us):∀k:Nat,Vals (aD k xs).flatten (aD k us).flatten
 |0=>.nil
 |k+1=>by
  rw[eU,eU,dq,dq]
  exact Vals.append h (Vals.rep h k)
section
variable{X:Cx}{pins:List (Addr×Obj)}{σ:St}{H:Hp}{s:Shared}{l:Addr}{xs ys:List V}
theorem Inv.lset{its its':List Value}{n:Nat}{f:Array Value->Array Value}{t':Nat}(I:Inv X pins σ H s)(hH:H l=some (.lst xs))
  (e:s.heap.get? l=some { cls:=.type "list",data:=.seq its.toArray n }) (hf:f its.toArray=its'.toArray) (hv:Vals ys its') (hz:ys.length≤sizeLine):
  Inv X pins σ (upd H l (.lst ys)) { s with heap:=s.heap.update l (Obj.mapSeq f),toks:=t' }:=by
 have q:=PySem.IsL.update e f
 rw[hf]at q
 refine I.write (x:=l) (e:=l) (by rw[hH];exact trivial) (.inl rfl) (fun b' u hb hu=>(Heap.get?_update_other s.heap (Obj.mapSeq f) (Ne.symm hb)).trans hu) ⟨_,q⟩ ?_
 exact⟨hz,its',_,hv,q⟩
theorem Inv.lnew{its:List Value}{t':Nat}(I:Inv X pins σ H s)(hv:Vals ys its)(hz:ys.length≤sizeLine):
  Inv X pins σ (upd H s.heap.objs.size (.lst ys)) { s with heap:=s.heap.push { cls:=.type "list",data:=.seq its.toArray },toks:=t' }:=
 I.laid (fun _ _ q=>Heap.get?_push_of_some _ q) (ao _) ⟨hz,its,0,hv,Heap.get?_push_size _ rfl⟩
theorem Inv.fresh(I:Inv X pins σ H s):H s.heap.objs.size=none:=I.hok.fresh (ao _)
theorem Inv.lstM(I:Inv X pins σ H s)(hH:H l=some (.lst xs)):xs.length≤sizeLine∧∃(its:List Value) (n:Nat),Vals xs its∧xs.length=its.length∧s.heap.get? l=some { cls:=.type "list",data:=.seq its.toArray n }:=by
 obtain⟨z,its,n,r,e⟩:=I.hok l _ hH
 exact⟨z,its,n,r,r.length,e⟩
theorem x2K{n:Nat}(h:n≤sizeLine):Builtin.List.listTooLong n=false:=by
 unfold Builtin.List.listTooLong
 exact decide_eq_false (by omega)
end
section
variable{X:Cx}
def y4G:V->List V->Hp->VK->Prop:=fun x vs H Q=>∃l xs y,x = .ref l∧vs=[y]∧H l=some (.lst xs)∧xs.length<sizeLine∧Q .non (upd H l (.lst (xs++[y])))
theorem z3h:MtM X "list.append" y4G:=by
 intro pins s σ H x vs v us Q I rx rv h
 obtain⟨l,xs,y,rfl,rfl,hH,hz,q⟩:=h
 cases rx
 obtain⟨u,rfl,ru⟩:=rv.one
 obtain⟨z,its,n,r,hl,e⟩:=I.lstM hH
 refine call_meets F.slot_list_append ⟨_,e,rfl⟩ F.entry_list_append (F.args_list_append_2 _ _) (PySem.list_append l its.toArray n u (by rw[aB];omega)) ⟨e,?_⟩
 refine⟨.non,_,I.lset (its':=its++[u]) hH e (by simp) (r.append (.cons ru .nil)) ?_,rfl,q⟩
 rw[aC,List.length_singleton]
 omega
def rExtend:V->List V->Hp->VK->Prop:=fun x vs H Q=>∃l b xs zs,x = .ref l∧vs=[.ref b]∧H l=some (.lst xs)∧H b=some (.lst zs)∧xs.length+zs.length≤sizeLine∧Q .non (upd H l (.lst (xs++zs)))
theorem y2j:MtM X "list.extend" rExtend:=by
 intro pins s σ H x vs v us Q I rx rv h
 obtain⟨l,b,xs,zs,rfl,rfl,hH,hB,hz,q⟩:=h
 cases rx
 obtain⟨u,rfl,ru⟩:=rv.one
 cases ru
 obtain⟨z,its,n,r,hl,e⟩:=I.lstM hH
 obtain⟨z2,its2,n2,r2,hl2,e2⟩:=I.lstM hB
 have hsz:its.toArray.size+its2.toArray.size≤sizeLine:=by rw[aB,aB];omega
 have hlong:¬ (!its.toArray.isEmpty&&Builtin.List.listTooLong (its.toArray.size+its2.toArray.size))=true:=by
  rw[x2K hsz,dY]
  exact aj
 refine call_meets F.slot_list_extend ⟨_,e,rfl⟩ F.entry_list_extend (F.args_list_extend_2 _ _)
  (AutoSeq1.list_extend_list_list_0 l its.toArray n b its2.toArray n2 hlong (by rw[aB];omega) (by omega)) ⟨e,e2,?_⟩
 refine⟨.non,_,I.lset (its':=its++its2) hH e (by simp) (r.append r2) ?_,rfl,q⟩
 rw[aC]
 omega
def rCat:R2:=fun x y H Q=>∃l b xs zs,x = .ref l∧y = .ref b∧H l=some (.lst xs)∧H b=some (.lst zs)∧xs.length+zs.length≤sizeLine∧∀p,H p=none->Q (.ref p) (upd H p (.lst (xs++zs)))
theorem op_cat:OpR X (binaryOp .Add) rCat:=by
 intro pins s σ H x y v u Q I rx ry h
 obtain⟨l,b,xs,zs,rfl,rfl,hH,hB,hz,q⟩:=h
 cases rx
 cases ry
 obtain⟨z,its,n,r,hl,e⟩:=I.lstM hH
 obtain⟨z2,its2,n2,r2,hl2,e2⟩:=I.lstM hB
 refine PySem.P.add_list e e2 ?_ (by rw[aB,aB];omega)
 have ea:its.toArray++its2.toArray=(its++its2).toArray:=by simp
 rw[ea]
 exact⟨.ref _,_,I.lnew (t':=s.toks) (r.append r2) (by rw[aC];omega),rfl,q _ I.fresh⟩
end
section
end
section
end
end L2
namespace Att
open PySem PySem.W PySem.Calls PyProof.Rows
theorem z8T{P:Params}{h:Heap}:∀(ns:List Int) (vs:List Value),WellAll P h vs (ns.map WData.int)->IntsAre vs ns:=by
 intro ns
 induction ns with
 |nil=>
  intro vs w
  rw[dm]at w
  cases w
  exact .nil
 |cons n ns ih=>
  intro vs w
  rw[aF]at w
  cases w with
  |cons a b=>
   cases a
   exact .cons _ _ (ih _ b)
theorem y9M{l:OpenLaw}{n:Nat}(hn:l.most=some n){P:Params}{h:Heap}{args:List WData}{vals:List Value}
  (hpre:l.row.toRowW.claim.pre args=true) (hwl:WellAll P h vals args):
  ∃a vs ns,vals=[Value.ref a]∧args=[WData.list (ns.map WData.int)]∧h.get? a=some { cls:=.type "list",data:=.seq vs.toArray }∧IntsAre vs ns∧ns.length≤n:=by
 have hsh:WShape.hasAll [] args [.list .int]=true:=(pre_splitW hpre).1
 have hc:l.pre.holds [] { args:=args }=true:=(pre_splitW hpre).2
 obtain⟨d,r,rfl,h1,h2⟩:=hasAllW_cons hsh
 obtain rfl:=hasAllW_nil h2
 obtain⟨xs,rfl,h3⟩:=hasW_list h1
 obtain⟨ns,rfl⟩:=items_int h3
 have hlen:ns.length≤n:=by
  unfold OpenLaw.pre at hc
  have h4:(WTm.not (.lt (.lit (.int (n:Int))) (.len (.arg 0)))).holds [] { args:=[.list (ns.map .int)] }=true:=by
   have h4:=(holds_andW hc).1
   rw[hn]at h4
   exact h4
  have h5:=condW_of h4 (w_not (w_lt w_lit (w_len_list (w_arg rfl))))
  rw[aq]at h5
  refine Nat.le_of_not_lt fun q=>?_
  have q':(n:Int)<((ns.length:Nat):Int):=by omega
  first
   | (rw[decide_eq_true q']at h5;exact absurd h5 (by decide))
   | (simp at h5;omega)
 cases hwl with
 |cons w1 w2=>
  cases w2
  cases w1 with
  |list ho hall=>exact⟨_,_,ns,rfl,rfl,ho,z8T ns _ hall,hlen⟩
theorem y9w(l:OpenLaw)(args:List WData):l.row.toRowW.claim.post args (.bool true) args=true:=
 postW_of (r:=l.row.toRowW) (X:=(true==true))
  (show WShape.has [] (.bool true) .bool=true by first | rfl | decide | simp[WShape.has,WShape.arms,WShape.armsAll])
  (show(WTm.eq .res (.lit (.bool true))).value [] { args:=args,res:=some (.bool true),after:=args }=some (.bool (true==true)) from w_eq_bool (w_res rfl) w_lit) rfl
theorem attach_call{l:OpenLaw}{n:Nat}{q:dw}{loose:List Str}{XP:(Str->Option Value)->Heap->Prop}{YP:fm->Heap->Prop}{d:DefRec}
  (hn:l.most=some n) (hdf:d.params.defaults=[])
  (call:∀(w:fm) (s₀ s₁:Shared) (mg mb:Str->Option Value) (fa:Addr) (o:Obj) (pm cd doc:Value) (a:Addr) (vs:List Value) (ns:List Int),
   Ground q loose [] XP w s₀ mg mb s₁.heap->YP w s₁.heap →
   s₁.heap.get? fa=some o->o.data = .func (docDef d.name d.params d.body d.scope pm cd doc)->s₁.heap.CodeRec cd d.name->mg d.name=some (.ref fa) →
   s₁.heap.get? a=some { cls:=.type "list",data:=.seq vs.toArray }->IntsAre vs ns->ns.length≤n->s₁.gens = #[] →
   codeAny (model l.prog w) callerA (.call (.ref fa) ⟨[.ref a],[]⟩) (fun r s'=>r = .ok (.ret (.bool true))∧OldK s₁.heap s'.heap∧s'.os=s₁.os∧AllBare s'.gens) s₁):
  WalkO q loose XP YP l.row.toRowW d [] (fun f vs=>PySem.call f vs):=by
 intro w s₀ s₁ mg mb G Y fa o pm cd doc dV kV ho hd hcd hD hmg hg args vals as hpre hlay hrd hwl hlo
 obtain rfl:dV = .none:=Dflts.none hD hdf
 obtain rfl:kV = .none:=Dflts.noKw hD
 obtain⟨a,vs,ns,rfl,rfl,hobj,hints,hlen⟩:=y9M hn hpre hwl
 refine enter_call (codeAny_mono (call w s₀ s₁ mg mb fa o pm cd doc a vs ns G Y ho (fd_plain hd) hcd hmg hobj hints hlen hg) fun r s' hq=>?_)
 obtain⟨rfl,h2,h3,h4⟩:=hq
 exact⟨.inl ⟨.bool true,.bool true,[],rfl,fun _=>rfl,.bool true,y9w l _,fun _=>⟨List.Pairwise.nil,fun _ hm=>(nomatch hm)⟩⟩,h2,h3,h4⟩
section
def ledger(h:Heap)(L d:Addr):List (Addr×Obj):=(ag h.objs.size).filterMap fun a=>if a=L∨a=d then none else(h.get? a).map fun o=>(a,o)
end
end Att
namespace L2
open PySem PySem.Spec PyProof.Rows
theorem y2y:∀{vs:List Value} {ns:List Int},IntsAre vs ns->Vals (ns.map V.int) vs
 |_,_,.nil=>.nil
 |_,_,.cons n t h=>.cons ⟨t,rfl⟩ (y2y h)
def Only(H:Hp):Prop:=∀b,H b=none∨∃o xs,H b=some (.frz o (.lst xs))
theorem x2E{P:dw}{w:fm}{K:aa}{mg mb:Str->Option Value}{CX:CXT}{k:Nat}{fa a:Addr}{fd:fq}{x:Str}{sp:Sp}{s₁:Shared}{vs:List Value}{ns:List Int}
  (KX:K.In s₁.heap) (hns:s₁.heap.Ns mainGlobals mg) (hb:s₁.heap.Ns builtinsNs mb) (hbb:∀x:Str,x ≠ "__name__" → mb x=fy x) (hlim:s₁.heap.NoLimit) (hg:s₁.gens = #[])
  (ha:s₁.heap.get? a=some { cls:=.type "list",data:=.seq vs.toArray }) (hi:IntsAre vs ns) (hl:ns.length≤sizeLine) (hr:Room k callerA)
  (F:∀base:Heap,K.In base->base.Ns mainGlobals mg->FnOk P w K mg base CX k fa fd [x] sp) (hbind:∀(s:Shared) (u:Value),BindsTo s fd ⟨[u],[]⟩ [(x,u)])
  (hsp:∀H:Hp,Only H->SqL K H a (ns.map V.int)->sp [.ref a] H (fun v _=>v = .bl true) fun _ _ _=>False)
  (hCX:∀H e s',CX [] H s₁ (fun _ _ _=>False) e s'->False):
  codeAny (model P w) callerA (.call (.ref fa) ⟨[.ref a],[]⟩) (fun r s'=>r = .ok (.ret (.bool true))∧OldK s₁.heap s'.heap∧s'.os=s₁.os∧AllBare s'.gens) s₁:=by
 have rv:=y2y hi
 have lenV:=hi.length
 have core:∀H:Hp,Only H->SqL K H a (ns.map V.int)->HOk P w H s₁.heap->(∀b,H b≠none->b=a)->(H a≠none->K.lookup a=none) →
   codeAny (model P w) callerA (.call (.ref fa) ⟨[.ref a],[]⟩) (fun r s'=>r = .ok (.ret (.bool true))∧OldK s₁.heap s'.heap∧s'.os=s₁.os∧AllBare s'.gens) s₁:=by
  intro H hO hS hok hA hK
  have base_of:∀{b:Addr} {o:Obj},s₁.heap.get? b=some o->H b=none->(x2S s₁.heap H).get? b=some o:=fun e n=>x4m e n
  have noA:∀{b:Addr} {o:Obj} {es:Array DictEntry} {ep:Nat},s₁.heap.get? b=some o->o.data = .dict es ep->H b=none:=fun {b o es ep} e d=>by
   cases q:H b with
   |none=>rfl
   |some u=>
    have e':b=a:=hA b (by rw[q];simp)
    subst e'
    rw[ha]at e;cases e
    have d':Data.seq vs.toArray _=Data.dict es ep:=d
    cases d'
  have nsK:∀{b:Addr} {m:Str->Option Value},s₁.heap.Ns b m->(x2S s₁.heap H).Ns b m:=fun {b m} ⟨o,es,ep,e,d,r⟩=>⟨o,es,ep,base_of e (noA e d),d,r⟩
  have hKb:K.In (x2S s₁.heap H):=fun b o e=>base_of (KX b o e) (by
   cases q:H b with
   |none=>rfl
   |some u=>
    have e':b=a:=hA b (by rw[q];simp)
    subst e'
    rw[hK (by rw[q];simp)]at e;cases e)
  have hM:Mod K mg (x2S s₁.heap H):=⟨hKb,nsK hns,⟨mb,nsK hb,hbb⟩,let⟨mc,h1,h2⟩:=hlim;⟨mc,nsK h1,h2⟩⟩
  have e0:Env0 P w K mg (x2S s₁.heap H) callerA [] s₁ H:=⟨rfl,hM,fun b o e=>of_hidT e,eK (y9b _ _),trivial,fun b hb=>absurd (show b∈([]:List Addr) from hb) (by simp),hok,.of_eq hg⟩
  refine codeAny_mono ((F _ hKb (nsK hns)).run callerA [] s₁ H ⟨[.ref a],[]⟩ [.ref a] [.ref a] _ _ hr e0 (hbind s₁ (.ref a)) (.cons rfl .nil) (hsp H hO hS)) fun r s' h=>?_
  cases r with
  |error e=>exact(hCX H e s' h).elim
  |ok fl=>
   cases fl with
   |next=>exact False.elim h
   |brk=>exact False.elim h
   |cont=>exact False.elim h
   |ret u=>
    obtain⟨v,H',os,bare,un,hok',r',q⟩:=h
    have q':v = .bl true:=q
    subst q'
    obtain rfl:u=Value.bool true:=r'
    refine⟨rfl,OldK.of_keep fun b o e=>?_,os,bare⟩
    cases q:H b with
    |none=>exact un.keep b o e q (by intro z;exact absurd (show b∈([]:List Addr) from z) (by simp)) (by simp)
    |some u=>
     rcases hO b with z | ⟨ob,xs,z⟩
     ·rw[q]at z;cases z
     ·have z2:=un.frzs b ob _ z
      obtain⟨e1,_⟩:=hok b _ z
      obtain⟨e2,_⟩:=hok' b _ z2
      rw[e]at e1;cases e1
      exact e2
 cases hk:K.lookup a with
 |some o=>
  have e:=KX a o hk
  rw[ha]at e
  cases e
  refine core (fun _=>none) (fun _=>.inl rfl) (.inr ⟨_,vs.toArray,_,hk,rfl,rfl,rfl,by rw[aB,lenV];exact hl,by simpa using rv⟩) (fun b u z=>by have z':(none:Option HO)=some u:=z;cases z') (fun b z=>absurd rfl z) fun z=>absurd rfl z
 |none=>
  refine core (fun b=>if b=a then some (.frz { cls:=.type "list",data:=.seq vs.toArray } (.lst (ns.map V.int)))else none) (fun b=>?_) (.inl (.inr ⟨{ cls:=.type "list",data:=.seq vs.toArray },if_pos rfl⟩)) (fun b u z=>?_) (fun b z=>?_) fun _=>hk
  ·by_cases hb:b=a
   ·exact .inr ⟨_,_,if_pos hb⟩
   ·exact .inl (if_neg hb)
  ·by_cases hb:b=a
   ·have z':=(if_pos hb).symm.trans z
    cases z'
    subst hb
    exact⟨ha,by rw[aq];exact hl,vs,_,rv,ha⟩
   ·have z':=(if_neg hb).symm.trans z
    cases z'
  ·by_cases hb:b=a
   ·exact hb
   ·exact absurd (if_neg hb) z
abbrev KOf{K:aa}{h:Heap}(_:K.In h):aa:=K
theorem walk_of{l:dB}{n k:Nat}{q:dw}{loose:List Str}{XP:(Str->Option Value)->Heap->Prop}{YP:fm->Heap->Prop}{d:DefRec}{K:Params->aa}{CX:fm->CXT}{sp:fm->Sp}{x:Str}
  (hn:l.most=some n) (hn2:n≤sizeLine) (hdf:d.params.defaults=[]) (hr:Room k callerA)
  (hY:∀(w:fm) (h:Heap),YP w h->(K w.params).In h)
  (F:∀(w:fm) (mg:Str->Option Value) (fa:Addr) (h:Heap),(K w.params).In h->h.Ns mainGlobals mg->mg d.name=some (.ref fa) →
   ∃fd:fq,(∀(s:Shared) (u:Value),BindsTo s fd ⟨[u],[]⟩ [(x,u)]) ∧
    ∀base:Heap,(K w.params).In base->base.Ns mainGlobals mg->FnOk l.prog w (K w.params) mg base (CX w) k fa fd [x] (sp w))
  (hsp:∀(w:fm) (H:Hp) (a:Addr) (ns:List Int),ns.length≤n->Only H->SqL (K w.params) H a (ns.map V.int)->sp w [.ref a] H (fun v _=>v = .bl true) fun _ _ _=>False)
  (hCX:∀(w:fm) (H:Hp) (s:Shared) (e:Value) (s':Shared),CX w [] H s (fun _ _ _=>False) e s'->False):
  PySem.W.WalkO q loose XP YP l.row.toRowW d [] (fun f vs=>PySem.call f vs):=by
 refine Att.attach_call hn hdf fun w s₀ s₁ mg mb fa o pm cd doc a vs ns G Y ho hd hcd hmg hobj hints hlen hg=>?_
 have KX:=hY w _ Y
 obtain⟨fd,hb,hF⟩:=F w mg fa _ KX G.T.g hmg
 exact x2E KX G.T.g G.T.b G.T.builtins G.T.nolimit hg hobj hints (aG hlen hn2) hr hF hb (fun H hO hS=>hsp w H a ns hlen hO hS) fun H e s'=>hCX w H s₁ e s'
def z2h(s:Stmt):Arguments:=match s with
 |.FunctionDef _ a _ _ _ _ _ _ _ _=>a
 |_=>{ posonlyargs:=[],args:=[],vararg:=none,kwonlyargs:=[],kw_defaults:=[],kwarg:=none,defaults:=[] }
def z1f(s:Stmt):List Stmt:=match s with
 |.FunctionDef _ _ b _ _ _ _ _ _ _=>b
 |_=>[]
def z0e(s:Stmt):fB:=match s with
 |.FunctionDef _ _ _ _ _ _ sc _ _ _=>sc
 |_=>{ kind:=.function,names:=[],isGenerator:=false,isCoroutine:=false }
abbrev CX0:CXT:=fun _ _ _ _ _ _=>False
abbrev E0:XK:=fun _ _ _=>False
theorem pass0{X:Cx}:y8E CX0 X E0:=fun _ _ _ _ _ _ _ h=>h.elim
structure Fun(K:aa)(x qual:Str)(st:Stmt)(f:Addr)(fd:fq):Prop where
 ex:∃(oc:Value) (od:Option Addr) (kV doc pm:Value) (an:Option Addr) (cdv ct:Value) (osl:Array (Option Value)),
  fd=bq x qual (z2h st) (z1f st) (z0e st) .none kV doc pm an cdv ct∧K.lookup f=some ⟨oc,od,.func fd,osl⟩∧cX K cdv qual=true
 kp:bC K (.ref f)=true
section
variable{P:dw}{w:fm}{K:aa}{mg:Str->Option Value}{base:Heap}
theorem Fun.ok{x qual:Str}{st:Stmt}{f:Addr}{fd:fq}{N ps:List Str}{k:Nat}{sp:Sp}(F:Fun K x qual st f fd)(S:FnScope N ps (z0e st))(len:∀vs H Q E,sp vs H Q E->vs.length=ps.length)
  (hbody:∀(cdv:Value) (A:Around) (outer:List Env) (s:Shared) (H:Hp) (vs:List V) (Q:VK) (E:XK),Room k (A.deeper (envOfC qual (z0e st) s.heap.objs.size f cdv))->sp vs H Q E →
   ∃t,PSs (y0M CX0 P w K mg base N qual (z0e st) f cdv A outer s H E).nox (z1f st) t∧t { nx:=fun _ H'=>Q .non H',rt:=Q } (z5d N vs) H):FnOk P w K mg base CX0 (k+1) f fd ps sp:=by
 obtain⟨oc,od,kV,doc,pm,an,cdv,ct,osl,rfl,lk,hcd⟩:=F.ex
 refine fn_of lk hcd S len fun A outer s H vs Q E hr hsp=>?_
 obtain⟨t,h,q⟩:=hbody cdv A outer s H vs Q E hr hsp
 exact⟨t,h.nox,q⟩
theorem Fun.binds{x qual:Str}{st:Stmt}{f:Addr}{fd:fq}{ps:List Str}(F:Fun K x qual st f fd)
  (h:∀(kV doc pm:Value) (an:Option Addr) (cdv ct:Value) (us:List Value),us.length=ps.length->bindArgs (bq x qual (z2h st) (z1f st) (z0e st) .none kV doc pm an cdv ct) ⟨us,[]⟩=pure (ps.zip us)):Binds K fd ps []:=by
 obtain⟨oc,od,kV,doc,pm,an,cdv,ct,osl,rfl,lk,hcd⟩:=F.ex
 exact .all (h kV doc pm an cdv ct)
theorem fun_mk{x qual:Str}{st:Stmt}{f:Addr}{oc:Value}{od an:Option Addr}{osl:Array (Option Value)}{kV doc pm cdv ct:Value}(l:K.lookup f=some ⟨oc,od,.func (bq x qual (z2h st) (z1f st) (z0e st) .none kV doc pm an cdv ct),osl⟩)
  (c:cX K cdv qual=true) (k:bC K (.ref f)=true):Fun K x qual st f (bq x qual (z2h st) (z1f st) (z0e st) .none kV doc pm an cdv ct):=⟨⟨oc,od,kV,doc,pm,an,cdv,ct,osl,rfl,l,c⟩,k⟩
end
theorem z9a{n:Nat}(h:n≤1000):n<sizeLine:=Nat.lt_of_le_of_lt h (by decide)
section
variable{X:Cx}
theorem pv(i:Nat){x:Str}{pos:Pos}(hN:X.N[i]? = some x:=by rfl)(hv:Vis X.env.scope x:=by first | exact Or.inl rfl | exact Or.inr (Or.inl rfl) | exact Or.inr (Or.inr rfl))(hd:(x==("__debug__" : Str))=false:=by decide)
  (hcd:(x==("__classdict__" : Str))=false:=by decide):PE X (.Name x pos) (y7r i):=pe_var hN hv hd hcd
end
theorem iteF{A B:Prop}(h:B):if false=true then A else B:=by
 rw[if_neg aj]
 exact h
theorem iteT{A B:Prop}(h:A):if true=true then A else B:=by
 rw[if_pos rfl]
 exact h
def Same(H H':Hp):Prop:=∀b o,H b=some o->H' b=some o
theorem Same.refl(H:Hp):Same H H:=fun _ _ h=>h
theorem Same.trans{H H1 H2:Hp}(a:Same H H1)(b:Same H1 H2):Same H H2:=fun c o h=>b c o (a c o h)
theorem Same.free{H H':Hp}(e:Same H H'){l:Addr}(h:H' l=Option.none):H l=Option.none:=by
 cases q:H l with
 |none=>rfl
 |some o=>
  rw[e l o q]at h
  cases h
section
variable{κ:Type}[DecidableEq κ]
def y5T(kvs:List (κ×V))(k:κ):Option V:=(kvs.find? fun kv=>decide (kv.1=k)).map (·.2)
def z9u(kvs:List (κ×V))(k:κ)(v:V):List (κ×V):=
 if(kvs.any fun kv=>decide (kv.1=k))=true then kvs.map (fun kv=>if kv.1=k then(kv.1,v)else kv)else kvs++[(k,v)]
theorem y0D{p:κ×V}{r:List (κ×V)}{k:κ}(e:p.1=k):y5T (p::r) k=some p.2:=by simp[y5T,bG,e]
theorem y1B{p:κ×V}{r:List (κ×V)}{k:κ}(e:¬ p.1=k):y5T (p::r) k=y5T r k:=by simp[y5T,bG,e]
theorem y0p(k:κ):∀kvs:List (κ×V),(kvs.any fun kv=>decide (kv.1=k))=(y5T kvs k).isSome
 |[]=>rfl
 |p::r=>by
  rw[cT]
  by_cases e:p.1=k
  ·simp only[y0D e,decide_eq_true e,Bool.true_or,eP]
  ·rw[y1B e,decide_eq_false e,Bool.false_or];exact y0p k r
theorem z5m(kvs:List (κ×V))(k:κ)(v:V):(z9u kvs k v).length≤kvs.length+1:=by
 unfold z9u
 split
 ·rw[aq];omega
 ·rw[aC,aZ,dM];omega
theorem RelO.isSome_eq{o:Option V}{u:Option Value}(r:RelO o u):o.isSome=u.isSome:=by
 cases o with
 |none=>cases u with
  |none=>rfl
  |some _=>exact(show False from r).elim
 |some _=>cases u with
  |none=>exact(show False from r).elim
  |some _=>rfl
theorem KV.val{kvs:List (κ×V)}{vs:List (κ×Value)}(r:KV kvs vs)(k:κ):RelO (y5T kvs k) (valueAt vs k):=by
 unfold KV at r
 induction r with
 |nil=>exact True.intro
 | @cons p q ps qs h t ih=>
  obtain⟨h1,h2⟩:=h
  by_cases e:p.1=k
  ·have e':q.1=k:=h1.symm.trans e
   have b:valueAt (q::qs) k=some q.2:=by simp[valueAt,bG,e']
   rw[y0D e,b];exact h2
  ·have e':¬ q.1=k:=fun z=>e (h1.trans z)
   have b:valueAt (q::qs) k=valueAt qs k:=by simp[valueAt,bG,e']
   rw[y1B e,b];exact ih
theorem KV.any{kvs:List (κ×V)}{vs:List (κ×Value)}(r:KV kvs vs)(k:κ):(kvs.any fun kv=>decide (kv.1=k))=vs.any fun kv=>decide (kv.1=k):=by
 unfold KV at r
 induction r with
 |nil=>rfl
 |cons h t ih=>rw[cT,cT,ih,h.1]
theorem KV.repl{kvs:List (κ×V)}{vs:List (κ×Value)}(r:KV kvs vs)(k:κ){y:V}{u:Value}(ry:RelV y u):
  KV (kvs.map fun kv=>if kv.1=k then(kv.1,y)else kv) (vs.map fun kv=>if kv.1=k then(kv.1,u)else kv):=by
 unfold KV at r ⊢
 induction r with
 |nil=>exact .nil
 | @cons p q ps qs h t ih=>
  rw[aF,aF]
  refine .cons ?_ ih
  obtain⟨h1,h2⟩:=h
  by_cases e:p.1=k
  ·rw[if_pos e,if_pos (h1.symm.trans e)];exact⟨h1,ry⟩
  ·rw[if_neg e,if_neg (fun z=>e (h1.trans z))];exact⟨h1,h2⟩
theorem KV.put{kvs:List (κ×V)}{vs:List (κ×Value)}(r:KV kvs vs)(k:κ){y:V}{u:Value}(ry:RelV y u):KV (z9u kvs k y) (stored vs k u):=by
 unfold z9u stored
 rw[r.any k]
 by_cases e:(vs.any fun kv=>decide (kv.1=k))=true
 ·rw[if_pos e,if_pos e];exact r.repl k ry
 ·rw[if_neg e,if_neg e];exact Paired.snoc r ⟨rfl,ry⟩
theorem KV.keys{kvs:List (κ×V)}{vs:List (κ×Value)}(r:KV kvs vs):kvs.map (·.1)=vs.map (·.1):=by
 unfold KV at r
 induction r with
 |nil=>rfl
 |cons h t ih=>rw[aF,aF,ih,h.1]
theorem KV.length{kvs:List (κ×V)}{vs:List (κ×Value)}(r:KV kvs vs):kvs.length=vs.length:=Paired.length r
end
theorem y9B{P:dw}{w:fm}{k:Key}{u:Value}(r:RelV (kV k) u):(z1m P w).is k u=true:=by
 cases k with
 |inl i=>obtain⟨t,e⟩:=(show ∃t,u=Value.int i t from r);subst e;exact y4j P w i t
 |inr x=>obtain⟨t,e⟩:=(show ∃t,u=Value.str x t from r);subst e;exact y4B P w x t
theorem y3q{P:dw}{w:fm}:∀{ks:List Key} {us:List Value},Vals (ks.map kV) us->ItemsAre (z1m P w) ks us
 |[],_,r=>by rw[dm]at r;cases r;exact .nil
 |k::ks,_,r=>by
  rw[aF]at r
  cases r with
  |cons h t=>exact .cons (y9B h) (y3q t)
abbrev KT(H:Hp):List (List Key×V)->List (List Key×Addr×Value)->Prop:=Paired fun p q=>p.1=q.1∧H q.2.1=some (.tup (p.1.map kV))∧RelV p.2 q.2.2
theorem KT.val{H:Hp}{kvs:List (List Key×V)}{xs:List (List Key×Addr×Value)}(r:KT H kvs xs)(k:List Key):RelO (y5T kvs k) ((atKey xs k).map (·.2)):=by
 induction r with
 |nil=>exact True.intro
 | @cons p q ps qs h t ih=>
  obtain⟨h1,_,h2⟩:=h
  by_cases e:p.1=k
  ·have e':q.1=k:=h1.symm.trans e
   have b:atKey (q::qs) k=some q.2:=by simp[atKey,bG,e']
   rw[y0D e,b];exact h2
  ·have e':¬ q.1=k:=fun z=>e (h1.trans z)
   have b:atKey (q::qs) k=atKey qs k:=by simp[atKey,bG,e']
   rw[y1B e,b];exact ih
theorem KT.repl{H:Hp}{kvs:List (List Key×V)}{xs:List (List Key×Addr×Value)}(r:KT H kvs xs)(k:List Key){y:V}{u:Value}(ry:RelV y u):
  KT H (kvs.map fun kv=>if kv.1=k then(kv.1,y)else kv) (xs.map (putAt k u)):=by
 induction r with
 |nil=>exact .nil
 | @cons p q ps qs h t ih=>
  rw[aF,aF]
  refine .cons ?_ ih
  obtain⟨h1,h2,h3⟩:=h
  unfold putAt
  by_cases e:p.1=k
  ·rw[if_pos e,if_pos (h1.symm.trans e)];exact⟨h1,h2,ry⟩
  ·rw[if_neg e,if_neg (fun z=>e (h1.trans z))];exact⟨h1,h2,h3⟩
theorem KT.put{H:Hp}{kvs:List (List Key×V)}{xs:List (List Key×Addr×Value)}(r:KT H kvs xs)(k:List Key){b:Addr}{y:V}{u:Value}(hb:H b=some (.tup (k.map kV)))(ry:RelV y u):
  KT H (z9u kvs k y) (storedH xs k b u):=by
 have e:(kvs.any fun kv=>decide (kv.1=k))=(atKey xs k).isSome:=by
  rw[y0p,(r.val k).isSome_eq,dg]
 unfold z9u storedH
 rw[e]
 by_cases q:(atKey xs k).isSome=true
 ·rw[if_pos q,if_pos q];exact r.repl k ry
 ·rw[if_neg q,if_neg q];exact Paired.snoc r ⟨rfl,hb,ry⟩
theorem KT.keeps{H H':Hp}{kvs:List (List Key×V)}{xs:List (List Key×Addr×Value)}(r:KT H kvs xs)(ht:∀b ys,H b=some (.tup ys)->H' b=some (.tup ys)):KT H' kvs xs:=
 Paired.mapP r fun _ _ z=>⟨z.1,ht _ _ z.2.1,z.2.2⟩
section
variable{P:dw}{w:fm}{H:Hp}{h:Heap}{a:Addr}
theorem rd_of{u:HO}(ok:HOk P w H h)(e:Rd H a u):ObjOk P w H h a u:=e.ok ok
theorem dk_rd{kvs:List (Key×V)}(ok:HOk P w H h)(e:Rd H a (.dK kvs)):kvs.length≤sizeLine∧(a==sysModules)=false∧∃vs,KV kvs vs∧h.DictOf (z1m P w) a vs:=
 show ObjOk P w H h a (.dK kvs) from rd_of ok e
theorem dk_of{kvs:List (Key×V)}(ok:HOk P w H h)(e:H a=some (.dK kvs)):kvs.length≤sizeLine∧(a==sysModules)=false∧∃vs,KV kvs vs∧h.DictOf (z1m P w) a vs:=dk_rd ok (.inl e)
theorem y6q{ks:List Key}(ok:HOk P w H h)(e:H a=some (.tup (ks.map kV))):(tupleKind (z1m P w)).is h ks a:=by
 obtain⟨_,its,r,o,h1,h2,n,h3⟩:=(show ObjOk P w H h a (.tup (ks.map kV)) from ok a _ e)
 exact⟨o,its.toArray,n,h1,h2.1,h3,by simpa using y3q r⟩
theorem dt_rd{kvs:List (List Key×V)}(ok:HOk P w H h)(e:Rd H a (.dT kvs)):kvs.length≤sizeLine∧(a==sysModules)=false ∧
  ∃xs,KT H kvs xs∧h.DictOfH (tupleKind (z1m P w)) a xs:=by
 obtain⟨z,y,xs,r,o,es,ep,h1,h2,h3,h4,h5⟩:=(show ObjOk P w H h a (.dT kvs) from rd_of ok e)
 refine⟨z,y,xs,r,o,es,ep,h1,h2,h3,h4,fun x hx=>?_,h5⟩
 have all:∀{l:List (List Key×V)} {m:List (List Key×Addr×Value)},KT H l m->∀x∈m,(tupleKind (z1m P w)).is h x.1 x.2.1:=by
  intro l m q
  induction q with
  |nil=>intro x hx;exact nomatch hx
  | @cons p q ps qs hq t ih=>
   intro x hx
   rcases ah.mp hx with e | hx
   ·subst e
    exact y6q ok (by rw[←hq.1];exact hq.2.1)
   ·exact ih x hx
 exact all r x hx
theorem dt_of{kvs:List (List Key×V)}(ok:HOk P w H h)(e:H a=some (.dT kvs)):kvs.length≤sizeLine∧(a==sysModules)=false ∧
  ∃xs,KT H kvs xs∧h.DictOfH (tupleKind (z1m P w)) a xs:=dt_rd ok (.inl e)
end
def DGet(H:Hp)(a:Addr)(y:V)(r:Option V):Prop:=
 (∃kvs k,Rd H a (.dK kvs)∧y=kV k∧r=y5T kvs k)∨∃kvs k b,Rd H a (.dT kvs)∧y = .ref b∧H b=some (.tup (k.map kV))∧r=y5T kvs k
def DPut(H:Hp)(a:Addr)(y v:V)(H':Hp):Prop:=
 (∃kvs k,H a=some (.dK kvs)∧y=kV k∧kvs.length<sizeLine∧H'=upd H a (.dK (z9u kvs k v))) ∨
 ∃kvs k b,H a=some (.dT kvs)∧y = .ref b∧H b=some (.tup (k.map kV))∧kvs.length<sizeLine∧H'=upd H a (.dT (z9u kvs k v))
theorem DGet.k{H:Hp}{a:Addr}{kvs:List (Key×V)}{k:Key}(e:H a=some (.dK kvs)):DGet H a (kV k) (y5T kvs k):=.inl ⟨kvs,k,.inl e,rfl,rfl⟩
theorem DPut.k{H:Hp}{a:Addr}{kvs:List (Key×V)}{k:Key}{v:V}(e:H a=some (.dK kvs))(hl:kvs.length<sizeLine):DPut H a (kV k) v (upd H a (.dK (z9u kvs k v))):=.inl ⟨kvs,k,e,rfl,hl,rfl⟩
section
variable{X:Cx}{pins:List (Addr×Obj)}{σ:St}{H:Hp}{s:Shared}{a:Addr}{y v:V}{u r:Value}{o:Option V}{A:Around}{E:Value->Shared->Prop}
theorem Inv.big(I:Inv X pins σ H s):sysModules<s.heap.objs.size:=by
 have h:mainGlobals<s.heap.objs.size:=(I.mod.glob.keeps I.bk).lt
 exact eJ (by decide) h
theorem d_in{Q:Value->Shared->Prop}(hu:A.units+1<cLine)(I:Inv X pins σ H s)(g:DGet H a y o)(ry:RelV y u)(h:∀s',Inv X pins σ H s'->Q (.bool o.isSome) s'):
  wpAny (model X.prog X.w) A (compareOp .In u (.ref a)) Q E s:=by
 rcases g with⟨kvs,k,e,ey,l⟩ | ⟨kvs,k,b,e,ey,eb,l⟩
 ·subst ey
  obtain⟨z,hd,vs,rel,dd⟩:=dk_rd I.hok e
  refine wpAny_in_of (y9B ry) hd dd.mapOf ?_
  rw[←(rel.val k).isSome_eq,←l]
  exact h _ (I.tok _)
 ·subst ey
  cases (show u=Value.ref b from ry)
  obtain⟨z,hd,xs,rel,dd⟩:=dt_rd I.hok e
  refine wpAny_in_heap (tupleKind_room_in1 hu) (y6q I.hok eb) hd dd ?_
  have q:=(rel.val k).isSome_eq
  rw[dg]at q
  rw[←q,←l]
  exact h _ (I.tok _)
theorem d_notIn{Q:Value->Shared->Prop}(hu:A.units+1<cLine)(I:Inv X pins σ H s)(g:DGet H a y o)(ry:RelV y u)(h:∀s',Inv X pins σ H s'->Q (.bool (!o.isSome)) s'):
  wpAny (model X.prog X.w) A (compareOp .NotIn u (.ref a)) Q E s:=by
 rcases g with⟨kvs,k,e,ey,l⟩ | ⟨kvs,k,b,e,ey,eb,l⟩
 ·subst ey
  obtain⟨z,hd,vs,rel,dd⟩:=dk_rd I.hok e
  refine wpAny_notIn_of (y9B ry) hd dd.mapOf ?_
  rw[←(rel.val k).isSome_eq,←l]
  exact h _ (I.tok _)
 ·subst ey
  cases (show u=Value.ref b from ry)
  obtain⟨z,hd,xs,rel,dd⟩:=dt_rd I.hok e
  refine wpAny_notIn_heap (tupleKind_room_in1 hu) (y6q I.hok eb) hd dd ?_
  have q:=(rel.val k).isSome_eq
  rw[dg]at q
  rw[←q,←l]
  exact h _ (I.tok _)
theorem y4U{h':Heap}{t':Nat}{ob:HO}(I:Inv X pins σ H s)(mu:Mut (H a))(hs:Heap.SameBut a s.heap h')(he:∃q,h'.get? a=some q)(new:ObjOk X.prog X.w (upd H a ob) h' a ob):
  Inv X pins σ (upd H a ob) { s with heap:=h',toks:=t' }:=
 I.write (x:=a) (e:=a) mu (.inl rfl) (fun b q hb z=>(hs.2 b hb).trans z) he new
theorem x4N{P:dw}{w:fm}{H':Hp}{h':Heap}{kvs:List (Key×V)}{vs:List (Key×Value)}(z:kvs.length≤sizeLine)(hd:(a==sysModules)=false)(rel:KV kvs vs)(dd:h'.DictOf (z1m P w) a vs):
  ObjOk P w H' h' a (.dK kvs):=⟨z,hd,vs,rel,dd⟩
theorem x1s{H':Hp}{Q:Unit->Shared->Prop}(hu:A.units+1<cLine)(I:Inv X pins σ H s)(g:DPut H a y v H')(ry:RelV y u)(rv:RelV v r)(h:∀s',Inv X pins σ H' s'->Q () s'):
  wpAny (model X.prog X.w) A (setItem (.ref a) u r) Q E s:=by
 rcases g with⟨kvs,k,e,ey,l,eH⟩ | ⟨kvs,k,b,e,ey,eb,l,eH⟩
 ·subst ey eH
  obtain⟨z,hd,vs,rel,dd⟩:=dk_of I.hok e
  have hz:vs.length≤sizeLine:=by rw[←rel.length];exact z
  have hl:(z9u kvs k v).length≤sizeLine:=by have:=z5m kvs k v;omega
  refine wpAny_setItem_pairs (hsz:=hz) (y9B ry) dd fun h' dd' hs=>h _ ?_
  have he:∃q,h'.get? a=some q:=let⟨q,_,_,hq,_⟩:=dd';⟨q,hq⟩
  exact y4U I (by rw[e];exact True.intro) hs he (x4N hl hd (rel.put k rv) dd')
 ·subst ey eH
  cases (show u=Value.ref b from ry)
  obtain⟨z,hd,xs,rel,dd⟩:=dt_of I.hok e
  have hz:xs.length≤sizeLine:=by rw[←Paired.length rel];exact z
  have hl:(z9u kvs k v).length≤sizeLine:=by have:=z5m kvs k v;omega
  refine wpAny_setItem_heap (hsz:=hz) (tupleKind_room_in1 hu) (y6q I.hok eb) dd fun h' dd' hs=>h _ ?_
  obtain⟨q,es,ep,hq,h2,h3,h4,_,h5⟩:=dd'
  refine y4U I (by rw[e];exact True.intro) hs ⟨q,hq⟩ ⟨hl,hd,_,(rel.put k eb rv).keeps fun c ys ec=>?_,q,es,ep,hq,h2,h3,h4,h5⟩
  rw[z0I (ne_of ec e (fun z=>nomatch z))]
  exact ec
end
section
end
def tDIn(ty td:TE):TE:=fun σ H Q=>ty σ H fun y H1=>td σ H1 fun x H2=>∃a o,x = .ref a∧DGet H2 a y o∧Q (.bl o.isSome) H2
def tDNotIn(ty td:TE):TE:=fun σ H Q=>ty σ H fun y H1=>td σ H1 fun x H2=>∃a o,x = .ref a∧DGet H2 a y o∧Q (.bl (!o.isSome)) H2
def sDPut(td ty tv:TE):TS:=fun D σ H=>tv σ H fun v H1=>td σ H1 fun x H2=>ty σ H2 fun y H3=>∃a H4,x = .ref a∧DPut H3 a y v H4∧D.nx σ H4
section
variable{X:Cx}{o i value:Expr}{pos pos':Pos}{td ty tv:TE}
theorem pc_din(hu:X.A.units+1<cLine)(hi:PE X i ty)(ho:PE X o td):PC X .In i o (tDIn ty td):=by
 intro pins s σ H Q I h
 refine thn (hi pins s σ H _ I h) fun iv s1 ⟨y,H1,I1,ry,q1⟩=>thn (ho pins s1 σ H1 _ I1 q1) fun u s2 ⟨x,H2,I2,rx,a,ov,ex,g,q2⟩=>?_
 subst ex
 obtain rfl:u=Value.ref a:=rx
 exact d_in hu I2 g ry fun s3 I3=>⟨.bl ov.isSome,H2,I3,rfl,q2⟩
theorem x1q(hu:X.A.units+1<cLine)(hi:PE X i ty)(ho:PE X o td):PC X .NotIn i o (tDNotIn ty td):=by
 intro pins s σ H Q I h
 refine thn (hi pins s σ H _ I h) fun iv s1 ⟨y,H1,I1,ry,q1⟩=>thn (ho pins s1 σ H1 _ I1 q1) fun u s2 ⟨x,H2,I2,rx,a,ov,ex,g,q2⟩=>?_
 subst ex
 obtain rfl:u=Value.ref a:=rx
 exact d_notIn hu I2 g ry fun s3 I3=>⟨.bl (!ov.isSome),H2,I3,rfl,q2⟩
theorem ps_dput(hu:X.A.units+1<cLine)(ho:PE X o td)(hi:PE X i ty)(hv:PE X value tv)(hs:swapsWith value (some (.Subscript o i pos')) pos.line X.env=pure false):
  PS X (.Assign [.Subscript o i pos'] value pos) (sDPut td ty tv):=by
 intro pins s σ H D I h
 refine wpAny_Assign_Subscript (thn (hv pins s σ H _ I h) fun r s1 ⟨v,H1,I1,rv,q1⟩=>thn (ho pins s1 σ H1 _ I1 q1) fun u s2 ⟨x,H2,I2,rx,q2⟩=>thn (hi pins s2 σ H2 _ I2 q2) fun iv s3 ⟨y,H3,I3,ry,a,H4,ex,g,q3⟩=>?_) hs
 subst ex
 obtain rfl:u=Value.ref a:=rx
 exact x1s hu I3 g ry rv fun s4 I4=>⟨σ,H4,I4,q3⟩
end
theorem y5p{P:dw}{w:fm}{H:Hp}(h:Heap)(hb:sysModules<h.objs.size):ObjOk P w H (h.push { cls:=.type "dict",data:=.dict #[] }) h.objs.size (.dK []):=
 ⟨bg _,beq_eq_false_iff_ne.mpr (Ne.symm (az hb)),[],.nil,Heap.DictOf.new h⟩
def tDNewK:TE:=fun _ H Q=>∀p,H p=none->Q (.ref p) (upd H p (.dK []))
section
variable{X:Cx}{pos:Pos}
theorem pe_dnewK:PE X (.Dict [] [] pos) tDNewK:=fun pins s σ H Q I h=>
 wpAny_Dict_empty ⟨.ref s.heap.objs.size,_,I.laid (a:=s.heap.objs.size) (o:=.dK []) (t':=s.toks) (fun _ _ q=>Heap.get?_push_of_some _ q) (ao _) (y5p s.heap I.big),rfl,h _ (I.hok.fresh (ao _))⟩
end
def y9P:List (TE×TE)->St->Hp->(List (V×V)->Hp->Prop)->Prop
 |[],_,H,Q=>Q [] H
 | (tk,tv)::r,σ,H,Q=>tk σ H fun x H1=>tv σ H1 fun y H2=>y9P r σ H2 fun ps H3=>Q ((x,y)::ps) H3
abbrev VV:List (V×V)->List (Value×Value)->Prop:=Paired fun p q=>RelV p.1 q.1∧RelV p.2 q.2
def PPs(X:Cx)(pos:Pos)(keys:List (Option Expr))(values:List Expr)(trs:List (TE×TE)):Prop:=
 ∀(pins:List (Addr×Obj)) (s:Shared) (σ:St) (H:Hp) (Q:List (V×V)->Hp->Prop),Inv X pins σ H s->y9P trs σ H Q →
  wpAny (model X.prog X.w) X.A (evalPairs (pairTrees keys values X.env pos)) (fun vs s'=>∃ps H',Inv X pins σ H' s'∧VV ps vs∧Q ps H') X.xe s
theorem pps_nil{X:Cx}{pos:Pos}:PPs X pos [] [] []:=fun pins s σ H Q I h=>pairTrees_nil_walk ⟨[],H,I,.nil,h⟩
theorem x2N{X:Cx}{pos:Pos}{k v:Expr}{ks:List (Option Expr)}{vs:List Expr}{tk tv:TE}{trs:List (TE×TE)}(hk:PE X k tk)(hv:PE X v tv)(hr:PPs X pos ks vs trs):
  PPs X pos (some k::ks) (v::vs) ((tk,tv)::trs):=fun pins s σ H Q I h=>
 pairTrees_cons_walk (thn (hk pins s σ H _ I h) fun u s1 ⟨x,H1,I1,rx,q1⟩=>thn (hv pins s1 σ H1 _ I1 q1) fun w2 s2 ⟨y,H2,I2,ry,q2⟩=>
  thn (hr pins s2 σ H2 _ I2 q2) fun ws s3 ⟨ps,H3,I3,rel,q3⟩=>⟨(x,y)::ps,H3,I3,.cons ⟨rx,ry⟩ rel,q3⟩)
def y2Q(kvs more:List (Key×V)):List (Key×V):=more.foldl (fun acc kv=>z9u acc kv.1 kv.2) kvs
theorem KV.merge:∀{more:List (Key×V)} {rs:List (Key×Value)} {kvs:List (Key×V)} {vs:List (Key×Value)},KV more rs->KV kvs vs->KV (y2Q kvs more) (merged vs rs):=by
 intro more rs kvs vs r
 unfold KV at r
 induction r generalizing kvs vs with
 |nil=>intro q;exact q
 | @cons p q ps qs h t ih=>
  intro r0
  have e:KV (z9u kvs p.1 p.2) (stored vs q.1 q.2):=by
   have:=r0.put p.1 h.2
   rw[←h.1];exact this
  exact ih e
theorem z6t:∀(more kvs:List (Key×V)),(y2Q kvs more).length≤kvs.length+more.length
 |[],kvs=>by show kvs.length≤kvs.length+0;omega
 |p::r,kvs=>by
  have h1:=z6t r (z9u kvs p.1 p.2)
  have h2:=z5m kvs p.1 p.2
  show(y2Q (z9u kvs p.1 p.2) r).length≤_
  rw[aZ];omega
theorem z9U{P:dw}{w:fm}:∀{kvs:List (Key×V)} {ws:List (Value×Value)},VV (kvs.map fun kv=>(kV kv.1,kv.2)) ws->∃rs,Carries (z1m P w) ws rs∧KV kvs rs
 |[],_,r=>by rw[dm]at r;cases r;exact⟨[],True.intro,.nil⟩
 |p::kvs,_,r=>by
  rw[aF]at r
  cases r with
  | @cons a b as bs h t=>
   obtain⟨rs,c,q⟩:=z9U (P:=P) (w:=w) t
   obtain⟨b1,b2⟩:=b
   exact⟨(p.1,b2)::rs,⟨y9B h.1,rfl,c⟩,.cons ⟨rfl,h.2⟩ q⟩
def tDisp(trs:List (TE×TE)):TE:=fun σ H Q=>∀p,H p=none->y9P trs σ (upd H p (.dK [])) fun ps H2=>H2 p=some (.dK [])∧∃kvs:List (Key×V),ps=kvs.map (fun kv=>(kV kv.1,kv.2))∧kvs.length≤15∧Q (.ref p) (upd H2 p (.dK (y2Q [] kvs)))
theorem pe_disp{X:Cx}{pos:Pos}{keys:List (Option Expr)}{values:List Expr}{trs:List (TE×TE)}(h:PPs X pos keys values trs)(hall:keys.all (·.isSome)=true)(hl:keys.length=values.length)(h0:keys≠[])
  (h15:keys.length≤15):PE X (.Dict keys values pos) (tDisp trs):=by
 intro pins s σ H Q I q
 have hn:=I.hok.fresh (ao s.heap.objs.size)
 have I1:=I.laid (a:=s.heap.objs.size) (o:=.dK []) (h':=s.heap.push { cls:=.type "dict",data:=.dict #[] }) (t':=s.toks) (fun _ _ q=>Heap.get?_push_of_some _ q) (ao _) (y5p s.heap I.big)
 refine wpAny_Dict_walk (knd:=z1m X.prog X.w) hall hl h0 h15 (thn (h pins _ σ _ _ I1 (q _ hn)) fun ws s2 ⟨ps,H2,I2,rel,e,kvs,ep,lk,q2⟩=>?_)
 subst ep
 obtain⟨rs,c,rk⟩:=z9U (P:=X.prog) (w:=X.w) rel
 obtain⟨z,hd,vs0,r0,dd⟩:=dk_of I2.hok e
 cases r0
 refine⟨rs,c,dd,fun h' dd' hs=>⟨.ref s.heap.objs.size,_,?_,rfl,q2⟩⟩
 have hz:(y2Q [] kvs).length≤sizeLine:=by
  have h1:=z6t kvs []
  rw[dM]at h1
  rw[sizeLine_eq];omega
 have he:∃q,h'.get? s.heap.objs.size=some q:=let⟨q,_,_,hq,_⟩:=dd';⟨q,hq⟩
 exact y4U I2 (by rw[e];exact True.intro) hs he (x4N hz hd (rk.merge .nil) dd')
structure M1(X:Cx)(o:Expr)(m:Str)(apos:Pos)(e:Expr)(cpos:Pos):Prop where
 base:fx o m X.env (eval o X.env)=eval o X.env
 few:((fw cpos (starEach [e] X.env)).all (fun x=>!x.1)&&(backToKw cpos (keywordEach [] X.env)).all (fun x=>x.1.isSome)
  && decide (([e]:List Expr).length+([]:List fA).length+(if([]:List fA).isEmpty then 0 else 1)<30))=true
 line:(apos.endLine==cpos.line)=true
 trees:fw cpos (starEach [e] X.env)=[(false,eval e X.env)]
structure M2(X:Cx)(o:Expr)(m:Str)(apos:Pos)(e f:Expr)(cpos:Pos):Prop where
 base:fx o m X.env (eval o X.env)=eval o X.env
 few:((fw cpos (starEach [e,f] X.env)).all (fun x=>!x.1)&&(backToKw cpos (keywordEach [] X.env)).all (fun x=>x.1.isSome)
  && decide (([e,f]:List Expr).length+([]:List fA).length+(if([]:List fA).isEmpty then 0 else 1)<30))=true
 line:(apos.endLine==cpos.line)=true
 trees:fw cpos (starEach [e,f] X.env)=[(false,eval e X.env),(false,eval f X.env)]
section
end
section
end
section
end
section
end
def z2I(cells:List (Str×Addr)):List (Str×NameKind)->List (Str×Addr)->List (Str×Addr)
 |[],acc=>acc
 | (n,k)::r,acc=>if k == .free then z2I cells r ((n,(cells.lookup n).getD 0)::acc)else z2I cells r acc
theorem z8b{env:Env}(f:Str×NameKind->List (Str×Addr)->Sem (ForInStep (List (Str×Addr))))
  (hf:∀n k cs,f (n,k) cs=if k == .free then(do let a ←cellOf env n;pure (.yield ((n,a)::cs)))else pure (.yield cs)):
  ∀(names:List (Str×NameKind)) (acc:List (Str×Addr)),(∀n,(n,NameKind.free)∈names->∃c,env.cells.lookup n=some c)->forIn names acc f=pure (z2I env.cells names acc)
 |[],acc,_=>by rw[List.forIn_nil];rfl
 | (n,k)::r,acc,h=>by
  have hr:=z8b f hf r
  rw[List.forIn_cons,hf]
  unfold z2I
  by_cases hk:(k==NameKind.free)=true
  ·rw[if_pos hk,if_pos hk]
   have ek:k = .free:=eq_of_beq hk
   subst ek
   obtain⟨c,e⟩:=h n ac
   have e1:cellOf env n=pure c:=by unfold cellOf;rw[e]
   rw[e1,e]
   exact hr _ fun m hm=>h m (ad _ hm)
  ·rw[if_neg hk,if_neg hk]
   exact hr _ fun m hm=>h m (ad _ hm)
theorem z2i{scope:fB}{env:Env}(h:∀n,(n,NameKind.free)∈scope.names->∃c,env.cells.lookup n=some c):closureFor scope env=pure (z2I env.cells scope.names []):=by
 simp only[closureFor]
 rw[z8b _ (fun n k cs=>by cases hkc:k==NameKind.free <;> simp[hkc]) scope.names [] h]
 rfl
theorem z4u{cells:List (Str×Addr)}:∀(names:List (Str×NameKind)) (acc:List (Str×Addr)) {x:Str} {c:Addr},(x,c)∈z2I cells names acc->(x,c)∈acc∨((x,NameKind.free)∈names∧c=(cells.lookup x).getD 0)
 |[],_,_,_,h=>.inl h
 | (n,k)::r,acc,x,c,h=>by
  unfold z2I at h
  by_cases hk:(k==NameKind.free)=true
  ·rw[if_pos hk]at h
   have ek:k = .free:=eq_of_beq hk
   subst ek
   rcases z4u r _ h with z | ⟨z1,z2⟩
   ·rcases ah.mp z with q | q
    ·cases q
     exact .inr ⟨ac,rfl⟩
    ·exact .inl q
   ·exact .inr ⟨ad _ z1,z2⟩
  ·rw[if_neg hk]at h
   rcases z4u r _ h with z | ⟨z1,z2⟩
   ·exact .inl z
   ·exact .inr ⟨ad _ z1,z2⟩
theorem z2K{α:Type}{x:Str}{c:α}:∀{l:List (Str×α)},(x,c)∈l->(l.lookup x).isSome=true
 | (n,d)::r,h=>by
  rw[cz]
  cases hb:x==n with
  |true=>rfl
  |false=>
   rcases ah.mp h with q | q
   ·cases q
    simp at hb
   ·exact z2K q
theorem z8R{cells:List (Str×Addr)}{x:Str}:∀(names:List (Str×NameKind)) (acc:List (Str×Addr)),(x,NameKind.free)∈names∨(∃c,(x,c)∈acc)->∃c,(x,c)∈z2I cells names acc
 |[],_,h=>h.elim (fun z=>nomatch z) id
 | (n,k)::r,acc,h=>by
  unfold z2I
  by_cases hk:(k==NameKind.free)=true
  ·rw[if_pos hk]
   refine z8R r _ ?_
   rcases h with z | ⟨c,z⟩
   ·rcases ah.mp z with q | q
    ·cases q
     exact .inr ⟨_,ac⟩
    ·exact .inl q
   ·exact .inr ⟨c,ad _ z⟩
  ·rw[if_neg hk]
   refine z8R r _ ?_
   rcases h with z | z
   ·rcases ah.mp z with q | q
    ·cases q
     exact absurd (by rfl) hk
    ·exact .inl q
   ·exact .inr z
theorem z3o:∀(names:List (Str×NameKind)) (h:Heap) (acc:List (Str×Addr)) {x:Str} {c:Addr},(x,c)∈cellsFrom h.objs.size names acc →
  (x,c)∈acc∨((x,NameKind.cell)∈names∧h.objs.size≤c∧(pushCells h names).IsCell c none)
 |[],_,_,_,_,hm=>.inl hm
 | (n,k)::r,h,acc,x,c,hm=>by
  unfold cellsFrom at hm
  unfold pushCells
  by_cases hk:(k==NameKind.cell)=true
  ·rw[if_pos hk]at hm
   rw[if_pos hk]
   have ek:k = .cell:=eq_of_beq hk
   subst ek
   have e:(h.push { cls:=.type "cell",data:=.cell none }).objs.size=h.objs.size+1:=Heap.size_push ..
   rw[←e]at hm
   rcases z3o r _ _ hm with z | ⟨z1,z2,z3⟩
   ·rcases ah.mp z with q | q
    ·cases q
     exact .inr ⟨ac,ao _,⟨_,pushCells_keeps r _ _ _ (Heap.get?_push_size _ rfl),rfl⟩⟩
    ·exact .inl q
   ·exact .inr ⟨ad _ z1,by omega,z3⟩
  ·rw[if_neg hk]at hm
   rw[if_neg hk]
   rcases z3o r h acc hm with z | ⟨z1,z2,z3⟩
   ·exact .inl z
   ·exact .inr ⟨ad _ z1,z2,z3⟩
theorem z3N{x:Str}:∀(names:List (Str×NameKind)) (n:Nat) (acc:List (Str×Addr)),(x,NameKind.cell)∈names∨(∃c,(x,c)∈acc)->∃c,(x,c)∈cellsFrom n names acc
 |[],_,_,h=>h.elim (fun z=>nomatch z) id
 | (y,k)::r,n,acc,h=>by
  unfold cellsFrom
  by_cases hk:(k==NameKind.cell)=true
  ·rw[if_pos hk]
   refine z3N r _ _ ?_
   rcases h with z | ⟨c,z⟩
   ·rcases ah.mp z with q | q
    ·cases q
     exact .inr ⟨_,ac⟩
    ·exact .inl q
   ·exact .inr ⟨c,ad _ z⟩
  ·rw[if_neg hk]
   refine z3N r _ _ ?_
   rcases h with z | z
   ·rcases ah.mp z with q | q
    ·cases q
     exact absurd (by rfl) hk
    ·exact .inl q
   ·exact .inr z
theorem z3q(lo:Nat):∀(names:List (Str×NameKind)) (n:Nat) (acc:List (Str×Addr)),(∀x y c,(x,c)∈acc->(y,c)∈acc->lo≤c->x=y)->(∀p∈acc,p.2<n) →
  ∀x y c,(x,c)∈cellsFrom n names acc->(y,c)∈cellsFrom n names acc->lo≤c->x=y
 |[],_,_,h,_=>h
 | (m,k)::r,n,acc,h,hb=>by
  unfold cellsFrom
  by_cases hk:(k==NameKind.cell)=true
  ·rw[if_pos hk]
   refine z3q lo r (n+1) ((m,n)::acc) (fun x y c hx hy hc=>?_) fun p hp=>?_
   ·rcases ah.mp hx with q | q <;> rcases ah.mp hy with q' | q'
    ·cases q;cases q';rfl
    ·cases q
     exact absurd (hb _ q') (bj _)
    ·cases q'
     exact absurd (hb _ q) (bj _)
    ·exact h x y c q q' hc
   ·rcases ah.mp hp with q | q
    ·cases q;exact cD _
    ·exact bz (hb p q)
  ·rw[if_neg hk]
   exact z3q lo r n acc h hb
theorem z5e(env:Env)(x:Str):∀names:List (Str×NameKind),
  (names.map fun(n,k)=>if(k==NameKind.free&&env.scope.kind == .function&&env.kindOf n==some .cell)then(n,NameKind.cell)else(n,k)).lookup x =
   (names.lookup x).map fun k=>if(k==NameKind.free&&env.scope.kind == .function&&env.kindOf x==some .cell)then NameKind.cell else k
 |[]=>rfl
 | (n,k)::r=>by
  have ih:=z5e env x r
  show List.lookup x ((if(k==NameKind.free&&env.scope.kind == .function&&env.kindOf n==some .cell)=true then(n,NameKind.cell)else(n,k))::_)=_
  cases hx:x==n with
  |true=>
   have e:=eq_of_beq hx
   subst e
   by_cases hc:(k==NameKind.free&&env.scope.kind == .function&&env.kindOf x==some .cell)=true
   ·rw[if_pos hc]
    simp only[cz,beq_self_eq_true,bN,hc,if_true]
   ·rw[if_neg hc]
    simp only[cz,beq_self_eq_true,bN]
    rw[if_neg hc]
  |false=>
   by_cases hc:(k==NameKind.free&&env.scope.kind == .function&&env.kindOf n==some .cell)=true
   ·rw[if_pos hc];simp only[cz,hx];exact ih
   ·rw[if_neg hc];simp only[cz,hx];exact ih
theorem z2X{M:Model}{A:Around}{E:Value->Shared->Prop}{s:Shared}{scope:fB}{globals:Addr}{closure:List (Str×Addr)}{qual:Str}{env:Env}{Q:Env->Shared->Prop}
  (hQ:Q (newEnv scope s.heap.objs.size globals (cellsFrom (s.heap.objs.size+1) scope.names closure) qual none .none (some env) builtinsNs)
   { s with heap:=pushCells (s.heap.push { cls:=.type "dict",data:=.dict #[] }) scope.names }):
  wpAny M A (newFunctionEnv scope globals closure [] qual none .none (some env)) Q E s:=by
 simp only[newFunctionEnv,eP,if_true]
 refine wpAny_bind (wpAny_alloc ?_)
 refine wpAny_bind (wpAny_layCells _ (fun name kind cells=>by cases hkc:kind==NameKind.cell <;> simp[hkc]) _ _ _ _ ?_)
 rw[show({ s with heap:=s.heap.push { cls:=.type "dict",data:=.dict #[] } }:Shared).heap.objs.size=s.heap.objs.size+1 from Heap.size_push ..]
 refine wpAny_bind ?_
 rw[List.forIn_nil]
 exact wpAny_pure (wpAny_pure hQ)
def capOk(out names:List (Str×NameKind)):Bool:=names.all fun p=>!(decide (p.2=NameKind.free))||(decide (out.lookup p.1=some NameKind.cell)||decide (out.lookup p.1=some NameKind.free))
def nmOk(N N':List Str)(names:List (Str×NameKind)):Bool:=(ag N.length).all fun i=>match N'[i]? with
 |some y=>decide (names.lookup y=none)||(decide (names.lookup y=some NameKind.free)&&decide (N[i]? = some y))
 |none=>false
structure CompScope(N:List Str)(out:List (Str×NameKind))(N':List Str)(k:Nat)(sc:fB):Prop where
 kind:sc.kind = .function
 len:N'.length=N.length+k
 cap:capOk out sc.names=true
 nm:nmOk N N' sc.names=true
 uniq:sc.names.all (fun p=>decide (sc.names.lookup p.1=some p.2))=true
def z0A(X:Cx)(N':List Str)(sc:fB)(s:Shared)(H:Hp)(fp:List Addr)(pins:List (Addr×Obj))(E:Value->Shared->Prop):Cx where
 prog:=X.prog
 w:=X.w
 K:=X.K
 mg:=X.mg
 base:=X.base
 A:=X.A
 N:=N'
 s₀:=s
 H₀:=H
 env:=compEnvC sc (cellsFrom (s.heap.objs.size+1) sc.names (z2I X.env.cells sc.names [])) s.heap.objs.size X.env
 outer:=X.stack
 stack:=X.stack
 ex:=fp
 fn:=fun x=>decide (sc.names.lookup x=some .cell)
 calm:=X.calm
 pn:=X.pn++pins
 xe:=E
section
variable{X:Cx}{N':List Str}{k:Nat}{sc:fB}{pins:List (Addr×Obj)}{σ:St}{H:Hp}{s:Shared}{fp:List Addr}{E:Value->Shared->Prop}
theorem CompScope.fr(S:CompScope X.N X.env.scope.names N' k sc){x:Str}(h:(x,NameKind.free)∈sc.names):X.env.kindOf x=some .cell∨X.env.kindOf x=some .free:=by
 have q:=aW.mp S.cap _ h
 simp at q
 exact q
theorem CompScope.look{N:List Str}{out:List (Str×NameKind)}(S:CompScope N out N' k sc){x:Str}{kd:NameKind}(h:(x,kd)∈sc.names):sc.names.lookup x=some kd:=by
 have q:=aW.mp S.uniq _ h
 exact of_decide_eq_true q
theorem x2U(S:CompScope X.N X.env.scope.names N' k sc)(I:Inv X pins σ H s)(hf:∀b∈fp,y2k X pins H b)(hlt:∀b∈fp,b<s.heap.objs.size):
  Inv (z0A X N' sc s H fp pins E) [] (σ++aD k none) H { s with heap:=pushCells (s.heap.push { cls:=.type "dict",data:=.dict #[] }) sc.names }:=by
 have keeps:∀b o,s.heap.get? b=some o->(pushCells (s.heap.push { cls:=.type "dict",data:=.dict #[] }) sc.names).get? b=some o:=fun b o e=>pushCells_keeps _ _ _ _ (Heap.get?_push_of_some _ e)
 have hsz:(s.heap.push { cls:=.type "dict",data:=.dict #[] }).objs.size=s.heap.objs.size+1:=Heap.size_push ..
 have hns:(pushCells (s.heap.push { cls:=.type "dict",data:=.dict #[] }) sc.names).Ns s.heap.objs.size (fun _=>none):=(Heap.Ns.new s.heap (.type "dict")).keeps (pushCells_keeps _ _)
 have frc:∀x,(x,NameKind.free)∈sc.names->∃c,X.env.cells.lookup x=some c:=fun x h=>I.ok.has x (S.fr h)
 have cm:∀x c,(x,c)∈cellsFrom (s.heap.objs.size+1) sc.names (z2I X.env.cells sc.names []) →
   ((x,NameKind.cell)∈sc.names∧s.heap.objs.size+1≤c∧(pushCells (s.heap.push { cls:=.type "dict",data:=.dict #[] }) sc.names).IsCell c none)∨((x,NameKind.free)∈sc.names∧X.env.cells.lookup x=some c):=fun x c h=>by
  rw[←hsz]at h
  rcases z3o _ _ _ h with z | ⟨z1,z2,z3⟩
  ·rcases z4u _ _ z with z | ⟨z1,z2⟩
   ·exact nomatch z
   ·obtain⟨c',e⟩:=frc x z1
    rw[e]at z2
    cases z2
    exact .inr ⟨z1,e⟩
  ·exact .inl ⟨z1,by omega,z3⟩
 have cl:∀x c,(cellsFrom (s.heap.objs.size+1) sc.names (z2I X.env.cells sc.names [])).lookup x=some c->(x,c)∈cellsFrom (s.heap.objs.size+1) sc.names (z2I X.env.cells sc.names []):=fun x c h=>PySem.mem_of_lookup h
 have clt:∀x c,X.env.cells.lookup x=some c->c<s.heap.objs.size:=fun x c h=>by
  obtain⟨v,q⟩:=I.cell x c h
  exact q.lt
 have has:∀x,(x,NameKind.cell)∈sc.names∨(x,NameKind.free)∈sc.names->∃c,(cellsFrom (s.heap.objs.size+1) sc.names (z2I X.env.cells sc.names [])).lookup x=some c:=fun x h=>by
  obtain⟨c,hc⟩:=z3N (x:=x) sc.names (s.heap.objs.size+1) (z2I X.env.cells sc.names []) (h.imp id fun z=>z8R _ _ (.inl z))
  exact cQ.mp (z2K hc)
 have kd:∀x kk,(relabel sc X.env).names.lookup x=some kk->∃k0,sc.names.lookup x=some k0∧(kk=k0∨(k0 = .free∧kk = .cell)):=fun x kk h=>by
  have q:=z5e X.env x sc.names
  have h':(sc.names.map fun(n,k)=>if(k==NameKind.free&&X.env.scope.kind == .function&&X.env.kindOf n==some .cell)then(n,NameKind.cell)else(n,k)).lookup x=some kk:=h
  rw[q]at h'
  cases e:sc.names.lookup x with
  |none=>rw[e]at h';cases h'
  |some k0=>
   rw[e]at h'
   simp only[bN,Option.some.injEq]at h'
   refine⟨k0,rfl,?_⟩
   split at h'
   ·rename_i hc
    simp at hc
    exact .inr ⟨hc.1.1,h'.symm⟩
   ·exact .inl h'.symm
 refine⟨⟨I.ok.mod,S.kind,I.ok.glob,I.ok.blt,ao _,?inj,?has,?cab,I.ok.hd,I.ok.frames,.inl rfl,?exf,I.bs,aG I.ok.bsz I.sz,?noex,?exfs,I.stack,I.stkFree⟩,
  rfl,I.bare,Un.kept keeps,⟨_,hns,?loc⟩,?cell,I.hok.fresh (ao _),?freeC,?pin,I.hok.kept keeps,?len⟩
 case inj=>
  intro x y c h1 h2
  rcases cm x c (cl x c h1)with⟨_,l1,_⟩ | ⟨m1,e1⟩
  ·rcases cm y c (cl y c h2)with⟨_,l2,_⟩ | ⟨m2,e2⟩
   ·refine z3q (s.heap.objs.size+1) sc.names (s.heap.objs.size+1) (z2I X.env.cells sc.names []) (fun x y c hx _ hc=>?_) (fun p hp=>?_) x y c (cl x c h1) (cl y c h2) l1
    ·rcases z4u _ _ hx with z | ⟨z1,z2⟩
     ·exact nomatch z
     ·obtain⟨c',e⟩:=frc x z1
      rw[e]at z2
      have z3:c=c':=z2
      subst z3
      exact absurd (clt x c e) (d8.mpr (bI hc))
    ·obtain⟨x,c⟩:=p
     rcases z4u _ _ hp with z | ⟨z1,z2⟩
     ·exact nomatch z
     ·obtain⟨c',e⟩:=frc x z1
      rw[e]at z2
      have z3:c=c':=z2
      subst z3
      exact bz (clt x c e)
   ·exact absurd (clt y c e2) (d8.mpr (bI l1))
  ·rcases cm y c (cl y c h2)with⟨_,l2,_⟩ | ⟨m2,e2⟩
   ·exact absurd (clt x c e1) (d8.mpr (bI l2))
   ·exact I.ok.inj x y c e1 e2
 case has=>
  intro x hx
  refine has x ?_
  rcases hx with hx | hx
  ·obtain⟨k0,e,h⟩:=kd x _ hx
   rcases h with h | ⟨h,_⟩
   ·subst h;exact .inl (PySem.mem_of_lookup e)
   ·subst h;exact .inr (PySem.mem_of_lookup e)
  ·obtain⟨k0,e,h⟩:=kd x _ hx
   rcases h with h | ⟨_,h⟩
   ·subst h;exact .inr (PySem.mem_of_lookup e)
   ·cases h
 case cab=>
  intro x c hfn h
  have hfn':sc.names.lookup x=some NameKind.cell:=of_decide_eq_true hfn
  rcases cm x c (cl x c h)with⟨_,l,_⟩ | ⟨m,_⟩
  ·exact bI l
  ·rw[S.look m]at hfn';cases hfn'
 case exf=>
  intro b hb
  refine⟨az (hlt b hb),fun x c h=>?_⟩
  rcases cm x c (cl x c h)with⟨_,l,_⟩ | ⟨_,e⟩
  ·intro z
   subst z
   exact absurd (hlt c hb) (d8.mpr (bI l))
  ·exact(hf b hb).2.2.2.2.1 x c e
 case noex=>
  intro b o e hb
  rcases (hf b hb).2.2.2.1 with z | z
  ·exact I.ok.noex b o e z
  ·exact absurd (aI (Heap.lt_size e) (aG I.ok.bsz z)) (bj _)
 case exfs=>exact fun b hb z=>(ah.mp (I.stkSub b z)).elim (hf b hb).2.1 (hf b hb).2.2.1
 case loc=>
  intro i y v h1 h2 h3
  have hl:=I.len
  by_cases hi:i<σ.length
  ·rw[bd hi]at h2
   have q:=aW.mp S.nm i (am.mpr (by omega))
   have h1':N'[i]? = some y:=h1
   simp only[h1',dO,aM,decide_eq_true_eq]at q
   rcases q with q | ⟨q1,q2⟩
   ·exfalso
    rcases h3 with z | z | z <;> (obtain⟨k0,e,_⟩:=kd y _ z;rw[q]at e;cases e)
   ·have hm:=PySem.mem_of_lookup q1
    obtain⟨m,hn,hloc⟩:=I.loc
    have kk:=S.fr hm
    obtain⟨u,r,l⟩:=hloc i y v q2 h2 (kk.elim (fun z=>.inr (.inl z)) fun z=>.inr (.inr z))
    refine⟨u,r,.inr ⟨?_,?_⟩⟩
    ·rcases h3 with z | z | z
     ·obtain⟨k0,e,h⟩:=kd y _ z
      rw[q1]at e
      cases e
      rcases h with h | ⟨_,h⟩ <;> cases h
     ·exact .inl z
     ·exact .inr z
    ·rcases l with⟨l,_⟩ | ⟨_,c,ec,hc⟩
     ·rcases kk with z | z <;> (rw[z]at l;cases l)
     ·obtain⟨c',e'⟩:=has y (.inr hm)
      refine⟨c',e',?_⟩
      rcases cm y c' (cl y c' e')with⟨m',_⟩ | ⟨_,e2⟩
      ·have:=S.look m'
       rw[q1]at this
       cases this
      ·rw[ec]at e2
       cases e2
       exact hc.keeps keeps
  ·rw[bi (by omega),ce]at h2
   split at h2 <;> cases h2
 case cell=>
  intro x c h
  rcases cm x c (cl x c h)with⟨_,_,q⟩ | ⟨_,e⟩
  ·exact⟨_,q⟩
  ·obtain⟨v,q⟩:=I.cell x c e
   exact⟨v,q.keeps keeps⟩
 case freeC=>
  intro x c h
  rcases cm x c (cl x c h)with⟨_,l,_⟩ | ⟨_,e⟩
  ·exact I.hok.fresh (bI l)
  ·exact I.freeC x c e
 case pin=>
  intro p hp
  have hp':p∈X.pn++pins:=by
   rcases au.mp hp with z | z
   ·exact z
   ·exact nomatch z
  obtain⟨e,n,ne,nf,d⟩:=I.pin p hp'
  exact⟨keeps _ _ e,n,az (Heap.lt_size e),fun z=>(ah.mp (I.stkSub p.1 z)).elim ne nf,d⟩
 case len=>
  show _=N'.length
  rw[aC,eL,S.len,I.len]
theorem z6i{σ':St}{H':Hp}{s':Shared}(I:Inv X pins σ H s)(hf:∀b∈fp,y2k X pins H b)(J:Inv (z0A X N' sc s H fp pins E) [] σ' H' s'):Inv X pins σ H' s':=
 I.call' J.os J.base J.hok J.bare fun b hb=>⟨(hf b hb).2.2.2.1,(hf b hb).2.1,(hf b hb).2.2.2.2.1,(hf b hb).2.2.2.2.2⟩
theorem y2P{H':Hp}{s':Shared}{h':Heap}(I:Inv X pins σ H s)(J:Inv X pins σ H' s')(hn:H' s.heap.objs.size=none)(hb:Heap.SameBut s.heap.objs.size s'.heap h'):Inv X pins σ H' { s' with heap:=h' }:=by
 refine J.turned (t':=s'.toks) (it:=s.heap.objs.size) (fun b o hne e=>(hb.2 b hne).trans e) hn (bP I.lt) (.inr I.sz) (fun x c e=>?_) fun p hp=>?_
 ·obtain⟨v,q⟩:=I.cell x c e
  exact az q.lt
 ·exact az (Heap.lt_size (I.pin p hp).1)
end
theorem y2q{prog:dw}{w:fm}{A:Around}{R:Result->Shared->Prop}{s:Shared}{elt target iter:Expr}{ifs:List Expr}{scope:fB}{pos:Pos}{it acc:Value}{env:Env}(I:Nat->Shared->Prop)
  (turn:∀n s,I n s->wpAny (model prog w) A (pyNext it) (fun r s₁=>match r with
   |none=>R (.ok .next) s₁
   |some v=>wpAny (model prog w) A (letOwnedTupleGo target it v) (fun _ s₁'=>wpAny (model prog w) A (fD target env v) (fun _ s₂=>
     wpAny (model prog w) A (forIn ifs true fun c r=>if r=true then do let ok ←isTrue c env (eval c env);pure (ForInStep.yield ok)else pure (ForInStep.yield r)) (fun ok s₃=>
      if ok=true then wpAny (model prog w) A (eval elt env) (fun x s₄=>
       wpAny (model prog w) A (call (.builtin "list.append") [acc,x]) (fun _ s₅=>∃m,m<n∧I m s₅) (notedBy (model prog w) A env fun e s'=>R (.error e) s') s₄) (notedBy (model prog w) A env fun e s'=>R (.error e) s') s₃
      else ∃m,m<n∧I m s₃) (notedBy (model prog w) A env fun e s'=>R (.error e) s') s₂) (notedBy (model prog w) A env fun e s'=>R (.error e) s') s₁') (notedBy (model prog w) A env fun e s'=>R (.error e) s') s₁) (notedBy (model prog w) A env fun e s'=>R (.error e) s') s)
  (n:Nat) (h:I n s):
  codeAny (model prog w) A (.compLoop (.ListComp elt [⟨target,iter,ifs,0⟩] scope pos) 0 it acc env) R s:=by
 refine codeAny_loop rfl I (fun n s hI=>?_) n h
 show wpAny _ A ((compTurn (.ListComp elt [⟨target,iter,ifs,0⟩] scope pos) 0 it acc env).onRaise (fun x=>do noteFrame x env;theTreesLotGoes x)) _ _ s
 refine wpAny_noted ?_
 rw[compTurn_list]
 refine wpAny_bind (wpAny_standAt (wpAny_bind (wpAny_mono (turn n s hI) (fun r s₁ h₁=>?_) fun _ _ h'=>h')))
 cases r with
 |none=>exact wpAny_pure h₁
 |some v=>
  refine wpAny_bind (wpAny_mono h₁ (fun _ s₁' h₁'=>?_) fun _ _ h'=>h')
  refine wpAny_bind (wpAny_mono h₁' (fun _ s₂ h₂=>wpAny_bind (wpAny_mono h₂ (fun ok s₃ h₃=>?_) fun _ _ h'=>h')) fun _ _ h'=>h')
  cases ok with
  |false=>exact wpAny_pure ⟨rfl,h₃⟩
  |true=>
   exact wpAny_bind (wpAny_bind (wpAny_mono h₃ (fun x s₄ h₄=>wpAny_bind (wpAny_mono h₄ (fun _ s₅ h₅=>wpAny_pure (wpAny_pure ⟨rfl,h₅⟩)) fun _ _ h'=>h')) fun _ _ h'=>h'))
def y8q(X:Cx)(ifs:List Expr)(t:TT):Prop:=
 ∀(pins:List (Addr×Obj)) (s:Shared) (σ:St) (H:Hp) (Q:Bool->Hp->Prop),Inv X pins σ H s->t σ H Q →
  wpAny (model X.prog X.w) X.A (forIn ifs true fun c r=>if r=true then do let ok ←isTrue c X.env (eval c X.env);pure (ForInStep.yield ok)else pure (ForInStep.yield r)) (TP X pins σ Q) X.xe s
def tYes:TT:=fun _ H Q=>Q true H
theorem x2M{X:Cx}:y8q X [] tYes:=fun _ _ _ H _ I h=>wpAny_tests_nil ⟨H,I,h⟩
theorem x3X{X:Cx}{c:Expr}{t:TT}(h:PT X c t):y8q X [c] t:=fun pins s σ H Q I hw=>wpAny_tests_one (h pins s σ H Q I hw)
def y7F(wi:TI)(g:TG)(tc:TT)(te:TE)(k:Nat):TE:=fun σ H Q=>wi σ H fun J H1=>∀D,H1 D=none →
 ∃W:Nat->Nat->St->Hp->Prop,(∃m,W 0 m (σ++aD k none) (upd H1 D (.lst [])))∧∀i m σ' H',W i m σ' H' →
  (J.stop i H'∧Q (.ref D) H')∨(J.go i H'∧∃N:St->Hp->Prop,(∀σ'' H'',N σ'' H''->∃m',m'<m∧W (i+1) m' σ'' H'') ∧
   ∀x H2,J.yld i H' x H2->g x σ' H2 fun σ2 H3=>tc σ2 H3 fun b H4=>if b=true then te σ2 H4 fun y H5=>∃ys,H5 D=some (.lst ys)∧ys.length<sizeLine∧N σ2 (upd H5 D (.lst (ys++[y])))else N σ2 H4)
structure PComp(X:Cx)(N':List Str)(sc:fB)(tg:Expr)(ifs:List Expr)(elt:Expr)(g:TG)(tc:TT)(te:TE):Prop where
 pg:∀s H fp pins E,PG (z0A X N' sc s H fp pins E) tg g
 pt:∀s H fp pins E,y8q (z0A X N' sc s H fp pins E) ifs tc
 pe:∀s H fp pins E,PE (z0A X N' sc s H fp pins E) elt te
section
variable{X:Cx}{N':List Str}{k:Nat}{sc:fB}{tg iter elt:Expr}{ifs:List Expr}{pos:Pos}{g:TG}{tc:TT}{te:TE}{wi:TI}
theorem z6P{pins:List (Addr×Obj)}{σ:St}{H:Hp}{s:Shared}{J:It}{fp:List Addr}{it:Addr}{tn:Nat->Heap->Prop}{Q:VK}{E:Value->Shared->Prop}{RR:Value->Addr->Result->Shared->Prop}
  (hc:X.calm=true) (S:CompScope X.N X.env.scope.names N' k sc) {PC:Shared->Hp->(Value->Shared->Prop)->Prop} (P:∀s H E,PC s H E->PG (z0A X N' sc s H fp pins E) tg g∧y8q (z0A X N' sc s H fp pins E) ifs tc∧PE (z0A X N' sc s H fp pins E) elt te)
  (hP:∀D s3 H3,Inv X pins σ H3 s3->(∀b∈fp,y2k X pins H3 b)->PC s3 H3 (notedBy (model X.prog X.w) X.A (compEnvC sc (cellsFrom (s3.heap.objs.size+1) sc.names (z2I X.env.cells sc.names [])) s3.heap.objs.size X.env) fun e s'=>RR (.ref D) s3.heap.objs.size (.error e) s')) (I:Inv X pins σ H s) (T:Turn X.prog X.w X.K tg J fp it tn) (st:tn 0 s.heap) (hf:∀b∈fp,y2k X pins H b)
  (hW:∀D,H D=none->∃W:Nat->Nat->St->Hp->Prop,(∃m,W 0 m (σ++aD k none) (upd H D (.lst [])))∧∀i m σ' H',W i m σ' H' →
   (J.stop i H'∧Q (.ref D) H')∨(J.go i H'∧∃N:St->Hp->Prop,(∀σ'' H'',N σ'' H''->∃m',m'<m∧W (i+1) m' σ'' H'') ∧
    ∀x H2,J.yld i H' x H2->g x σ' H2 fun σ2 H3=>tc σ2 H3 fun b H4=>if b=true then te σ2 H4 fun y H5=>∃ys,H5 D=some (.lst ys)∧ys.length<sizeLine∧N σ2 (upd H5 D (.lst (ys++[y])))else N σ2 H4))
  (hR:∀D s3 H3 σ' H' s' E',Inv X pins σ H3 s3->(∀b∈fp,y2k X pins H3 b)->Inv (z0A X N' sc s3 H3 fp pins E') [] σ' H' s'->Q (.ref D) H'->RR (.ref D) s3.heap.objs.size (.ok .next) s'):
  wpAny (model X.prog X.w) X.A (newList []) (fun acc s₃=>wpAny (model X.prog X.w) X.A (newFunctionEnv sc X.env.globals (z2I X.env.cells sc.names []) [] X.env.qual none .none (some X.env)) (fun cenv s₄=>
   codeAny (model X.prog X.w) X.A (.compStart (.ListComp elt [⟨tg,iter,ifs,0⟩] sc pos) 0 (.ref it) acc { cenv with scope:=relabel sc X.env }) (RR acc cenv.locals) s₄) E s₃) E s:=by
 obtain⟨W,⟨m0,w0⟩,step⟩:=hW s.heap.objs.size (I.hok.fresh (ao _))
 have I3:Inv X pins σ (upd H s.heap.objs.size (.lst [])) { s with heap:=s.heap.push { cls:=.type "list",data:=.seq ([]:List Value).toArray },toks:=s.toks }:=I.lnew (t':=s.toks) .nil (bg _)
 have lt0:∀b∈fp,b<s.heap.objs.size:=fun b hb=>by
  obtain⟨o,e,_⟩:=T.obj 0 _ st b hb
  exact Heap.lt_size e
 have hf3:∀b∈fp,y2k X pins (upd H s.heap.objs.size (.lst [])) b:=fun b hb=>⟨by rw[z0I (az (lt0 b hb))];exact(hf b hb).1,(hf b hb).2⟩
 have lt3:∀b∈fp,b<(s.heap.push { cls:=.type "list",data:=.seq ([]:List Value).toArray }).objs.size:=fun b hb=>by
  rw[Heap.size_push]
  exact bz (lt0 b hb)
 refine wpAny_newObj_type (z2X ?_)
 generalize hs3:({ s with heap:=s.heap.push { cls:=.type "list",data:=.seq ([]:List Value).toArray },toks:=s.toks }:Shared)=s3 at I3
 have hsh:s3.heap=s.heap.push { cls:=.type "list",data:=.seq ([]:List Value).toArray }:=by rw[←hs3]
 rw[←hsh]at lt3
 have st3:tn 0 s3.heap:=T.keep _ _ _ st fun b _ o e=>by rw[hsh];exact Heap.get?_push_of_some _ e
 show codeAny _ _ (.compStart _ 0 (.ref it) (.ref s.heap.objs.size) (compEnvC sc (cellsFrom (s3.heap.objs.size+1) sc.names (z2I X.env.cells sc.names [])) s3.heap.objs.size X.env)) (RR (.ref s.heap.objs.size) s3.heap.objs.size)
  { s3 with heap:=pushCells (s3.heap.push { cls:=.type "dict",data:=.dict #[] }) sc.names }
 generalize hD:s.heap.objs.size=D at *
 generalize hEn:(notedBy (model X.prog X.w) X.A (compEnvC sc (cellsFrom (s3.heap.objs.size+1) sc.names (z2I X.env.cells sc.names [])) s3.heap.objs.size X.env) fun e s'=>RR (.ref D) s3.heap.objs.size (.error e) s')=En
 have I4:Inv (z0A X N' sc s3 (upd H D (.lst [])) fp pins En) [] (σ++aD k none) (upd H D (.lst [])) { s3 with heap:=pushCells (s3.heap.push { cls:=.type "dict",data:=.dict #[] }) sc.names }:=x2U S I3 hf3 lt3
 have st4:tn 0 (pushCells (s3.heap.push { cls:=.type "dict",data:=.dict #[] }) sc.names):=T.keep _ _ _ st3 fun b _ o e=>pushCells_keeps _ _ _ _ (Heap.get?_push_of_some _ e)
 have stat:∀{H':Hp},(∀b∈fp,H' b=none)->∀b∈fp,y2k (z0A X N' sc s3 (upd H D (.lst [])) fp pins En) [] H' b:=fun hn b hb=>
  ⟨hn b hb,(I4.ok.exf b hb).1,I4.ok.exfs b hb,.inl hb,(I4.ok.exf b hb).2,fun p hp=>(hf3 b hb).2.2.2.2.2 p (by
   rcases au.mp hp with z | z
   ·exact z
   ·exact nomatch z)⟩
 obtain⟨Pg,Pt,Pe⟩:=P s3 (upd H D (.lst [])) En (by rw[←hEn];exact hP D s3 _ I3 hf3)
 have loop:codeAny (model X.prog X.w) X.A (.compLoop (.ListComp elt [⟨tg,iter,ifs,0⟩] sc pos) 0 (.ref it) (.ref D) (z0A X N' sc s3 (upd H D (.lst [])) fp pins En).env) (RR (.ref D) s3.heap.objs.size)
   { s3 with heap:=pushCells (s3.heap.push { cls:=.type "dict",data:=.dict #[] }) sc.names }:=by
  refine y2q (fun n s'=>∃i σ' H',Inv (z0A X N' sc s3 (upd H D (.lst [])) fp pins En) [] σ' H' s'∧tn i s'.heap∧(∀b∈fp,H' b=none)∧W i n σ' H') ?_ m0 ⟨0,_,_,I4,st4,fun b hb=>(hf3 b hb).1,w0⟩
  have eEn:(notedBy (model X.prog X.w) X.A (z0A X N' sc s3 (upd H D (.lst [])) fp pins En).env fun e s'=>RR (.ref D) s3.heap.objs.size (.error e) s')=En:=hEn
  rw[eEn]
  rintro n s5 ⟨i,σ5,H5,I5,st5,fr5,w5⟩
  rcases step i n σ5 H5 w5 with⟨stop,qn⟩ | ⟨go,N,hN,turn⟩
  ·refine thn (T.done (z0A X N' sc s3 (upd H D (.lst [])) fp pins En) rfl rfl rfl hc i [] s5 σ5 H5 En I5 (stat fr5) st5 stop) fun r s6 ⟨hr,I6⟩=>?_
   subst hr
   exact hR D s3 _ σ5 H5 s6 En I3 hf3 I6 qn
  ·refine thn (T.item (z0A X N' sc s3 (upd H D (.lst [])) fp pins En) rfl rfl rfl hc i [] s5 σ5 H5 En I5 (stat fr5) st5 go) fun r s6 ⟨u,hr,h6⟩=>?_
   subst hr
   refine thn h6 fun _ s7 ⟨x,H7,I7,r7,y7,st7,fr7⟩=>?_
   have I7':=I7.pinned (stat fr7) (T.obj _ _ st7)
   have back:∀{σ9:St} {H9:Hp} {s9:Shared},Inv (z0A X N' sc s3 (upd H D (.lst [])) fp pins En) ([]++y1T fp s7.heap) σ9 H9 s9->N σ9 H9 →
     ∃m,m<n∧∃i σ' H',Inv (z0A X N' sc s3 (upd H D (.lst [])) fp pins En) [] σ' H' s9∧tn i s9.heap∧(∀b∈fp,H' b=none)∧W i m σ' H':=fun {σ9 H9 s9} I9 n9=>by
    obtain⟨m',hm,w9⟩:=hN σ9 H9 n9
    refine⟨m',hm,i+1,σ9,H9,I9.unpinned,T.keep _ _ _ st7 fun b hb o e=>(I9.pin (b,o) (aO _ (aO _ (z4Z hb e)))).1,fun b hb=>?_,w9⟩
    obtain⟨o,e,d⟩:=T.obj _ _ st7 b hb
    exact(I9.pin (b,o) (aO _ (aO _ (z4Z hb e)))).2.1
   refine thn (Pg _ s7 σ5 H7 x u _ I7' r7 (turn x H7 y7)) fun _ s8 ⟨σ8,H8,I8,q8⟩=>?_
   refine thn (Pt _ s8 σ8 H8 _ I8 q8) fun ok s9 ⟨H9,I9,q9⟩=>?_
   cases ok with
   |false=>
    rw[if_neg aj]at q9
    rw[if_neg aj]
    exact back I9 q9
   |true=>
    rw[if_pos rfl]at q9
    rw[if_pos rfl]
    refine thn (Pe _ s9 σ8 H9 _ I9 q9) fun y s10 ⟨yv,H10,I10,r10,ys,hys,hl,q10⟩=>?_
    refine thn (z3h _ s10 σ8 H10 (.ref D) [yv] (.ref D) [y] (fun _ H'=>N σ8 H') I10 rfl (.cons r10 .nil) ⟨D,ys,yv,rfl,rfl,hys,hl,q10⟩) fun _ s11 ⟨_,H11,I11,_,q11⟩=>?_
    exact back I11 q11
 exact codeAny_compStart_list loop (T.self X.A 0 _ _ _ st4 loop)
theorem CompScope.names'{N:List Str}{out:List (Str×NameKind)}(S:CompScope N out N' k sc):∀x∈sc.names,x.2 = .local->sc.names.lookup x.1=some .local:=fun x hx e=>by
 obtain⟨n,kd⟩:=x
 have e':kd = .local:=e
 subst e'
 exact S.look hx
theorem y3J(hc:X.calm=true)(S:CompScope X.N X.env.scope.names N' k sc)(hi:PI X tg iter wi)(P:PComp X N' sc tg ifs elt g tc te)(hs:∀x,foldedSetIterable iter X.env x=pure x:=by intro _;rfl):
  PE X (.ListComp elt [⟨tg,iter,ifs,0⟩] sc pos) (y7F wi g tc te k):=by
 intro pins s σ H Q I h
 rw[eval_ListComp]
 refine wpAny_comprehension_free (use:=none) rfl hs (z2i fun n hn=>I.ok.has n (S.fr hn)) S.kind S.names' (thn (hi pins s σ H _ I h) fun v s1 h1=>thn h1 fun itv s2 h2=>?_)
 obtain⟨it,fp,tn,J,H2,e,I2,T,st2,f2,hW⟩:=h2
 subst e
 refine z6P (Q:=Q) (RR:=fun acc C=>compPost (model X.prog X.w) X.A X.xe none (EP X pins σ Q) acc C) (PC:=fun _ _ _=>True) hc S (fun s H E _=>⟨P.pg s H _ _ E,P.pt s H _ _ E,P.pe s H _ _ E⟩) (fun _ _ _ _ _=>trivial) I2 T st2 f2 hW ?_
 intro D s3 H3 σ' H' s' E' I3 f3 J' q
 obtain⟨m,hn,_⟩:=J'.loc
 exact⟨m,hn,fun h' hb=>⟨.ref D,H',y2P I3 (z6i I3 f3 J') J'.free hb,rfl,q⟩⟩
theorem ps_setc{i:Nat}{y:Str}{py spos:Pos}(hc:X.calm=true)(S:CompScope X.N X.env.scope.names N' k sc)(hN:X.N.Nodup)(hy:X.N[i]? = some y)(hyl:X.env.scope.names.lookup y=some .local)(hi:PI X tg iter wi)(P:PComp X N' sc tg ifs elt g tc te)
  (hsw:swapsWith (.ListComp elt [⟨tg,iter,ifs,0⟩] sc pos) (some (.Name y py)) spos.line X.env=pure true:=by rfl) (hs:∀x,foldedSetIterable iter X.env x=pure x:=by intro _;rfl):
  PS X (.Assign [.Name y py] (.ListComp elt [⟨tg,iter,ifs,0⟩] sc pos) spos) (tAsg (y7F wi g tc te k) (z2W i)):=by
 intro pins s σ H D I h
 rw[exec_Assign_Name_used _ _ _ _ hsw]
 refine wpAny_bind (wpAny_standAt (wpAny_bind ?_))
 show wpAny _ X.A (do let _ ←comprehension (.ListComp elt [⟨tg,iter,ifs,0⟩] sc pos) sc X.env _ (newList []) false (eval iter X.env) (some (fD (.Name y py) X.env))) _ _ s
 refine wpAny_bind (wpAny_mono (wpAny_comprehension_free (use:=some (fD (.Name y py) X.env)) (Q:=fun _ s'=>SP X pins D .next s') rfl hs (z2i fun n hn=>I.ok.has n (S.fr hn)) S.kind S.names'
  (thn (hi pins s σ H _ I h) fun v s1 h1=>thn h1 fun itv s2 h2=>?_)) (fun _ s' hq=>wpAny_pure (wpAny_pure hq)) fun _ _ e=>e)
 obtain⟨it,fp,tn,J,H2,e,I2,T,st2,f2,hW⟩:=h2
 subst e
 refine z6P (Q:=fun v H'=>D.nx (σ.set i (some v)) H') (RR:=fun acc C=>compPost (model X.prog X.w) X.A X.xe (some (fD (.Name y py) X.env)) (fun _ s'=>SP X pins D .next s') acc C) (PC:=fun _ _ _=>True) hc S (fun s H E _=>⟨P.pg s H _ _ E,P.pt s H _ _ E,P.pe s H _ _ E⟩) (fun _ _ _ _ _=>trivial) I2 T st2 f2 hW ?_
 intro a s3 H3 σ' H' s' E' I3 f3 J' q
 have J2:=z6i I3 f3 J'
 obtain⟨m,hn,_⟩:=J'.loc
 show wpAny _ X.A (fD (.Name y py) X.env (.ref a)) _ _ _
 refine wpAny_assign_Name (z8J J2 hN hy (.inl hyl) (v:=.ref a) rfl (fun s4 I4 hsb=>?_) (.inr hyl))
 obtain⟨b,hb,hb'⟩:=hsb
 have hne:b≠s3.heap.objs.size:=by
  rcases hb' with z | z
  ·rw[z];exact az I3.lt
  ·obtain⟨v,w'⟩:=I3.cell y b z
   exact az w'.lt
 refine⟨m,hn.sameBut hb (Ne.symm hne),fun h' hb2=>⟨_,H',?_,q⟩⟩
 have I3':Inv X pins (σ.set i (some (.ref a))) H3 s3∨True:=.inr trivial
 refine I4.turned (t':=s4.toks) (it:=s3.heap.objs.size) (fun b o hne e=>(hb2.2 b hne).trans e) J'.free (bP I3.lt) (.inr I3.sz) (fun x c e=>?_) fun p hp=>?_
 ·obtain⟨v,q⟩:=I3.cell x c e
  exact az q.lt
 ·exact az (Heap.lt_size (I3.pin p hp).1)
end
inductive D where
 |non | bl (b:Bool) | int (i:Int) | str (x:Str) | lst (xs:List D) | tup (xs:List D) | scr (ns:List Int) | dct (ks:List Key) (xs:List D) | exc (x:Str) | obj (x:Str) (a:Addr) (ks:List Str) (ds:List D) | cel (a:Addr) (ds:List D)
def x1I(K:aa)(C:Addr):Bool:=aT K (.ref C) "__getattribute__" == some (some (.builtin "BaseException.__getattribute__"))&&aT K (.ref C) "__getattr__" == some none&&bF K C (.type "BaseException")==some true&&(dR K C).isSome&&aT K (.ref C) "__class__" == some (some (.builtin "object.__class__")) &&
 bQ K (.builtin "object.__class__") "__get__" == some (some (.builtin "getset_descriptor.__get__"))&&cC K (.builtin "object.__class__")==some true&&bF K C (.type "object")==some true &&
 ["bool", "int", "str", "list", "tuple", "dict"].all fun T=>cb K (.ref C) (.type T)==some false
def y8j(K:aa)(C:Addr)(ks:List Str):Bool:=dh K C Str.empty&&eO K C&&eN K C&&aT K (.ref C) "__setattr__" == some (some (.builtin "object.__setattr__")) &&
 aT K (.ref C) "__class__" == some (some (.builtin "object.__class__"))&&bQ K (.builtin "object.__class__") "__get__" == some (some (.builtin "getset_descriptor.__get__"))&&cC K (.builtin "object.__class__")==some true&&bF K C (.type "object")==some true &&
 (["bool", "int", "str", "list", "tuple", "dict"].all fun T=>cb K (.ref C) (.type T)==some false)&&ks.all fun f=>aT K (.ref C) f==some none
def isX(a C:Addr)(h:Heap):Prop:=∃o,h.get? a=some o∧o.cls = .ref C∧o.dict=none∧PySem.W.notCls o=true
def SqF(K:aa)(H:Hp)(a:Addr)(xs:List V):Prop:=
 (∃o,H a=some (.frz o (.lst xs)))∨∃(o:Obj) (its:Array Value) (n:Nat),K.lookup a=some o∧o.cls = .type "list" ∧ o.dict=none∧o.data = .seq its n∧its.size≤sizeLine∧Vals xs its.toList
theorem SqF.sq{K:aa}{H:Hp}{a:Addr}{xs:List V}(h:SqF K H a xs):SqL K H a xs:=h.elim (fun z=>.inl (.inr z)) .inr
mutual
def Rep(K:aa)(H:Hp)(B:Addr->Prop):D->V->Prop
 |.non,v=>v = .non
 |.bl b,v=>v = .bl b
 |.int i,v=>v = .int i
 |.str x,v=>v = .str x
 |.lst ds,v=>∃a xs,v = .ref a∧¬ B a∧H a=some (.lst xs)∧Reps K H B ds xs
 |.tup ds,v=>∃a xs,v = .ref a∧SqT K H a xs∧Reps K H B ds xs
 |.scr ns,v=>∃a,v = .ref a∧SqF K H a (ns.map V.int)
 |.dct ks ds,v=>∃a kvs,v = .ref a∧¬ B a∧H a=some (.dK kvs)∧kvs.map (·.1)=ks∧Reps K H B ds (kvs.map (·.2))
 |.exc x,v=>∃a C,v = .ref a∧¬ B a∧H a=some (.ext (isX a C))∧aE K mainGlobals x=some (some (.ref C))∧x1I K C=true
 |.obj x a ks ds,v=>∃C dx fs,¬ B a∧H a=some (.ins C dx fs)∧(v = .ref a∧aE K mainGlobals x=some (some (.ref C))∧y8j K C ks=true∧fs.map (·.1)=ks)∧Reps K H B ds (fs.map (·.2))
 |.cel a ds,v=>∃xs,¬ B a∧H a=some (.lst xs)∧v = .ref a∧Reps K H B ds xs
def Reps(K:aa)(H:Hp)(B:Addr->Prop):List D->List V->Prop
 |[],xs=>xs=[]
 |d::ds,xs=>∃x r,xs=x::r∧Rep K H B d x∧Reps K H B ds r
end
mutual
def Tree(K:aa)(H:Hp):D->V->List Addr->Prop
 |.non,v,A=>v = .non∧A=[]
 |.bl b,v,A=>v = .bl b∧A=[]
 |.int i,v,A=>v = .int i∧A=[]
 |.str x,v,A=>v = .str x∧A=[]
 |.lst ds,v,A=>∃a xs B,v = .ref a∧H a=some (.lst xs)∧Trees K H ds xs B∧A=a::B
 |.tup ds,v,A=>∃a xs,v = .ref a∧SqT K H a xs∧Trees K H ds xs A
 |.scr ns,v,A=>(∃a,v = .ref a∧SqF K H a (ns.map V.int))∧A=[]
 |.dct ks ds,v,A=>∃a kvs B,v = .ref a∧H a=some (.dK kvs)∧kvs.map (·.1)=ks∧Trees K H ds (kvs.map (·.2)) B∧A=a::B
 |.exc x,v,A=>∃a C,v = .ref a∧H a=some (.ext (isX a C))∧aE K mainGlobals x=some (some (.ref C))∧x1I K C=true∧A=[a]
 |.obj x a ks ds,v,A=>∃C dx fs A1,H a=some (.ins C dx fs)∧(v = .ref a∧aE K mainGlobals x=some (some (.ref C))∧y8j K C ks=true∧fs.map (·.1)=ks)∧Trees K H ds (fs.map (·.2)) A1∧A=a::A1
 |.cel a ds,v,A=>∃xs B,H a=some (.lst xs)∧v = .ref a∧Trees K H ds xs B∧A=a::B
def Trees(K:aa)(H:Hp):List D->List V->List Addr->Prop
 |[],xs,A=>xs=[]∧A=[]
 |d::ds,xs,A=>∃x r B C,xs=x::r∧Tree K H d x B∧Trees K H ds r C∧A=B++C
end
mutual
def D.imm:D->Bool
 |.non=>true
 |.bl _=>true
 |.int _=>true
 |.str _=>true
 |.lst _=>false
 |.tup ds=>z3b ds
 |.scr _=>true
 |.dct _ _=>false
 |.exc _=>false
 |.obj _ _ _ _=>false
 |.cel _ _=>false
def z3b:List D->Bool
 |[]=>true
 |d::ds=>d.imm&&z3b ds
end
theorem Same.tup{K:aa}{H H':Hp}{a:Addr}{xs:List V}(e:Same H H')(h:SqT K H a xs):SqT K H' a xs:=by
 rcases h with (h | ⟨o,h⟩) | h
 ·exact .inl (.inl (e _ _ h))
 ·exact .inl (.inr ⟨o,e _ _ h⟩)
 ·exact .inr h
section
variable{K:aa}{H H':Hp}{B B':Addr->Prop}
structure KeepI(K:aa)(H H':Hp):Prop where
 st:∀a xs,SqT K H a xs->SqT K H' a xs
 sf:∀a xs,SqF K H a xs->SqF K H' a xs
structure Keep(K:aa)(B:Addr->Prop)(H H':Hp):Prop where
 sl:∀a xs,¬ B a->H a=some (.lst xs)->H' a=some (.lst xs)
 st:∀a xs,SqT K H a xs->SqT K H' a xs
 sf:∀a xs,SqF K H a xs->SqF K H' a xs
 sd:∀a kvs,¬ B a->H a=some (.dK kvs)->H' a=some (.dK kvs)
 sx:∀a φ,¬ B a->H a=some (.ext φ)->H' a=some (.ext φ)
 si:∀a C dx fs,¬ B a->H a=some (.ins C dx fs)->H' a=some (.ins C dx fs)
theorem Keep.i(k:Keep K B H H'):KeepI K H H':=⟨k.st,k.sf⟩
mutual
theorem Rep.keep(k:Keep K B H H'):∀(d:D) {v:V},Rep K H B d v->Rep K H' B d v
 |.non,_,h=>h
 |.bl _,_,h=>h
 |.int _,_,h=>h
 |.str _,_,h=>h
 |.lst ds,_,h=>by
  unfold Rep at h ⊢
  obtain⟨a,xs,e,n,s,r⟩:=h
  exact⟨a,xs,e,n,k.sl a xs n s,Reps.keep k ds r⟩
 |.tup ds,_,h=>by
  unfold Rep at h ⊢
  obtain⟨a,xs,e,s,r⟩:=h
  exact⟨a,xs,e,k.st a xs s,Reps.keep k ds r⟩
 |.scr ns,_,h=>by
  unfold Rep at h ⊢
  obtain⟨a,e,s⟩:=h
  exact⟨a,e,k.sf a _ s⟩
 |.dct ks ds,_,h=>by
  unfold Rep at h ⊢
  obtain⟨a,kvs,e,n,s,q,r⟩:=h
  exact⟨a,kvs,e,n,k.sd a kvs n s,q,Reps.keep k ds r⟩
 |.exc _,_,h=>by
  unfold Rep at h ⊢
  obtain⟨a,C,e,n,s,r⟩:=h
  exact⟨a,C,e,n,k.sx a _ n s,r⟩
 |.obj x a ks ds,_,h=>by
  unfold Rep at h ⊢
  obtain⟨C,dx,fs,n,s,q,r1⟩:=h
  exact⟨C,dx,fs,n,k.si a C dx fs n s,q,Reps.keep k ds r1⟩
 |.cel a ds,_,h=>by
  unfold Rep at h ⊢
  obtain⟨xs,n,s,e,r⟩:=h
  exact⟨xs,n,k.sl a xs n s,e,Reps.keep k ds r⟩
theorem Reps.keep(k:Keep K B H H'):∀(ds:List D) {xs:List V},Reps K H B ds xs->Reps K H' B ds xs
 |[],_,h=>h
 |d::ds,_,h=>by
  unfold Reps at h ⊢
  obtain⟨x,r,e,h1,h2⟩:=h
  exact⟨x,r,e,Rep.keep k d h1,Reps.keep k ds h2⟩
end
mutual
theorem Rep.anti(hb:∀a,B' a->B a):∀(d:D) {v:V},Rep K H B d v->Rep K H B' d v
 |.non,_,h=>h
 |.bl _,_,h=>h
 |.int _,_,h=>h
 |.str _,_,h=>h
 |.lst ds,_,h=>by
  unfold Rep at h ⊢
  obtain⟨a,xs,e,n,s,r⟩:=h
  exact⟨a,xs,e,fun z=>n (hb a z),s,Reps.anti hb ds r⟩
 |.tup ds,_,h=>by
  unfold Rep at h ⊢
  obtain⟨a,xs,e,s,r⟩:=h
  exact⟨a,xs,e,s,Reps.anti hb ds r⟩
 |.scr _,_,h=>h
 |.dct ks ds,_,h=>by
  unfold Rep at h ⊢
  obtain⟨a,kvs,e,n,s,q,r⟩:=h
  exact⟨a,kvs,e,fun z=>n (hb a z),s,q,Reps.anti hb ds r⟩
 |.exc _,_,h=>by
  unfold Rep at h ⊢
  obtain⟨a,C,e,n,r⟩:=h
  exact⟨a,C,e,fun z=>n (hb a z),r⟩
 |.obj x a ks ds,_,h=>by
  unfold Rep at h ⊢
  obtain⟨C,dx,fs,n,s,q,r1⟩:=h
  exact⟨C,dx,fs,fun z=>n (hb a z),s,q,Reps.anti hb ds r1⟩
 |.cel a ds,_,h=>by
  unfold Rep at h ⊢
  obtain⟨xs,n,s,e,r⟩:=h
  exact⟨xs,fun z=>n (hb a z),s,e,Reps.anti hb ds r⟩
theorem Reps.anti(hb:∀a,B' a->B a):∀(ds:List D) {xs:List V},Reps K H B ds xs->Reps K H B' ds xs
 |[],_,h=>h
 |d::ds,_,h=>by
  unfold Reps at h ⊢
  obtain⟨x,r,e,h1,h2⟩:=h
  exact⟨x,r,e,Rep.anti hb d h1,Reps.anti hb ds h2⟩
end
mutual
theorem Rep.imm:∀(d:D) {v:V},d.imm=true->Rep K H B d v->Rep K H B' d v
 |.non,_,_,h=>h
 |.bl _,_,_,h=>h
 |.int _,_,_,h=>h
 |.str _,_,_,h=>h
 |.lst _,_,i,_=>by unfold D.imm at i;cases i
 |.dct _ _,_,i,_=>by unfold D.imm at i;cases i
 |.exc _,_,i,_=>by unfold D.imm at i;cases i
 |.obj _ _ _ _,_,i,_=>by unfold D.imm at i;cases i
 |.cel _ _,_,i,_=>by unfold D.imm at i;cases i
 |.tup ds,_,i,h=>by
  unfold D.imm at i
  unfold Rep at h ⊢
  obtain⟨a,xs,e,s,r⟩:=h
  exact⟨a,xs,e,s,Reps.imm ds i r⟩
 |.scr _,_,_,h=>h
theorem Reps.imm:∀(ds:List D) {xs:List V},z3b ds=true->Reps K H B ds xs->Reps K H B' ds xs
 |[],_,_,h=>h
 |d::ds,_,i,h=>by
  unfold z3b at i
  rw[aM]at i
  unfold Reps at h ⊢
  obtain⟨x,r,e,h1,h2⟩:=h
  exact⟨x,r,e,Rep.imm d i.1 h1,Reps.imm ds i.2 h2⟩
end
mutual
theorem Rep.immTree:∀(d:D) {v:V},d.imm=true->Rep K H B d v->Tree K H d v []
 |.non,_,_,h=>⟨h,rfl⟩
 |.bl _,_,_,h=>⟨h,rfl⟩
 |.int _,_,_,h=>⟨h,rfl⟩
 |.str _,_,_,h=>⟨h,rfl⟩
 |.lst _,_,i,_=>by unfold D.imm at i;cases i
 |.dct _ _,_,i,_=>by unfold D.imm at i;cases i
 |.exc _,_,i,_=>by unfold D.imm at i;cases i
 |.obj _ _ _ _,_,i,_=>by unfold D.imm at i;cases i
 |.cel _ _,_,i,_=>by unfold D.imm at i;cases i
 |.tup ds,_,i,h=>by
  unfold D.imm at i
  unfold Rep at h
  unfold Tree
  obtain⟨a,xs,e,s,r⟩:=h
  exact⟨a,xs,e,s,Reps.immTree ds i r⟩
 |.scr _,_,_,h=>⟨h,rfl⟩
theorem Reps.immTree:∀(ds:List D) {xs:List V},z3b ds=true->Reps K H B ds xs->Trees K H ds xs []
 |[],_,_,h=>⟨h,rfl⟩
 |d::ds,_,i,h=>by
  unfold z3b at i
  rw[aM]at i
  unfold Reps at h
  unfold Trees
  obtain⟨x,r,e,h1,h2⟩:=h
  exact⟨x,r,[],[],e,Rep.immTree d i.1 h1,Reps.immTree ds i.2 h2,rfl⟩
end
mutual
theorem Tree.rep:∀(d:D) {v:V} {A:List Addr},Tree K H d v A->(∀a∈A,¬ B a)->Rep K H B d v
 |.non,_,_,h,_=>h.1
 |.bl _,_,_,h,_=>h.1
 |.int _,_,_,h,_=>h.1
 |.str _,_,_,h,_=>h.1
 |.lst ds,_,_,h,n=>by
  unfold Tree at h
  unfold Rep
  obtain⟨a,xs,C,e,s,r,rfl⟩:=h
  exact⟨a,xs,e,n a ac,s,Trees.rep ds r fun b hb=>n b (ad _ hb)⟩
 |.tup ds,_,_,h,n=>by
  unfold Tree at h
  unfold Rep
  obtain⟨a,xs,e,s,r⟩:=h
  exact⟨a,xs,e,s,Trees.rep ds r n⟩
 |.scr _,_,_,h,_=>h.1
 |.dct ks ds,_,_,h,n=>by
  unfold Tree at h
  unfold Rep
  obtain⟨a,kvs,C,e,s,q,r,rfl⟩:=h
  exact⟨a,kvs,e,n a ac,s,q,Trees.rep ds r fun b hb=>n b (ad _ hb)⟩
 |.exc _,_,_,h,n=>by
  unfold Tree at h
  unfold Rep
  obtain⟨a,C,e,s,r1,r2,rfl⟩:=h
  exact⟨a,C,e,n a ac,s,r1,r2⟩
 |.obj x a ks ds,_,_,h,n=>by
  unfold Tree at h
  unfold Rep
  obtain⟨C,dx,fs,A1,s,q,r1,rfl⟩:=h
  exact⟨C,dx,fs,n a ac,s,q,Trees.rep ds r1 fun b hb=>n b (ad _ hb)⟩
 |.cel a ds,_,_,h,n=>by
  unfold Tree at h
  unfold Rep
  obtain⟨xs,C,s,e,r,rfl⟩:=h
  exact⟨xs,n a ac,s,e,Trees.rep ds r fun b hb=>n b (ad _ hb)⟩
theorem Trees.rep:∀(ds:List D) {xs:List V} {A:List Addr},Trees K H ds xs A->(∀a∈A,¬ B a)->Reps K H B ds xs
 |[],_,_,h,_=>h.1
 |d::ds,_,_,h,n=>by
  unfold Trees at h
  unfold Reps
  obtain⟨x,r,C,C',e,h1,h2,rfl⟩:=h
  exact⟨x,r,e,Tree.rep d h1 fun b hb=>n b (bc _ hb),Trees.rep ds h2 fun b hb=>n b (aO _ hb)⟩
end
mutual
theorem Tree.keep(kt:KeepI K H H'):∀(d:D) {v:V} {A:List Addr},Tree K H d v A->(∀a∈A,∀o,H a=some o->H' a=some o)->Tree K H' d v A
 |.non,_,_,h,_=>h
 |.bl _,_,_,h,_=>h
 |.int _,_,_,h,_=>h
 |.str _,_,_,h,_=>h
 |.lst ds,_,_,h,n=>by
  unfold Tree at h ⊢
  obtain⟨a,xs,C,e,s,r,rfl⟩:=h
  exact⟨a,xs,C,e,n a ac _ s,Trees.keep kt ds r fun b hb=>n b (ad _ hb),rfl⟩
 |.tup ds,_,_,h,n=>by
  unfold Tree at h ⊢
  obtain⟨a,xs,e,s,r⟩:=h
  exact⟨a,xs,e,kt.st a xs s,Trees.keep kt ds r n⟩
 |.scr _,_,_,h,_=>by
  unfold Tree at h ⊢
  obtain⟨⟨a,e,s⟩,q⟩:=h
  exact⟨⟨a,e,kt.sf a _ s⟩,q⟩
 |.dct ks ds,_,_,h,n=>by
  unfold Tree at h ⊢
  obtain⟨a,kvs,C,e,s,q,r,rfl⟩:=h
  exact⟨a,kvs,C,e,n a ac _ s,q,Trees.keep kt ds r fun b hb=>n b (ad _ hb),rfl⟩
 |.exc _,_,_,h,n=>by
  unfold Tree at h ⊢
  obtain⟨a,C,e,s,r1,r2,rfl⟩:=h
  exact⟨a,C,e,n a ac _ s,r1,r2,rfl⟩
 |.obj x a ks ds,_,_,h,n=>by
  unfold Tree at h ⊢
  obtain⟨C,dx,fs,A1,s,q,r1,rfl⟩:=h
  exact⟨C,dx,fs,A1,n a ac _ s,q,Trees.keep kt ds r1 fun b hb=>n b (ad _ hb),rfl⟩
 |.cel a ds,_,_,h,n=>by
  unfold Tree at h ⊢
  obtain⟨xs,C,s,e,r,rfl⟩:=h
  exact⟨xs,C,n a ac _ s,e,Trees.keep kt ds r fun b hb=>n b (ad _ hb),rfl⟩
theorem Trees.keep(kt:KeepI K H H'):∀(ds:List D) {xs:List V} {A:List Addr},Trees K H ds xs A->(∀a∈A,∀o,H a=some o->H' a=some o)->Trees K H' ds xs A
 |[],_,_,h,_=>h
 |d::ds,_,_,h,n=>by
  unfold Trees at h ⊢
  obtain⟨x,r,C,C',e,h1,h2,rfl⟩:=h
  exact⟨x,r,C,C',e,Tree.keep kt d h1 fun b hb=>n b (bc _ hb),Trees.keep kt ds h2 fun b hb=>n b (aO _ hb),rfl⟩
end
mutual
theorem Tree.held:∀(d:D) {v:V} {A:List Addr},Tree K H d v A->∀a∈A,∃o,H a=some o∧Mut (some o)
 |.non,_,_,h,a,ha=>by rw[h.2]at ha;cases ha
 |.bl _,_,_,h,a,ha=>by rw[h.2]at ha;cases ha
 |.int _,_,_,h,a,ha=>by rw[h.2]at ha;cases ha
 |.str _,_,_,h,a,ha=>by rw[h.2]at ha;cases ha
 |.lst ds,_,_,h,b,hb=>by
  unfold Tree at h
  obtain⟨a,xs,C,e,s,r,rfl⟩:=h
  rcases ah.mp hb with z | z
  ·subst z;exact⟨_,s,trivial⟩
  ·exact Trees.held ds r b z
 |.tup ds,_,_,h,b,hb=>by
  unfold Tree at h
  obtain⟨a,xs,e,s,r⟩:=h
  exact Trees.held ds r b hb
 |.scr _,_,_,h,a,ha=>by rw[h.2]at ha;cases ha
 |.dct ks ds,_,_,h,b,hb=>by
  unfold Tree at h
  obtain⟨a,kvs,C,e,s,q,r,rfl⟩:=h
  rcases ah.mp hb with z | z
  ·subst z;exact⟨_,s,trivial⟩
  ·exact Trees.held ds r b z
 |.exc _,_,_,h,b,hb=>by
  unfold Tree at h
  obtain⟨a,C,e,s,r1,r2,rfl⟩:=h
  rw[ai.mp hb]
  exact⟨_,s,trivial⟩
 |.obj x a ks ds,_,_,h,b,hb=>by
  unfold Tree at h
  obtain⟨C,dx,fs,A1,s,q,r1,rfl⟩:=h
  rcases ah.mp hb with z | z
  ·subst z;exact⟨_,s,trivial⟩
  ·exact Trees.held ds r1 b z
 |.cel a ds,_,_,h,b,hb=>by
  unfold Tree at h
  obtain⟨xs,C,s,e,r,rfl⟩:=h
  rcases ah.mp hb with z | z
  ·subst z;exact⟨_,s,trivial⟩
  ·exact Trees.held ds r b z
theorem Trees.held:∀(ds:List D) {xs:List V} {A:List Addr},Trees K H ds xs A->∀a∈A,∃o,H a=some o∧Mut (some o)
 |[],_,_,h,a,ha=>by rw[h.2]at ha;cases ha
 |d::ds,_,_,h,b,hb=>by
  unfold Trees at h
  obtain⟨x,r,C,C',e,h1,h2,rfl⟩:=h
  rcases au.mp hb with z | z
  ·exact Tree.held d h1 b z
  ·exact Trees.held ds h2 b z
end
theorem Same.sf(e:Same H H'){a:Addr}{xs:List V}(h:SqF K H a xs):SqF K H' a xs:=h.elim (fun⟨o,z⟩=>.inl ⟨o,e _ _ z⟩) .inr
theorem Keep.same(e:Same H H'):Keep K B H H':=⟨fun _ _ _ h=>e _ _ h,fun _ _ h=>e.tup h,fun _ _ h=>e.sf h,fun _ _ _ h=>e _ _ h,fun _ _ _ h=>e _ _ h,fun _ _ _ _ _ h=>e _ _ h⟩
theorem KeepI.same(e:Same H H'):KeepI K H H':=⟨fun _ _ h=>e.tup h,fun _ _ h=>e.sf h⟩
theorem Rep.mono{d:D}{v:V}(h:Rep K H B d v)(e:Same H H'):Rep K H' B d v:=Rep.keep (.same e) d h
theorem Reps.mono{ds:List D}{xs:List V}(h:Reps K H B ds xs)(e:Same H H'):Reps K H' B ds xs:=Reps.keep (.same e) ds h
theorem Tree.mono{d:D}{v:V}{A:List Addr}(h:Tree K H d v A)(e:Same H H'):Tree K H' d v A:=Tree.keep (.same e) d h fun a _ o z=>e a o z
theorem Trees.mono{ds:List D}{v:List V}{A:List Addr}(h:Trees K H ds v A)(e:Same H H'):Trees K H' ds v A:=Trees.keep (.same e) ds h fun a _ o z=>e a o z
mutual
theorem Rep.wide{C:Addr->Prop}(hc:∀a,C a->H a=none):∀(d:D) {v:V},Rep K H B d v->Rep K H (fun a=>B a∨C a) d v
 |.non,_,h=>h
 |.bl _,_,h=>h
 |.int _,_,h=>h
 |.str _,_,h=>h
 |.lst ds,_,h=>by
  unfold Rep at h ⊢
  obtain⟨a,xs,e,n,s,r⟩:=h
  refine⟨a,xs,e,fun z=>z.elim n fun z=>?_,s,Reps.wide hc ds r⟩
  rw[hc a z]at s;cases s
 |.tup ds,_,h=>by
  unfold Rep at h ⊢
  obtain⟨a,xs,e,s,r⟩:=h
  exact⟨a,xs,e,s,Reps.wide hc ds r⟩
 |.scr _,_,h=>h
 |.dct ks ds,_,h=>by
  unfold Rep at h ⊢
  obtain⟨a,kvs,e,n,s,q,r⟩:=h
  refine⟨a,kvs,e,fun z=>z.elim n fun z=>?_,s,q,Reps.wide hc ds r⟩
  rw[hc a z]at s;cases s
 |.exc _,_,h=>by
  unfold Rep at h ⊢
  obtain⟨a,C,e,n,s,r⟩:=h
  refine⟨a,C,e,fun z=>z.elim n fun z=>?_,s,r⟩
  rw[hc a z]at s;cases s
 |.obj x a ks ds,_,h=>by
  unfold Rep at h ⊢
  obtain⟨C',dx,fs,n,s,q,r1⟩:=h
  refine⟨C',dx,fs,fun z=>z.elim n fun z=>?_,s,q,Reps.wide hc ds r1⟩
  rw[hc a z]at s;cases s
 |.cel a ds,_,h=>by
  unfold Rep at h ⊢
  obtain⟨xs,n,s,e,r⟩:=h
  refine⟨xs,fun z=>z.elim n fun z=>?_,s,e,Reps.wide hc ds r⟩
  rw[hc a z]at s;cases s
theorem Reps.wide{C:Addr->Prop}(hc:∀a,C a->H a=none):∀(ds:List D) {xs:List V},Reps K H B ds xs->Reps K H (fun a=>B a∨C a) ds xs
 |[],_,h=>h
 |d::ds,_,h=>by
  unfold Reps at h ⊢
  obtain⟨x,r,e,h1,h2⟩:=h
  exact⟨x,r,e,Rep.wide hc d h1,Reps.wide hc ds h2⟩
end
theorem Keep.upd{a:Addr}{o:HO}(hb:B a)(mu:Mut (H a)):Keep K B H (upd H a o):=by
 refine⟨fun b xs n h=>?_,fun b xs h=>?_,fun b xs h=>?_,fun b kvs n h=>?_,fun b φ n h=>?_,fun b C dx fs n h=>?_⟩
 ·have ne:b≠a:=fun z=>n (z ▸ hb)
  rw[z0I ne];exact h
 ·rcases h with (h | ⟨u,h⟩) | h
  ·have ne:b≠a:=fun z=>by subst z;rw[h]at mu;exact mu
   exact .inl (.inl (by rw[z0I ne];exact h))
  ·have ne:b≠a:=fun z=>by subst z;rw[h]at mu;exact mu
   exact .inl (.inr ⟨u,by rw[z0I ne];exact h⟩)
  ·exact .inr h
 ·rcases h with⟨u,h⟩ | h
  ·have ne:b≠a:=fun z=>by subst z;rw[h]at mu;exact mu
   exact .inl ⟨u,by rw[z0I ne];exact h⟩
  ·exact .inr h
 ·have ne:b≠a:=fun z=>n (z ▸ hb)
  rw[z0I ne];exact h
 ·have ne:b≠a:=fun z=>n (z ▸ hb)
  rw[z0I ne];exact h
 ·have ne:b≠a:=fun z=>n (z ▸ hb)
  rw[z0I ne];exact h
theorem z0q{a:Addr}{o:HO}(h:H a=none):Same H (upd H a o):=fun b u e=>by rw[z0I (z1r e h)];exact e
theorem Reps.length:∀{ds:List D} {xs:List V},Reps K H B ds xs->ds.length=xs.length
 |[],_,h=>by unfold Reps at h;subst h;rfl
 |d::ds,_,h=>by
  unfold Reps at h
  obtain⟨x,r,rfl,_,h2⟩:=h
  simp[Reps.length h2]
theorem Reps.get:∀{ds:List D} {xs:List V} {i:Nat} {d:D},Reps K H B ds xs->ds[i]? = some d->∃x,xs[i]? = some x∧Rep K H B d x
 |[],_,_,_,_,e=>by simp at e
 |d::ds,_,i,d',h,e=>by
  unfold Reps at h
  obtain⟨x,r,rfl,h1,h2⟩:=h
  cases i with
  |zero=>simp at e;subst e;exact⟨x,rfl,h1⟩
  |succ i=>simpa using Reps.get (i:=i) h2 (by simpa using e)
theorem Reps.get':∀{ds:List D} {xs:List V} {i:Nat} {x:V},Reps K H B ds xs->xs[i]? = some x->∃d,ds[i]? = some d∧Rep K H B d x
 |[],_,_,_,h,e=>by unfold Reps at h;subst h;simp at e
 |d::ds,_,i,x',h,e=>by
  unfold Reps at h
  obtain⟨x,r,rfl,h1,h2⟩:=h
  cases i with
  |zero=>simp at e;subst e;exact⟨d,rfl,h1⟩
  |succ i=>simpa using Reps.get' (i:=i) h2 (by simpa using e)
theorem Reps.append:∀{ds es:List D} {xs ys:List V},Reps K H B ds xs->Reps K H B es ys->Reps K H B (ds++es) (xs++ys)
 |[],_,_,_,h,h'=>by unfold Reps at h;subst h;exact h'
 |d::ds,es,_,ys,h,h'=>by
  unfold Reps at h
  obtain⟨x,r,rfl,h1,h2⟩:=h
  exact(show Reps K H B (d::(ds++es)) (x::(r++ys)) by unfold Reps;exact⟨x,r++ys,rfl,h1,Reps.append h2 h'⟩)
theorem Reps.take:∀{ds:List D} {xs:List V} (n:Nat),Reps K H B ds xs->Reps K H B (ds.take n) (xs.take n)
 |_,_,0,_=>by rw[c5,c5];unfold Reps;rfl
 |[],_,_+1,h=>by unfold Reps at h;subst h;unfold Reps;rfl
 |d::ds,_,n+1,h=>by
  unfold Reps at h
  obtain⟨x,r,rfl,h1,h2⟩:=h
  rw[cK,cK]
  unfold Reps
  exact⟨x,_,rfl,h1,Reps.take n h2⟩
theorem Reps.drop:∀{ds:List D} {xs:List V} (n:Nat),Reps K H B ds xs->Reps K H B (ds.drop n) (xs.drop n)
 |_,_,0,h=>h
 |[],_,_+1,h=>by unfold Reps at h;subst h;unfold Reps;rfl
 |d::ds,_,n+1,h=>by
  unfold Reps at h
  obtain⟨x,r,rfl,h1,h2⟩:=h
  exact Reps.drop n h2
theorem Reps.one{d:D}{x:V}(h:Rep K H B d x):Reps K H B [d] [x]:=by unfold Reps;exact⟨x,[],rfl,h,by unfold Reps;rfl⟩
theorem Reps.nil:Reps K H B [] []:=by unfold Reps;rfl
theorem Reps.cons{d:D}{x:V}{ds:List D}{xs:List V}(h:Rep K H B d x)(h':Reps K H B ds xs):Reps K H B (d::ds) (x::xs):=by unfold Reps;exact⟨x,xs,rfl,h,h'⟩
theorem Reps.snoc{d:D}{x:V}{ds:List D}{xs:List V}(h':Reps K H B ds xs)(h:Rep K H B d x):Reps K H B (ds++[d]) (xs++[x]):=h'.append (.one h)
theorem Trees.nil:Trees K H [] [] []:=⟨rfl,rfl⟩
theorem Trees.snoc:∀{ds:List D} {xs:List V} {A C:List Addr} {d:D} {x:V},Trees K H ds xs A->Tree K H d x C->Trees K H (ds++[d]) (xs++[x]) (A++C)
 |[],_,_,C,d,x,h,h'=>by
  obtain⟨rfl,rfl⟩:=h
  exact(show Trees K H [d] [x] C by unfold Trees;exact⟨x,[],C,[],rfl,h',⟨rfl,rfl⟩,(aH _).symm⟩)
 |e::ds,_,_,C,d,x,h,h'=>by
  unfold Trees at h
  obtain⟨y,r,A1,A2,rfl,h1,h2,rfl⟩:=h
  exact(show Trees K H (e::(ds++[d])) (y::(r++[x])) (A1++A2++C) by unfold Trees;exact⟨y,_,A1,A2++C,rfl,h1,Trees.snoc h2 h',aK _ _ _⟩)
end
abbrev DS:=List (Option D)
abbrev DE:=DS->Option D
structure RepS(K:aa)(H:Hp)(B:Addr->Prop)(σ:St)(δ:DS):Prop where
 len:δ.length=σ.length
 get:∀(i:Nat) (d:D),δ[i]? = some (some d)->∃v,σ[i]? = some (some v)∧Rep K H B d v
def InB(B:Addr->Prop)(H:Hp):Prop:=∀a,B a->∃o,H a=some o
def noB:Addr->Prop:=fun _=>False
theorem InB.mono{B:Addr->Prop}{H H':Hp}(h:InB B H)(e:Same H H'):InB B H':=fun a b=>let⟨o,q⟩:=h a b;⟨o,e a o q⟩
theorem InB.no{H:Hp}:InB noB H:=fun _ b=>b.elim
theorem InB.fresh{B:Addr->Prop}{H:Hp}(h:InB B H){a:Addr}(e:H a=none):¬ B a:=fun b=>by
 obtain⟨o,q⟩:=h a b
 rw[e]at q;cases q
theorem RepS.mono{K:aa}{H H':Hp}{B:Addr->Prop}{σ:St}{δ:DS}(h:RepS K H B σ δ)(e:Same H H'):RepS K H' B σ δ:=
 ⟨h.len,fun i d q=>let⟨v,a,r⟩:=h.get i d q;⟨v,a,r.mono e⟩⟩
theorem RepS.anti{K:aa}{H:Hp}{B B':Addr->Prop}{σ:St}{δ:DS}(h:RepS K H B σ δ)(e:∀a,B' a->B a):RepS K H B' σ δ:=
 ⟨h.len,fun i d q=>let⟨v,a,r⟩:=h.get i d q;⟨v,a,r.anti e⟩⟩
def tD(K:aa)(f:DE):TE:=fun σ H Q=>∃B δ d,InB B H∧RepS K H B σ δ∧f δ=some d∧∀v H',Same H H'->Rep K H' B d v->Q v H'
def tF(K:aa)(f:DS->Option (List D)):TE:=fun σ H Q=>∃B δ ds,InB B H∧RepS K H B σ δ∧f δ=some ds ∧
 ∀a xs H',Same H H'->H a=none->H' a=some (.lst xs)->Reps K H' B ds xs->Q (.ref a) H'
def tN(K:aa)(f:DE):TE:=fun σ H Q=>∃δ d,RepS K H noB σ δ∧f δ=some d∧∀v H' A,Same H H'->Tree K H' d v A->A.Nodup->(∀a∈A,H a=none)->Q v H'
def tT(K:aa)(f:DS->Option Bool):TT:=fun σ H Q=>∃B δ b,InB B H∧RepS K H B σ δ∧f δ=some b∧∀H',Same H H'->Q b H'
def tDs(K:aa)(f:DS->Option (List D)):TA:=fun σ H Q=>∃B δ ds,InB B H∧RepS K H B σ δ∧f δ=some ds∧∀vs H',Same H H'->Reps K H' B ds vs->Q vs H'
abbrev PD(X:Cx)(e:Expr)(f:DE):Prop:=PE X e (tD X.K f)
abbrev PF(X:Cx)(e:Expr)(f:DS->Option (List D)):Prop:=PE X e (tF X.K f)
abbrev PN(X:Cx)(e:Expr)(f:DE):Prop:=PE X e (tN X.K f)
abbrev PTD(X:Cx)(e:Expr)(f:DS->Option Bool):Prop:=PT X e (tT X.K f)
abbrev PWD(X:Cx)(e:Expr)(f:DS->Option Bool):Prop:=PW X e (tT X.K f)
section
variable{X:Cx}{e a b c:Expr}{es:List Expr}{pos:Pos}
theorem PE.imp{t t':TE}(h:PE X e t)(w:∀σ H Q,t' σ H Q->t σ H Q):PE X e t':=fun pins s σ H Q I q=>h pins s σ H Q I (w σ H Q q)
theorem PT.imp{t t':TT}(h:PT X e t)(w:∀σ H Q,t' σ H Q->t σ H Q):PT X e t':=fun pins s σ H Q I q=>h pins s σ H Q I (w σ H Q q)
theorem PW.imp{t t':TT}(h:PW X e t)(w:∀σ H Q,t' σ H Q->t σ H Q):PW X e t':=fun wh pins s σ H Q I q=>h wh pins s σ H Q I (w σ H Q q)
theorem PA.imp{t t':TA}(h:PA X es t)(w:∀σ H Q,t' σ H Q->t σ H Q):PA X es t':=fun po pins s σ H Q I q=>h po pins s σ H Q I (w σ H Q q)
def mkL(f:DS->Option (List D)):DE:=fun δ=>(f δ).map .lst
def z0J(f:DS->Option (List D)):DE:=fun δ=>(f δ).bind fun ds=>if z3b ds=true then some (.lst ds)else none
theorem iDF{K:aa}{f:DS->Option (List D)}:∀σ H Q,tD K (mkL f) σ H Q->tF K f σ H Q:=fun σ H Q ⟨B,δ,d,hB,S,q,k⟩=>by
 unfold mkL at q
 cases r:f δ with
 |none=>rw[r]at q;cases q
 |some ds=>
  rw[r]at q
  cases q
  exact⟨B,δ,ds,hB,S,r,fun a xs H' s hn ha hr=>k _ H' s (by unfold Rep;exact⟨a,xs,rfl,hB.fresh hn,ha,hr⟩)⟩
theorem iDN{K:aa}{f:DE}:∀σ H Q,tD K f σ H Q->tN K f σ H Q:=fun σ H Q ⟨B,δ,d,hB,S,q,k⟩=>
 ⟨δ,d,S.anti (fun _ z=>z.elim),q,fun v H' A s t nd fr=>k v H' s (t.rep d fun a ha=>hB.fresh (fr a ha))⟩
theorem iNF{K:aa}{f:DS->Option (List D)}:∀σ H Q,tN K (z0J f) σ H Q->tF K f σ H Q:=fun σ H Q ⟨δ,d,S,q,k⟩=>by
 unfold z0J at q
 cases r:f δ with
 |none=>rw[r]at q;cases q
 |some ds=>
  rw[r]at q
  have q':(if z3b ds=true then some (D.lst ds)else none)=some d:=q
  split at q'
  ·rename_i hi
   cases q'
   refine⟨noB,δ,ds,.no,S,r,fun a xs H' s hn ha hr=>k (.ref a) H' [a] s ?_ (ay.mpr ⟨(fun z=>nomatch z),bh⟩) (fun b hb=>by rw[ai.mp hb];exact hn)⟩
   unfold Tree
   exact⟨a,xs,[],rfl,ha,hr.immTree ds hi,rfl⟩
  ·cases q'
theorem z3t{f:DS->Option (List D)}(h:PF X e f):PD X e (mkL f):=h.imp iDF
theorem z1D{f:DE}(h:PN X e f):PD X e f:=h.imp iDN
theorem z6I{f:DS->Option (List D)}(h:PF X e f):PN X e (z0J f):=h.imp iNF
def z0d(i:Nat):DE:=fun δ=>(δ[i]?).bind id
def dC(d:D):DE:=fun _=>some d
theorem z0g(i:Nat){x:Str}{p:Pos}(h:PE X (.Name x p) (y7r i)):PD X (.Name x p) (z0d i):=h.imp fun σ H Q ⟨B,δ,d,hB,S,q,k⟩=>by
 unfold z0d at q
 cases r:δ[i]? with
 |none=>rw[r]at q;cases q
 |some o=>
  rw[r]at q
  have q':o=some d:=q
  subst q'
  obtain⟨v,e,rv⟩:=S.get i d r
  exact⟨v,e,k v H (.refl H) rv⟩
theorem pd_C{d:D}{v:V}(h:PE X e (tC v))(r:∀K H B,Rep K H B d v):PD X e (dC d):=h.imp fun σ H Q ⟨B,δ,d',hB,S,q,k⟩=>by
 cases q
 exact k v H (.refl H) (r _ _ _)
theorem z0k{i j p}:PD X (.Constant (.int i) j p) (dC (.int i)):=pd_C pe_int fun _ _ _=>rfl
theorem y1v{i j p}:PD X (.Constant (.bool i) j p) (dC (.bl i)):=pd_C pe_bl fun _ _ _=>rfl
theorem pd_non{j p}:PD X (.Constant .none j p) (dC .non):=pd_C pe_non fun _ _ _=>rfl
theorem z0N{i j p}:PD X (.Constant (.str i) j p) (dC (.str i)):=pd_C pe_str fun _ _ _=>rfl
def d2(F:D->D->Option D)(f g:DE):DE:=fun δ=>(f δ).bind fun x=>(g δ).bind fun y=>F x y
theorem z8m{F:D->D->Option D}{f g:DE}{δ:DS}{d:D}(h:d2 F f g δ=some d):∃x y,f δ=some x∧g δ=some y∧F x y=some d:=by
 unfold d2 at h
 cases hx:f δ with
 |none=>rw[hx]at h;cases h
 |some x=>
  rw[hx]at h
  cases hy:g δ with
  |none=>
   have h':((g δ).bind fun y=>F x y)=some d:=h
   rw[hy]at h';cases h'
  |some y=>
   have h':((g δ).bind fun y=>F x y)=some d:=h
   rw[hy]at h'
   exact⟨x,y,rfl,rfl,h'⟩
def Op2(K:aa)(r:R2)(F:D->D->Option D):Prop:=∀(H:Hp) (B:Addr->Prop) (dx dy d:D) (x y:V) (Q:VK),InB B H->Rep K H B dx x->Rep K H B dy y->F dx dy=some d->(∀v H',Same H H'->Rep K H' B d v->Q v H')->r x y H Q
theorem y5F{r:R2}{F:D->D->Option D}{f g:DE}(ho:Op2 X.K r F)(σ:St)(H:Hp)(Q:VK)(h:tD X.K (d2 F f g) σ H Q):tOp r (tD X.K f) (tD X.K g) σ H Q:=by
 obtain⟨B,δ,d,hB,S,q,k⟩:=h
 obtain⟨dx,dy,e1,e2,e3⟩:=z8m q
 exact⟨B,δ,dx,hB,S,e1,fun v H1 s1 r1=>⟨B,δ,dy,hB.mono s1,S.mono s1,e2,fun u H2 s2 r2=>
  ho H2 B dx dy d v u Q ((hB.mono s1).mono s2) (r1.mono s2) r2 e3 fun z H' s' rz=>k z H' ((s1.trans s2).trans s') rz⟩⟩
theorem y7i{op:Operator}{r:R2}{F:D->D->Option D}{f g:DE}(ho:OpR X (binaryOp op) r)(hD:Op2 X.K r F)(ha:PD X a f)(hb:PD X b g):PD X (.BinOp a op b pos) (d2 F f g):=(pe_op ho ha hb).imp (y5F hD)
theorem y5C{op:CmpOp}{r:R2}{F:D->D->Option D}{f g:DE}(ho:OpR X (compareOp op) r)(hD:Op2 X.K r F)(ha:PD X a f)(hb:PD X b g)(hm:ft op b=false):PD X (.Compare a [op] [b] pos) (d2 F f g):=(pe_cmpR ho ha hb hm).imp (y5F hD)
def z0F(f:DE):DS->Option Bool:=fun δ=>match f δ with
 |some (.bl b)=>some b
 |_=>none
theorem y8l{f:DE}{δ:DS}{b:Bool}(h:z0F f δ=some b):f δ=some (.bl b):=by
 unfold z0F at h
 split at h
 ·rename_i b' e
  cases h;exact e
 ·cases h
theorem test_of{t:TE}{f:DE}(h:∀σ H Q,tD X.K f σ H Q->t σ H Q)(σ:St)(H:Hp)(Q:Bool->Hp->Prop)(q:tT X.K (z0F f) σ H Q):tTest t σ H Q:=by
 obtain⟨B,δ,b,hB,S,q,k⟩:=q
 refine h σ H _ ⟨B,δ,.bl b,hB,S,y8l q,fun v H' s r=>?_⟩
 exact⟨b,r,k H' s⟩
theorem z7e{op:CmpOp}{r:R2}{F:D->D->Option D}{f g:DE}(ho:OpR X (compareOp op) r)(hD:Op2 X.K r F)(ha:PD X a f)(hb:PD X b g)(hm:ft op b=false):PTD X (.Compare a [op] [b] pos) (z0F (d2 F f g)):=(pt_cmpR ho ha hb hm).imp (test_of (y5F hD))
def z9R(F G:D->D->Option D)(f g h:DE):DE:=fun δ=>(f δ).bind fun x=>(g δ).bind fun y=>match F x y with
 |some (.bl true)=>(h δ).bind fun z=>G y z
 |some (.bl false)=>some (.bl false)
 |_=>none
theorem x3N{r r':R2}{F G:D->D->Option D}{f g h:DE}(ho:Op2 X.K r F)(ho':Op2 X.K r' G)(σ:St)(H:Hp)(Q:VK)(q:tD X.K (z9R F G f g h) σ H Q):x4u r r' (tD X.K f) (tD X.K g) (tD X.K h) σ H Q:=by
 obtain⟨B,δ,d,hB,S,q,k⟩:=q
 unfold z9R at q
 cases e1:f δ with
 |none=>rw[e1]at q;cases q
 |some x=>
  rw[e1]at q
  cases e2:g δ with
  |none=>
   have q':((g δ).bind _)=some d:=q
   rw[e2]at q';cases q'
  |some y=>
   have q':((g δ).bind _)=some d:=q
   rw[e2]at q'
   have q2:(match F x y with | some (.bl true)=>(h δ).bind fun z=>G y z | some (.bl false)=>some (.bl false) | _=>none)=some d:=q'
   refine⟨B,δ,x,hB,S,e1,fun v H1 s1 r1=>⟨B,δ,y,hB.mono s1,S.mono s1,e2,fun u H2 s2 r2=>?_⟩⟩
   split at q2
   ·rename_i e3
    refine ho H2 B x y _ v u _ ((hB.mono s1).mono s2) (r1.mono s2) r2 e3 fun z H3 s3 r3=>⟨true,r3,?_⟩
    rw[if_pos rfl]
    cases e4:h δ with
    |none=>rw[e4]at q2;cases q2
    |some w=>
     rw[e4]at q2
     have q4:G y w=some d:=q2
     refine⟨B,δ,w,((hB.mono s1).mono s2).mono s3,((S.mono s1).mono s2).mono s3,e4,fun t H4 s4 r4=>?_⟩
     exact ho' H4 B y w d u t Q ((((hB.mono s1).mono s2).mono s3).mono s4) ((r2.mono s3).mono s4) r4 q4 fun z' H' s' rz=>k z' H' ((((s1.trans s2).trans s3).trans s4).trans s') rz
   ·rename_i e3
    cases q2
    refine ho H2 B x y _ v u _ ((hB.mono s1).mono s2) (r1.mono s2) r2 e3 fun z H3 s3 r3=>⟨false,r3,?_⟩
    rw[if_neg aj]
    exact k _ H3 ((s1.trans s2).trans s3) rfl
   ·cases q2
theorem x3h{op op':CmpOp}{r r':R2}{F G:D->D->Option D}{f g h:DE}(ho:OpR X (compareOp op) r)(ho':OpR X (compareOp op') r')(hF:Op2 X.K r F)(hG:Op2 X.K r' G)(ha:PD X a f)(hb:PD X b g)(hc:PD X c h)
  (hm:lastMarks [op,op'] [b,c]=false:=by with_unfolding_all rfl):PD X (.Compare a [op,op'] [b,c] pos) (z9R F G f g h):=(x3m ho ho' ha hb hc hm).imp (x3N hF hG)
def iop(F:Int->Int->Option D):D->D->Option D
 |.int i,.int j=>F i j
 |_,_=>none
theorem y1k{F:Int->Int->Option D}{x y d:D}(h:iop F x y=some d):∃i j,x = .int i∧y = .int j∧F i j=some d:=by
 unfold iop at h
 split at h
 ·exact⟨_,_,rfl,rfl,h⟩
 ·cases h
theorem y5y{K:aa}{C:Int->Int->Prop}[∀i j,Decidable (C i j)]{g:Int->Int->Int}:Op2 K (rI C fun i j=>.int (g i j)) (iop fun i j=>if C i j then some (.int (g i j))else none):=by
 intro H B dx dy d x y Q hB hx hy q k
 obtain⟨i,j,rfl,rfl,q2⟩:=y1k q
 by_cases hc:C i j
 ·rw[if_pos hc]at q2
  cases q2
  exact⟨i,j,hx,hy,hc,k _ H (.refl H) rfl⟩
 ·rw[if_neg hc]at q2
  cases q2
theorem y8z{K:aa}{g:Int->Int->Int}:Op2 K (rI0 fun i j=>.int (g i j)) (iop fun i j=>some (.int (g i j))):=by
 intro H B dx dy d x y Q hB hx hy q k
 obtain⟨i,j,rfl,rfl,q2⟩:=y1k q
 cases q2
 exact⟨i,j,hx,hy,k _ H (.refl H) rfl⟩
theorem z4W{K:aa}{g:Int->Int->Bool}:Op2 K (rI0 fun i j=>.bl (g i j)) (iop fun i j=>some (.bl (g i j))):=by
 intro H B dx dy d x y Q hB hx hy q k
 obtain⟨i,j,rfl,rfl,q2⟩:=y1k q
 cases q2
 exact⟨i,j,hx,hy,k _ H (.refl H) rfl⟩
def d1(F:D->Option D)(f:DE):DE:=fun δ=>(f δ).bind F
theorem y9c{F:D->Option D}{f:DE}{δ:DS}{d:D}(h:d1 F f δ=some d):∃x,f δ=some x∧F x=some d:=by
 unfold d1 at h
 cases hx:f δ with
 |none=>rw[hx]at h;cases h
 |some x=>rw[hx]at h;exact⟨x,rfl,h⟩
def uNeg:D->Option D
 |.int i=>some (.int (-i))
 |_=>none
theorem y6I{f:DE}(h:PD X a f):PD X (.UnaryOp .USub a pos) (d1 uNeg f):=(pe_un un_neg h).imp fun σ H Q ⟨B,δ,d,hB,S,q,k⟩=>by
 obtain⟨x,e1,e2⟩:=y9c q
 refine⟨B,δ,x,hB,S,e1,fun v H' s r=>?_⟩
 unfold uNeg at e2
 split at e2
 ·cases e2
  exact⟨_,r,k _ H' s rfl⟩
 ·cases e2
def z5V:D->Option Bool
 |.non=>some false
 |.bl b=>some b
 |.int i=>some (i != 0)
 |.str x=>if x.length≤sizeLine then some ((x.length:Int) != 0)else none
 |.lst ds=>some (!ds.isEmpty)
 |.tup ds=>some (!ds.isEmpty)
 |.scr ns=>some (!ns.isEmpty)
 |.dct ks _=>some (!ks.isEmpty)
 |.exc _=>none
 |.obj _ _ _ _=>none
 |.cel _ _=>none
def z0z(f:DE):DS->Option Bool:=fun δ=>(f δ).bind z5V
theorem y5D{K:aa}{H:Hp}{B:Addr->Prop}{ds:List D}{xs:List V}(h:Reps K H B ds xs):(!ds.isEmpty) = !xs.isEmpty:=by
 have:=h.length
 cases ds <;> cases xs <;> simp_all
theorem x0V{K:aa}{H:Hp}{B:Addr->Prop}{d:D}{v:V}{k:Bool}(h:Rep K H B d v)(e:z5V d=some k):TruV K v H k:=by
 cases d with
 |non=>cases h;cases e;rfl
 |bl b=>cases h;cases e;rfl
 |int i=>cases h;cases e;rfl
 |str x=>
  cases h
  have e':(if x.length≤sizeLine then some ((x.length:Int) != 0)else none)=some k:=e
  by_cases hl:x.length≤sizeLine
  ·rw[if_pos hl]at e'
   cases e'
   exact⟨hl,rfl⟩
  ·rw[if_neg hl]at e'
   cases e'
 |lst ds=>
  unfold Rep at h
  obtain⟨a,xs,rfl,_,s,r⟩:=h
  cases e
  exact .inl ⟨xs,SqL.of s,y5D r⟩
 |tup ds=>
  unfold Rep at h
  obtain⟨a,xs,rfl,s,r⟩:=h
  cases e
  exact .inr (.inl ⟨xs,s,y5D r⟩)
 |scr ns=>
  unfold Rep at h
  obtain⟨a,rfl,s⟩:=h
  cases e
  exact .inl ⟨_,s.sq,by cases ns <;> rfl⟩
 |dct ks ds=>
  unfold Rep at h
  obtain⟨a,kvs,rfl,_,s,q,r⟩:=h
  cases e
  refine .inr (.inr ⟨kvs,s,?_⟩)
  rw[←q]
  cases kvs <;> rfl
 |exc _=>cases e
 |obj _ _ _ _=>cases e
 |cel _ _=>cases e
theorem z0o{f:DE}(h:PD X a f)(he:∀whole,isTrue a X.env whole=(do let v ←whole;standAt a.pos;holding [v] (truthy v)):=by intro _;rfl):PTD X a (z0z f):=(x4b h he).imp fun σ H Q ⟨B,δ,k,hB,S,q,kk⟩=>by
 unfold z0z at q
 cases e:f δ with
 |none=>rw[e]at q;cases q
 |some d=>
  rw[e]at q
  exact⟨B,δ,d,hB,S,e,fun v H' s r=>⟨k,x0V r q,kk H' s⟩⟩
def z8W(f g:DS->Option Bool):DS->Option Bool:=fun δ=>(f δ).bind fun c=>if c=true then g δ else some false
def dOrT(f g:DS->Option Bool):DS->Option Bool:=fun δ=>(f δ).bind fun c=>if c=true then some true else g δ
def z6m(f:DS->Option Bool):DS->Option Bool:=fun δ=>(f δ).map (!·)
theorem z7L{f:DS->Option Bool}(h:PTD X a f):PWD X (.BoolOp .And [a] pos) f:=pw_and1 h
theorem x0c{f:DS->Option Bool}(h:PTD X a f):PWD X (.BoolOp .Or [a] pos) f:=pw_or1 h
theorem z9c{rest:List Expr}{f g:DS->Option Bool}(ha:PTD X a f)(hb:PWD X (.BoolOp .And (b::rest) pos) g):PWD X (.BoolOp .And (a::b::rest) pos) (z8W f g):=(pw_and ha hb).imp fun σ H Q ⟨B,δ,k,hB,S,q,kk⟩=>by
 unfold z8W at q
 cases e:f δ with
 |none=>rw[e]at q;cases q
 |some c=>
  rw[e]at q
  refine⟨B,δ,c,hB,S,e,fun H1 s1=>?_⟩
  have q':(if c=true then g δ else some false)=some k:=q
  cases c with
  |true=>
   rw[if_pos rfl]at q'
   refine iteT ?_
   exact⟨B,δ,k,hB.mono s1,S.mono s1,q',fun H2 s2=>kk H2 (s1.trans s2)⟩
  |false=>
   rw[if_neg aj]at q'
   refine iteF ?_
   cases q'
   exact kk H1 s1
theorem x5m{rest:List Expr}{f g:DS->Option Bool}(ha:PTD X a f)(hb:PWD X (.BoolOp .Or (b::rest) pos) g):PWD X (.BoolOp .Or (a::b::rest) pos) (dOrT f g):=(pw_or ha hb).imp fun σ H Q ⟨B,δ,k,hB,S,q,kk⟩=>by
 unfold dOrT at q
 cases e:f δ with
 |none=>rw[e]at q;cases q
 |some c=>
  rw[e]at q
  refine⟨B,δ,c,hB,S,e,fun H1 s1=>?_⟩
  have q':(if c=true then some true else g δ)=some k:=q
  cases c with
  |true=>
   rw[if_pos rfl]at q'
   refine iteT ?_
   cases q'
   exact kk H1 s1
  |false=>
   rw[if_neg aj]at q'
   refine iteF ?_
   exact⟨B,δ,k,hB.mono s1,S.mono s1,q',fun H2 s2=>kk H2 (s1.trans s2)⟩
theorem z3Y{f:DS->Option Bool}(h:PTD X a f):PTD X (.UnaryOp .Not a pos) (z6m f):=(pt_not h).imp fun σ H Q ⟨B,δ,k,hB,S,q,kk⟩=>by
 unfold z6m at q
 cases e:f δ with
 |none=>rw[e]at q;cases q
 |some c=>
  rw[e]at q
  cases q
  exact⟨B,δ,c,hB,S,e,kk⟩
def y9t(f g:DE):DE:=fun δ=>match f δ with
 |some (.bl true)=>g δ
 |some (.bl false)=>some (.bl false)
 |_=>none
def uNot:D->Option D
 |.bl b=>some (.bl (!b))
 |_=>none
theorem y6F{op}{f:DE}(h:PD X a f):PD X (.BoolOp op [a] pos) f:=pe_one h
theorem y2U{rest:List Expr}{f g:DE}(ha:PD X a f)(hb:PD X (.BoolOp .And (b::rest) pos) g):PD X (.BoolOp .And (a::b::rest) pos) (y9t f g):=(pe_and ha hb).imp fun σ H Q ⟨B,δ,d,hB,S,q,k⟩=>by
 unfold y9t at q
 split at q
 ·rename_i e
  refine⟨B,δ,.bl true,hB,S,e,fun v H1 s1 r=>⟨true,r,?_⟩⟩
  rw[if_pos rfl]
  exact⟨B,δ,d,hB.mono s1,S.mono s1,q,fun v2 H2 s2 r2=>k v2 H2 (s1.trans s2) r2⟩
 ·rename_i e
  cases q
  refine⟨B,δ,.bl false,hB,S,e,fun v H1 s1 r=>⟨false,r,?_⟩⟩
  rw[if_neg aj]
  exact k _ H1 s1 rfl
 ·cases q
theorem pd_not{f:DE}(h:PD X a f):PD X (.UnaryOp .Not a pos) (d1 uNot f):=(pe_not h).imp fun σ H Q ⟨B,δ,d,hB,S,q,k⟩=>by
 obtain⟨x,e1,e2⟩:=y9c q
 refine⟨B,δ,x,hB,S,e1,fun v H' s r=>?_⟩
 unfold uNot at e2
 split at e2
 ·cases e2
  exact⟨_,r,k _ H' s rfl⟩
 ·cases e2
def dIf(c:DS->Option Bool)(f g:DE):DE:=fun δ=>(c δ).bind fun k=>if k=true then f δ else g δ
theorem x3u{t:DS->Option Bool}{f g:DE}(hc:PTD X c t)(ha:PD X a f)(hb:PD X b g):PD X (.IfExp c a b pos) (dIf t f g):=(x3C hc ha hb).imp fun σ H Q ⟨B,δ,d,hB,S,q,k⟩=>by
 unfold dIf at q
 cases e:t δ with
 |none=>rw[e]at q;cases q
 |some c=>
  rw[e]at q
  refine⟨B,δ,c,hB,S,e,fun H1 s1=>?_⟩
  have q':(if c=true then f δ else g δ)=some d:=q
  cases c with
  |true=>
   rw[if_pos rfl]at q'
   refine iteT ?_
   exact⟨B,δ,d,hB.mono s1,S.mono s1,q',fun v2 H2 s2 r2=>k v2 H2 (s1.trans s2) r2⟩
  |false=>
   rw[if_neg aj]at q'
   refine iteF ?_
   exact⟨B,δ,d,hB.mono s1,S.mono s1,q',fun v2 H2 s2 r2=>k v2 H2 (s1.trans s2) r2⟩
def z0n:List DE->DS->Option (List D)
 |[],_=>some []
 |f::r,δ=>(f δ).bind fun x=>(z0n r δ).bind fun xs=>some (x::xs)
theorem z6D{f:DE}{r:List DE}{δ:DS}{ds:List D}(h:z0n (f::r) δ=some ds):∃x xs,f δ=some x∧z0n r δ=some xs∧ds=x::xs:=by
 unfold z0n at h
 cases hx:f δ with
 |none=>rw[hx]at h;cases h
 |some x=>
  rw[hx]at h
  have h':((z0n r δ).bind fun xs=>some (x::xs))=some ds:=h
  cases hy:z0n r δ with
  |none=>rw[hy]at h';cases h'
  |some xs=>
   rw[hy]at h'
   cases h'
   exact⟨x,xs,rfl,rfl,rfl⟩
theorem z2O:∀{fl:List DE} {δ:DS} {ds:List D},z0n fl δ=some ds->ds.length=fl.length
 |[],_,_,h=>by cases h;rfl
 |f::r,δ,ds,h=>by
  obtain⟨x,xs,_,e,rfl⟩:=z6D h
  simp[z2O e]
abbrev PAD(X:Cx)(es:List Expr)(fl:List DE):Prop:=PA X es (tDs X.K (z0n fl))
theorem z0c:PAD X [] []:=pa_nil.imp fun σ H Q ⟨B,δ,ds,hB,S,q,k⟩=>by
 cases q
 exact k [] H (.refl H) .nil
theorem z0a{f:DE}{fl:List DE}(ha:PD X e f)(hr:PAD X es fl)(hs:starEach (e::es) X.env=(false,eval e X.env)::starEach es X.env:=by rfl):PAD X (e::es) (f::fl):=(z1y ha hr hs).imp fun σ H Q ⟨B,δ,ds,hB,S,q,k⟩=>by
 obtain⟨x,xs,e1,e2,rfl⟩:=z6D q
 exact⟨B,δ,x,hB,S,e1,fun v H1 s1 r1=>⟨B,δ,xs,hB.mono s1,S.mono s1,e2,fun vs H2 s2 r2=>k (v::vs) H2 (s1.trans s2) (.cons (r1.mono s2) r2)⟩⟩
theorem z1d{fl:List DE}(h:PAD X es fl)(hl:fl.length≤1000:=by decide):PF X (.List es pos) (z0n fl):=(y9K h).imp fun σ H Q ⟨B,δ,ds,hB,S,q,k⟩=>by
 refine⟨B,δ,ds,hB,S,q,fun vs H1 s1 r1=>⟨?_,fun p hp=>?_⟩⟩
 ·rw[←r1.length,z2O q]
  exact ck (z9a hl)
 ·exact k p vs _ (s1.trans (z0q hp)) (s1.free hp) z0r (r1.mono (z0q hp))
def mkT(f:DS->Option (List D)):DE:=fun δ=>(f δ).map .tup
theorem z2L{x1}{fl:List DE}(h:PAD X es fl)(hl:fl.length≤1000:=by decide):PD X (.Tuple es x1 pos) (mkT (z0n fl)):=(pe_tup h).imp fun σ H Q ⟨B,δ,d,hB,S,q,k⟩=>by
 unfold mkT at q
 cases r:z0n fl δ with
 |none=>rw[r]at q;cases q
 |some ds=>
  rw[r]at q
  cases q
  refine⟨B,δ,ds,hB,S,r,fun vs H1 s1 r1=>⟨?_,fun p hp=>?_⟩⟩
  ·rw[←r1.length,z2O r]
   exact ck (z9a hl)
  ·refine k _ _ (s1.trans (z0q hp)) ?_
   unfold Rep
   exact⟨p,vs,rfl,SqT.of z0r,r1.mono (z0q hp)⟩
def ixD:D->D->Option D
 |.lst ds,.int i=>atI ds i
 |.tup ds,.int i=>atI ds i
 |.scr ns,.int i=>(atI ns i).map .int
 |_,_=>none
theorem atI_map{α β:Type}(f:α->β)(xs:List α)(i:Int):atI (xs.map f) i=(atI xs i).map f:=by
 unfold atI
 rw[aq]
 cases ixN xs.length i with
 |none=>rfl
 |some j=>simp
theorem y6S{K:aa}{H:Hp}{B:Addr->Prop}{ds:List D}{xs:List V}{i:Int}{d:D}(h:Reps K H B ds xs)(e:atI ds i=some d):∃x,atI xs i=some x∧Rep K H B d x:=by
 unfold atI at e ⊢
 rw[←h.length]
 cases q:ixN ds.length i with
 |none=>rw[q]at e;cases e
 |some j=>
  rw[q]at e
  exact h.get e
theorem o2_ix{K:aa}:Op2 K (rIx K) ixD:=by
 intro H B dx dy d x y Q hB hx hy q k
 unfold ixD at q
 split at q
 ·unfold Rep at hx
  obtain⟨a,xs,rfl,_,s,r⟩:=hx
  obtain⟨v,e,rv⟩:=y6S r q
  exact .inl ⟨a,xs,_,v,rfl,hy,SqL.of s,e,k v H (.refl H) rv⟩
 ·unfold Rep at hx
  obtain⟨a,xs,rfl,s,r⟩:=hx
  obtain⟨v,e,rv⟩:=y6S r q
  exact .inr (.inl ⟨a,xs,_,v,rfl,hy,s,e,k v H (.refl H) rv⟩)
 ·rename_i ns i
  unfold Rep at hx
  obtain⟨a,rfl,s⟩:=hx
  cases e:atI ns i with
  |none=>rw[e]at q;cases q
  |some n=>
   rw[e]at q
   cases q
   exact .inl ⟨a,_,_,.int n,rfl,hy,s.sq,by rw[atI_map,e];rfl,k _ H (.refl H) rfl⟩
 ·cases q
theorem z0u{f g:DE}(ha:PD X a f)(hb:PD X b g)(hs:y3V b:=by intro _ _;rfl):PD X (.Subscript a b pos) (d2 ixD f g):=(pe_ix x5z ha hb hs).imp (y5F o2_ix)
def spR(K:aa)(F:List D->Option D):Sp:=fun vs H Q _=>∃B ds d,InB B H∧Reps K H B ds vs∧F ds=some d∧∀v H',Same H H'->Rep K H' B d v->Q v H'
def spN(K:aa)(F:List D->Option D):Sp:=fun vs H Q _=>∃ds d,Reps K H noB ds vs∧F ds=some d∧∀v H' A,Same H H'->Tree K H' d v A->A.Nodup->(∀a∈A,H a=none)->Q v H'
structure DefOk(P:dw)(w:fm)(K:aa)(mg:Str->Option Value)(base:Heap)(k:Nat)(x:Str)(sp:Sp):Prop where
 ok:∃(f:Addr) (fd:fq) (ps:List Str),mg x=some (.ref f)∧bC K (.ref f)=true∧Binds K fd ps []∧FnOk P w K mg base CX0 k f fd ps sp
def z0j(F:List D->Option D)(fl:List DE):DE:=fun δ=>(z0n fl δ).bind F
theorem z7m{F:List D->Option D}{fl:List DE}{δ:DS}{d:D}(h:z0j F fl δ=some d):∃ds,z0n fl δ=some ds∧F ds=some d:=by
 unfold z0j at h
 cases q:z0n fl δ with
 |none=>rw[q]at h;cases h
 |some ds=>rw[q]at h;exact⟨ds,rfl,h⟩
end
section
variable{X:Cx}{e a b c:Expr}{es:List Expr}{pos p:Pos}{x:Str}{k:Nat}{tg iter elt:Expr}
theorem y1r{sp:Sp}{t:TA}(G:DefOk X.prog X.w X.K X.mg X.base k x sp)(hr:Room k X.A)(hg:Gl X x)(ha:PA X (e::es) t)(hdb:(x==("__debug__" : Str))=false:=by decide)
  (he:starEach (e::es) X.env=(false,eval e X.env)::starEach es X.env:=by rfl) (hpl:(fw pos (starEach es X.env)).any (·.1)=false:=by rfl):PE X (.Call (.Name x p) (e::es) [] pos) (tCall sp [] E0 t):=by
 obtain⟨f,fd,ps,hm,hk,hb,ok⟩:=G.ok
 exact pe_call ok hr hg hm hk hb .nil pass0 ha hdb he hpl
theorem z2a{F:List D->Option D}{fl:List DE}(G:DefOk X.prog X.w X.K X.mg X.base k x (spR X.K F))(hr:Room k X.A)(hg:Gl X x)(ha:PAD X (e::es) fl)(hdb:(x==("__debug__" : Str))=false:=by decide)
  (he:starEach (e::es) X.env=(false,eval e X.env)::starEach es X.env:=by rfl) (hpl:(fw pos (starEach es X.env)).any (·.1)=false:=by rfl):PD X (.Call (.Name x p) (e::es) [] pos) (z0j F fl):=
 (y1r G hr hg ha hdb he hpl).imp fun σ H Q ⟨B,δ,d,hB,S,q,k⟩=>by
  obtain⟨ds,e1,e2⟩:=z7m q
  refine⟨B,δ,ds,hB,S,e1,fun vs H1 s1 r1=>?_⟩
  show spR X.K F (vs++[]) H1 Q E0
  rw[aH]
  exact⟨B,ds,d,hB.mono s1,r1,e2,fun v H' s' r=>k v H' (s1.trans s') r⟩
theorem z0i{F:List D->Option D}{fl:List DE}(G:DefOk X.prog X.w X.K X.mg X.base k x (spN X.K F))(hr:Room k X.A)(hg:Gl X x)(ha:PAD X (e::es) fl)(hdb:(x==("__debug__" : Str))=false:=by decide)
  (he:starEach (e::es) X.env=(false,eval e X.env)::starEach es X.env:=by rfl) (hpl:(fw pos (starEach es X.env)).any (·.1)=false:=by rfl):PN X (.Call (.Name x p) (e::es) [] pos) (z0j F fl):=
 (y1r G hr hg ha hdb he hpl).imp fun σ H Q ⟨δ,d,S,q,k⟩=>by
  obtain⟨ds,e1,e2⟩:=z7m q
  refine⟨noB,δ,ds,.no,S,e1,fun vs H1 s1 r1=>?_⟩
  show spN X.K F (vs++[]) H1 Q E0
  rw[aH]
  exact⟨ds,d,r1,e2,fun v H' A s' t nd fr=>k v H' A (s1.trans s') t nd fun a ha=>s1.free (fr a ha)⟩
structure ItD(K:aa)(J:It)(H:Hp)(B:Addr->Prop)(ds:List D):Prop where
 go:∀i H',Keep K B H H'->i<ds.length->J.go i H'
 stop:∀i H',Keep K B H H'->ds.length≤i->J.stop i H'
 yld:∀i H' x H2,Keep K B H H'->J.yld i H' x H2->Same H' H2∧∃d,(i<ds.length->ds[i]? = some d)∧Rep K H2 B d x
def ItW(K:aa)(J:It)(H:Hp)(B:Addr->Prop)(ds:List D):Prop:=∀C:Addr->Prop,(∀a,C a->H a=none)->ItD K J H (fun a=>B a∨C a) ds
def tI(K:aa)(f:DS->Option (List D)):TI:=fun σ H R=>∃B δ ds,InB B H∧RepS K H B σ δ∧f δ=some ds∧∀J H',Same H H'->ItW K J H' B ds->R J H'
abbrev PID(X:Cx)(tg iter:Expr)(f:DS->Option (List D)):Prop:=PI X tg iter (tI X.K f)
theorem PI.imp{wi wi':TI}(h:PI X tg iter wi)(w:∀σ H R,wi' σ H R->wi σ H R):PI X tg iter wi':=fun pins s σ H R I q=>h pins s σ H R I (w σ H R q)
def iSeq(K:aa)(tl:TE):TI:=fun σ H R=>tl σ H fun x H1=>∃a,x = .ref a∧(((∃xs,SqL K H1 a xs)∧R (Itl K a) H1)∨((∃xs,SqT K H1 a xs)∧R (Itt K a) H1))
theorem pi_seq{l:Expr}{tl:TE}(hl:PE X l tl):PI X tg l (iSeq X.K tl):=by
 intro pins s σ H R I h
 refine thn (hl pins s σ H _ I h) fun v s1 ⟨x,H1,I1,r1,q1⟩=>?_
 obtain⟨a,e,q1⟩:=q1
 subst e
 cases r1
 have fp:∀b∈[s1.heap.objs.size],y2k X pins H1 b:=fun b hb=>by
  have e:b=s1.heap.objs.size:=by simpa using hb
  subst e
  exact I1.fpOk (ao _) (I1.hok.fresh (ao _))
 rcases q1 with⟨⟨xs,hq⟩,q⟩ | ⟨⟨xs,hq⟩,q⟩
 ·obtain⟨its,rv,p,hz⟩:=I1.list hq
  refine wpAny_pyIter_list p.isList ?_
  exact⟨s1.heap.objs.size,[s1.heap.objs.size],_,_,H1,rfl,I1.kept (t':=s1.toks) fun b o e=>Heap.get?_push_of_some _ e,y8x a _,⟨_,Heap.get?_push_size _ rfl,rfl,rfl⟩,fp,q⟩
 ·obtain⟨its,rv,p,hz⟩:=I1.tuple hq
  refine wpAny_pyIter_tuple (show s1.heap.IsTuple a its.toArray from p) ?_
  exact⟨s1.heap.objs.size,[s1.heap.objs.size],_,_,H1,rfl,I1.kept (t':=s1.toks) fun b o e=>Heap.get?_push_of_some _ e,y7V a _,⟨_,Heap.get?_push_size _ rfl,rfl,rfl⟩,fp,q⟩
def y7w:D->Option (List D)
 |.lst ds=>some ds
 |.tup ds=>some ds
 |.scr ns=>some (ns.map .int)
 |_=>none
def z3W(f:DE):DS->Option (List D):=fun δ=>(f δ).bind y7w
theorem x3x{K:aa}{H:Hp}{B:Addr->Prop}{a:Addr}{xs:List V}{ds:List D}(n:¬ B a)(h:H a=some (.lst xs))(r:Reps K H B ds xs):ItD K (Itl K a) H B ds:=by
 have hl:=r.length
 refine⟨fun i H' kp hi=>?_,fun i H' kp hi=>?_,fun i H' x H2 kp y=>?_⟩
 ·exact⟨xs,xs[i],SqL.of (kp.sl a xs n h),by rw[ax]⟩
 ·exact⟨xs,SqL.of (kp.sl a xs n h),by omega⟩
 ·obtain⟨e,y⟩:=y
  subst e
  have hx:=y xs (SqL.of (kp.sl a xs n h))
  obtain⟨d,e,rd⟩:=(Reps.keep kp ds r).get' hx
  exact⟨.refl _,d,fun _=>e,rd⟩
theorem itd_tup{K:aa}{H:Hp}{B:Addr->Prop}{a:Addr}{xs:List V}{ds:List D}(h:SqT K H a xs)(r:Reps K H B ds xs):ItD K (Itt K a) H B ds:=by
 have hl:=r.length
 refine⟨fun i H' kp hi=>?_,fun i H' kp hi=>?_,fun i H' x H2 kp y=>?_⟩
 ·exact⟨xs,xs[i],kp.st a xs h,by rw[ax]⟩
 ·exact⟨xs,kp.st a xs h,by omega⟩
 ·obtain⟨e,y⟩:=y
  subst e
  have hx:=y xs (kp.st a xs h)
  obtain⟨d,e,rd⟩:=(Reps.keep kp ds r).get' hx
  exact⟨.refl _,d,fun _=>e,rd⟩
theorem z2E{K:aa}{H:Hp}{B:Addr->Prop}:∀ns:List Int,Reps K H B (ns.map D.int) (ns.map V.int)
 |[]=>.nil
 |n::ns=>.cons rfl (z2E ns)
theorem itd_scr{K:aa}{H:Hp}{B:Addr->Prop}{a:Addr}{ns:List Int}(h:SqF K H a (ns.map V.int)):ItD K (Itl K a) H B (ns.map D.int):=by
 have r:∀H',Reps K H' B (ns.map D.int) (ns.map V.int):=fun _=>z2E ns
 refine⟨fun i H' kp hi=>?_,fun i H' kp hi=>?_,fun i H' x H2 kp y=>?_⟩
 ·exact⟨ns.map V.int,(ns.map V.int)[i]'(by simpa using hi),(kp.sf a _ h).sq,by rw[ax]⟩
 ·exact⟨ns.map V.int,(kp.sf a _ h).sq,by simpa using hi⟩
 ·obtain⟨e,y⟩:=y
  subst e
  have hx:=y _ (kp.sf a _ h).sq
  obtain⟨d,e,rd⟩:=(r _).get' hx
  exact⟨.refl _,d,fun _=>e,rd⟩
theorem z0v{l:Expr}{f:DE}(h:PD X l f):PID X tg l (z3W f):=(pi_seq h).imp fun σ H R ⟨B,δ,ds,hB,S,q,k⟩=>by
 unfold z3W at q
 cases e:f δ with
 |none=>rw[e]at q;cases q
 |some d=>
  rw[e]at q
  have q':y7w d=some ds:=q
  refine⟨B,δ,d,hB,S,e,fun v H1 s1 r1=>?_⟩
  unfold y7w at q'
  split at q'
  ·cases q'
   unfold Rep at r1
   obtain⟨a,xs,rfl,n,h,r⟩:=r1
   exact⟨a,rfl,.inl ⟨⟨xs,SqL.of h⟩,k _ H1 s1 fun C hC=>x3x (fun z=>z.elim n fun z=>by rw[hC a z]at h;cases h) h (Reps.wide hC _ r)⟩⟩
  ·cases q'
   unfold Rep at r1
   obtain⟨a,xs,rfl,h,r⟩:=r1
   exact⟨a,rfl,.inr ⟨⟨xs,h⟩,k _ H1 s1 fun C hC=>itd_tup h (Reps.wide hC _ r)⟩⟩
  ·cases q'
   unfold Rep at r1
   obtain⟨a,rfl,h⟩:=r1
   exact⟨a,rfl,.inl ⟨⟨_,h.sq⟩,k _ H1 s1 fun C hC=>itd_scr h⟩⟩
  ·cases q'
def z9O(lo:Int)(n:Nat):List D:=(ag n).map fun i=>.int (lo+(i:Nat))
theorem x3z{lo:Int}{n i:Nat}(h:i<n):(z9O lo n)[i]? = some (.int (lo+i)):=by
 unfold z9O
 rw[aJ,cM h]
 rfl
theorem z5A(lo:Int)(n:Nat):(z9O lo n).length=n:=by unfold z9O;rw[aq,bx]
theorem itd_rng{K:aa}{H:Hp}{B:Addr->Prop}{lo:Int}{n:Nat}:ItD K (Itr lo n) H B (z9O lo n):=by
 refine⟨fun i H' _ hi=>?_,fun i H' _ hi=>?_,fun i H' x H2 _ y=>?_⟩
 ·rw[z5A]at hi;exact hi
 ·rw[z5A]at hi;exact hi
 ·obtain⟨e,y⟩:=y
  subst e y
  exact⟨.refl _,.int (lo+i),fun h=>x3z (by rwa [z5A]at h),rfl⟩
def z4a(f:DE):DS->Option (List D):=fun δ=>match f δ with
 |some (.int j)=>if -(2 ^ 62)≤j∧j<2 ^ 62 then some (z9O 0 j.toNat)else none
 |_=>none
theorem z2j{f:DE}(hg:Gl X "range")(hm:X.mg "range" = none)(ha:PD X a f)(hs:starEach [a] X.env=[(false,eval a X.env)]:=by rfl):PID X tg (.Call (.Name "range" p) [a] [] pos) (z4a f):=
 (y9n hg hm (z0a ha z0c hs) hs).imp fun σ H R ⟨B,δ,ds,hB,S,q,k⟩=>by
  unfold z4a at q
  split at q
  ·rename_i j e
   split at q
   ·rename_i hj
    cases q
    have ea:z0n [f] δ=some [.int j]:=by unfold z0n;rw[e];rfl
    refine⟨B,δ,[.int j],hB,S,ea,fun vs H1 s1 r1=>?_⟩
    unfold Reps at r1
    obtain⟨x,r,rfl,rx,rr⟩:=r1
    unfold Reps at rr
    subst rr
    exact⟨j,by rw[show x=V.int j from rx],hj.1,hj.2,k _ H1 s1 fun C _=>itd_rng⟩
   ·cases q
  ·cases q
def x2u:Option D->List D->List D
 |some y,ys=>y::ys
 |none,ys=>ys
def z1B(h:D->Option (Option D)):List D->Option (List D)
 |[]=>some []
 |x::r=>(h x).bind fun o=>(z1B h r).bind fun ys=>some (x2u o ys)
theorem z6S{h:D->Option (Option D)}{x:D}{r ds:List D}(e:z1B h (x::r)=some ds):∃o ys,h x=some o∧z1B h r=some ys∧ds=x2u o ys:=by
 unfold z1B at e
 cases q:h x with
 |none=>rw[q]at e;cases e
 |some o=>
  rw[q]at e
  have e':((z1B h r).bind fun ys=>some (x2u o ys))=some ds:=e
  cases q':z1B h r with
  |none=>rw[q']at e';cases e'
  |some ys=>
   rw[q']at e'
   exact⟨o,ys,rfl,rfl,(Option.some.inj e').symm⟩
def z1v(fi:DS->Option (List D))(fc:DS->Option Bool)(fe:DE):DS->Option (List D):=fun δ=>(fi δ).bind fun xs=>if xs.length≤sizeLine then
 z1B (fun x=>(fc (δ++[some x])).bind fun k=>if k=true then(fe (δ++[some x])).map some else some none) xs else none
def z6h:DS->Option Bool:=fun _=>some true
theorem z0Q{X:Cx}:y8q X [] (tT X.K z6h):=fun pins s σ H Q I ⟨B,δ,b,hB,S,q,k⟩=>x2M pins s σ H Q I (by cases q;exact k H (.refl H))
theorem z0W{X:Cx}{c:Expr}{f:DS->Option Bool}(h:PTD X c f):y8q X [c] (tT X.K f):=x3X h
theorem RepS.snoc{K:aa}{H:Hp}{B:Addr->Prop}{σ:St}{δ:DS}{d:D}{v:V}(S:RepS K H B σ δ)(r:Rep K H B d v):RepS K H B (σ++[some v]) (δ++[some d]):=by
 refine⟨by simp[S.len],fun i d' e=>?_⟩
 by_cases hi:i<δ.length
 ·rw[bd hi]at e
  obtain⟨w,e',r'⟩:=S.get i d' e
  exact⟨w,by rw[bd (by rw[←S.len];exact hi)];exact e',r'⟩
 ·by_cases hj:i=δ.length
  ·subst hj
   rw[bi (ao _),Nat.sub_self]at e
   cases e
   refine⟨v,?_,r⟩
   rw[S.len,bi (ao _),Nat.sub_self]
   rfl
  ·rw[br (by simp;omega)]at e
   cases e
theorem RepS.wide{K:aa}{H:Hp}{B C:Addr->Prop}{σ:St}{δ:DS}(h:RepS K H B σ δ)(hc:∀a,C a->H a=none):RepS K H (fun a=>B a∨C a) σ δ:=
 ⟨h.len,fun i d q=>let⟨v,a,r⟩:=h.get i d q;⟨v,a,Rep.wide hc d r⟩⟩
theorem z7X{w v:Option V}:∀{σ:St},(σ++[w]).set σ.length v=σ++[v]
 |[]=>rfl
 |x::r=>congrArg (x :: ·) (z7X (σ:=r))
variable{N':List Str}{sc:fB}{ifs:List Expr}{n:Nat}{px:Pos}{fi:DS->Option (List D)}{fc:DS->Option Bool}{fe:DE}
theorem y6d{σ:St}{H:Hp}{Q:VK}(hσ:σ.length=n)(hq:tF X.K (z1v fi fc fe) σ H Q):y7F (tI X.K fi) (z2W n) (tT X.K fc) (tD X.K fe) 1 σ H Q:=by
 obtain⟨B,δ,ds,hB,Sδ,q,k⟩:=hq
 unfold z1v at q
 cases e1:fi δ with
 |none=>rw[e1]at q;cases q
 |some xs=>
 rw[e1]at q
 have q1:(if xs.length≤sizeLine then z1B (fun x=>(fc (δ++[some x])).bind fun k=>if k=true then(fe (δ++[some x])).map some else some none) xs else none)=some ds:=q
 split at q1
 case isFalse=>cases q1
 case isTrue hsz=>
 refine⟨B,δ,xs,hB,Sδ,e1,fun J H1 s1 itw=>fun Da hD=>?_⟩
 have hD0:H Da=none:=s1.free hD
 have it:=itw (fun a=>a=Da) fun a ha=>by rw[ha];exact hD
 have Sw:RepS X.K H1 (fun a=>B a∨a=Da) σ δ:=(Sδ.mono s1).wide fun a ha=>by rw[ha];exact hD
 refine⟨fun i m σ' H'=>m=xs.length - i∧i≤xs.length∧(∃w,σ'=σ++[w])∧Same H1 H'∧∃ys dn rs,H' Da=some (.lst ys)∧Reps X.K H' (fun a=>B a∨a=Da) dn ys∧ds=dn++rs∧dn.length≤i ∧
  z1B (fun x=>(fc (δ++[some x])).bind fun k=>if k=true then(fe (δ++[some x])).map some else some none) (xs.drop i)=some rs,
  ⟨xs.length,by simp,bg _,⟨none,rfl⟩,z0q hD,[],[],ds,z0r,.nil,rfl,ao _,q1⟩,?_⟩
 rintro i m σ' H' ⟨rfl,hi',⟨w,rfl⟩,sm,ys,dn,rs,hys,rys,hds,hln,hrs⟩
 have kp:Keep X.K (fun a=>B a∨a=Da) H1 H':=.same sm
 by_cases hlt:i<xs.length
 ·refine .inr ⟨it.go i H' kp hlt,fun σ'' H''=>(i+1≤xs.length∧(∃w,σ''=σ++[w])∧Same H1 H''∧∃ys dn rs,H'' Da=some (.lst ys)∧Reps X.K H'' (fun a=>B a∨a=Da) dn ys∧ds=dn++rs∧dn.length≤i+1 ∧
   z1B (fun x=>(fc (δ++[some x])).bind fun k=>if k=true then(fe (δ++[some x])).map some else some none) (xs.drop (i+1))=some rs),fun σ'' H'' h=>⟨xs.length - (i+1),by omega,rfl,h⟩,fun xv H2 hy=>?_⟩
  obtain⟨s2,d,hd,rd⟩:=it.yld i H' xv H2 kp hy
  have hdi:=hd hlt
  have hx:xs.drop i=d::xs.drop (i+1):=by
   obtain⟨hl,e⟩:=aU.mp hdi
   rw[bn hl,e]
  rw[hx]at hrs
  obtain⟨o,rs',e2,e3,e4⟩:=z6S hrs
  show tT X.K fc ((σ++[w]).set n (some xv)) H2 _
  rw[←hσ,z7X]
  have hB1:InB (fun a=>B a∨a=Da) H2:=fun a ha=>ha.elim (fun z=>(((hB.mono s1).mono sm).mono s2) a z) fun z=>⟨_,s2 _ _ (z ▸ hys)⟩
  have S2:RepS X.K H2 (fun a=>B a∨a=Da) (σ++[some xv]) (δ++[some d]):=((Sw.mono sm).mono s2).snoc rd
  have hl2:ys.length<sizeLine:=by
   have:=rys.length
   omega
  cases ec:fc (δ++[some d])with
  |none=>rw[ec]at e2;cases e2
  |some kk=>
   rw[ec]at e2
   have e2':(if kk=true then(fe (δ++[some d])).map some else some none)=some o:=e2
   refine⟨_,δ++[some d],kk,hB1,S2,ec,fun H3 s3=>?_⟩
   cases kk with
   |false=>
    rw[if_neg aj]at e2'
    rw[if_neg aj]
    cases e2'
    exact⟨hlt,⟨_,rfl⟩,(sm.trans s2).trans s3,ys,dn,rs',s3 _ _ (s2 _ _ hys),(rys.mono s2).mono s3,by rw[hds,e4];rfl,dE hln,e3⟩
   |true=>
    rw[if_pos rfl]at e2'
    rw[if_pos rfl]
    cases ey:fe (δ++[some d])with
    |none=>rw[ey]at e2';cases e2'
    |some y=>
     rw[ey]at e2'
     cases e2'
     refine⟨_,δ++[some d],y,hB1.mono s3,S2.mono s3,ey,fun yv H5 s5 r5=>⟨ys,s5 _ _ (s3 _ _ (s2 _ _ hys)),hl2,?_⟩⟩
     have hu:H5 Da=some (.lst ys):=s5 _ _ (s3 _ _ (s2 _ _ hys))
     refine⟨hlt,⟨_,rfl⟩,fun b u hb=>?_,ys++[yv],dn++[y],rs',z0r,?_,by rw[hds,e4,aK];rfl,by rw[aC];simp;omega,e3⟩
     ·rw[z0I (z1r hb hD)]
      exact s5 _ _ (s3 _ _ (s2 _ _ (sm _ _ hb)))
     ·exact Reps.keep (.upd (.inr rfl) (by rw[hu];exact trivial)) _ (((rys.mono s2).mono s3 |>.mono s5).snoc r5)
 ·have e:i=xs.length:=by omega
  subst e
  refine .inl ⟨it.stop _ H' kp (ao _),?_⟩
  rw[cB]at hrs
  cases hrs
  rw[aH]at hds
  subst hds
  exact k Da ys H' (s1.trans sm) hD0 hys (rys.anti fun a z=>.inl z)
theorem z1T(hc:X.calm=true)(S:CompScope X.N X.env.scope.names N' 1 sc)(hn:n=X.N.length)(hi:PID X (.Name x px) iter fi)
  (hg:∀s H fp pins E,PG (z0A X N' sc s H fp pins E) (.Name x px) (z2W n)) (ht:∀s H fp pins E,y8q (z0A X N' sc s H fp pins E) ifs (tT X.K fc)) (he:∀s H fp pins E,PE (z0A X N' sc s H fp pins E) elt (tD X.K fe))
  (hs:∀x,foldedSetIterable iter X.env x=pure x:=by intro _;rfl):PF X (.ListComp elt [⟨.Name x px,iter,ifs,0⟩] sc pos) (z1v fi fc fe):=by
 intro pins s σ H Q I hq
 exact y3J hc S hi ⟨hg,ht,he⟩ hs pins s σ H Q I (y6d (by rw[hn,I.len]) hq)
theorem z9G{i:Nat}{y:Str}{py spos:Pos}(hN:X.N.Nodup)(hy:X.N[i]? = some y)(hyl:X.env.scope.names.lookup y=some .local)(hc:X.calm=true)(S:CompScope X.N X.env.scope.names N' 1 sc)(hn:n=X.N.length)(hi:PID X (.Name x px) iter fi)
  (hg:∀s H fp pins E,PG (z0A X N' sc s H fp pins E) (.Name x px) (z2W n)) (ht:∀s H fp pins E,y8q (z0A X N' sc s H fp pins E) ifs (tT X.K fc)) (he:∀s H fp pins E,PE (z0A X N' sc s H fp pins E) elt (tD X.K fe))
  (hsw:swapsWith (.ListComp elt [⟨.Name x px,iter,ifs,0⟩] sc pos) (some (.Name y py)) spos.line X.env=pure true:=by rfl) (hs:∀x,foldedSetIterable iter X.env x=pure x:=by intro _;rfl):
  PS X (.Assign [.Name y py] (.ListComp elt [⟨.Name x px,iter,ifs,0⟩] sc pos) spos) (tAsg (tF X.K (z1v fi fc fe)) (z2W i)):=by
 intro pins s σ H D I hq
 exact ps_setc hc S hN hy hyl hi ⟨hg,ht,he⟩ hsw hs pins s σ H D I (y6d (by rw[hn,I.len]) hq)
end
inductive SD where
 |sh (d:D) | ow (d:D) | bo (r:Nat) (d:D)
abbrev SS:=List (Option SD)
def SD.val:SD->D
 |.sh d=>d
 |.ow d=>d
 |.bo _ d=>d
def z0D(δ:SS):DS:=δ.map (Option.map SD.val)
def shO:Option SD->Option D
 |some (.sh d)=>some d
 |_=>none
def shV(δ:SS):DS:=δ.map shO
structure RS(K:aa)(H0:Hp)(B0:Addr->Prop)(H:Hp)(σ:St)(δ:SS)(R:Nat->List Addr):Prop where
 keep:Same H0 H
 inB:InB B0 H0
 len:δ.length=σ.length
 new:∀r a,a∈R r->H0 a=none
 held:∀r a,a∈R r->∃o,H a=some o∧Mut (some o)
 disj:∀r s a,a∈R r->a∈R s->r=s
 sh:∀(i:Nat) (d:D),δ[i]? = some (some (.sh d))->∃v,σ[i]? = some (some v)∧Rep K H (fun a=>B0 a∨∃r,a∈R r) d v
 bo:∀(i r:Nat) (d:D),δ[i]? = some (some (.bo r d))->∃v,σ[i]? = some (some v)∧Rep K H (fun a=>B0 a∨∃s,s≠r∧a∈R s) d v
 ow:∀(i:Nat) (d:D),δ[i]? = some (some (.ow d))->∃v,σ[i]? = some (some v)∧Tree K H d v (R i)∧(R i).Nodup
structure Stp(R:Nat->List Addr)(H:Hp)(R':Nat->List Addr)(H':Hp):Prop where
 keep:∀a o,H a=some o->(∀r,a∉R r)->H' a=some o
 from':∀r a,a∈R' r->(∃s,a∈R s)∨H a=none
 there:∀a,H' a=none->H a=none
theorem Stp.refl(R:Nat->List Addr)(H:Hp):Stp R H R H:=⟨fun _ _ h _=>h,fun r _ h=>.inl ⟨r,h⟩,fun _ h=>h⟩
theorem Stp.trans{R R1 R2:Nat->List Addr}{H H1 H2:Hp}(a:Stp R H R1 H1)(b:Stp R1 H1 R2 H2):Stp R H R2 H2:=by
 refine⟨fun x o h n=>b.keep x o (a.keep x o h n) fun r hr=>?_,fun r x h=>?_,fun x h=>a.there x (b.there x h)⟩
 ·rcases a.from' r x hr with⟨s,z⟩ | z
  ·exact n s z
  ·rw[h]at z;cases z
 ·rcases b.from' r x h with⟨s,z⟩ | z
  ·exact a.from' s x z
  ·exact .inr (a.there x z)
theorem Stp.same{R:Nat->List Addr}{H H':Hp}(e:Same H H'):Stp R H R H':=⟨fun a o h _=>e a o h,fun r _ h=>.inl ⟨r,h⟩,fun _ h=>e.free h⟩
section
variable{K:aa}{H0 H H':Hp}{B0:Addr->Prop}{σ:St}{δ:SS}{R:Nat->List Addr}
theorem x2I{i:Nat}{d:D}(h:(z0D δ)[i]? = some (some d)):∃x,δ[i]? = some (some x)∧x.val=d:=by
 unfold z0D at h
 rw[aJ]at h
 cases e:δ[i]? with
 |none=>rw[e]at h;cases h
 |some o=>
  rw[e]at h
  cases o with
  |none=>cases h
  |some x=>cases h;exact⟨x,rfl,rfl⟩
theorem shV_get{i:Nat}{d:D}(h:(shV δ)[i]? = some (some d)):δ[i]? = some (some (.sh d)):=by
 unfold shV at h
 rw[aJ]at h
 cases e:δ[i]? with
 |none=>rw[e]at h;cases h
 |some o=>
  rw[e]at h
  have h':shO o=some d:=Option.some.inj h
  unfold shO at h'
  split at h'
  ·cases h';rfl
  ·cases h'
theorem RS.all(h:RS K H0 B0 H σ δ R):RepS K H noB σ (z0D δ):=by
 refine⟨by unfold z0D;rw[aq];exact h.len,fun i d e=>?_⟩
 obtain⟨x,e',rfl⟩:=x2I e
 cases x with
 |sh d=>
  obtain⟨v,e1,r⟩:=h.sh i d e'
  exact⟨v,e1,r.anti fun _ z=>z.elim⟩
 |bo r d=>
  obtain⟨v,e1,r⟩:=h.bo i r d e'
  exact⟨v,e1,r.anti fun _ z=>z.elim⟩
 |ow d=>
  obtain⟨v,e1,t,_⟩:=h.ow i d e'
  exact⟨v,e1,t.rep d fun _ _ z=>z.elim⟩
theorem RS.shr(h:RS K H0 B0 H σ δ R):RepS K H (fun a=>B0 a∨∃r,a∈R r) σ (shV δ):=by
 refine⟨by unfold shV;rw[aq];exact h.len,fun i d e=>h.sh i d (shV_get e)⟩
theorem RS.inAll(h:RS K H0 B0 H σ δ R):InB (fun a=>B0 a∨∃r,a∈R r) H:=fun a ha=>by
 rcases ha with z | ⟨r,z⟩
 ·exact(h.inB.mono h.keep) a z
 ·obtain⟨o,e,_⟩:=h.held r a z
  exact⟨o,e⟩
theorem RS.mono(h:RS K H0 B0 H σ δ R)(e:Same H H'):RS K H0 B0 H' σ δ R:=by
 refine⟨h.keep.trans e,h.inB,h.len,h.new,fun r a z=>?_,h.disj,fun i d z=>?_,fun i r d z=>?_,fun i d z=>?_⟩
 ·obtain⟨o,e1,m⟩:=h.held r a z
  exact⟨o,e a o e1,m⟩
 ·obtain⟨v,e1,r⟩:=h.sh i d z
  exact⟨v,e1,r.mono e⟩
 ·obtain⟨v,e1,r⟩:=h.bo i r d z
  exact⟨v,e1,r.mono e⟩
 ·obtain⟨v,e1,t,nd⟩:=h.ow i d z
  exact⟨v,e1,t.mono e,nd⟩
theorem RS.setSh{i:Nat}{d:D}{v:V}(h:RS K H0 B0 H σ δ R)(r:Rep K H (fun a=>B0 a∨∃r,a∈R r) d v):RS K H0 B0 H (σ.set i (some v)) (δ.set i (some (.sh d))) R:=by
 have gs:∀{α:Type} {l:List (Option α)} {i j:Nat} {x:Option α} {y:α},(l.set i x)[j]? = some (some y)->(j=i∧x=some y)∨(j≠i∧l[j]? = some (some y)):=fun {α l i j x y} e=>by
  by_cases hj:j=i
  ·subst hj
   rw[cj]at e
   simp only[if_true]at e
   split at e
   ·exact .inl ⟨rfl,Option.some.inj e⟩
   ·cases e
  ·rw[bv (Ne.symm hj)]at e
   exact .inr ⟨hj,e⟩
 have up:∀{j:Nat} {w:V},j≠i->σ[j]? = some (some w)->(σ.set i (some v))[j]? = some (some w):=fun hj e=>by rw[bv (Ne.symm hj)];exact e
 refine⟨h.keep,h.inB,by simp[h.len],h.new,h.held,h.disj,fun j d' z=>?_,fun j r' d' z=>?_,fun j d' z=>?_⟩
 ·rcases gs z with⟨rfl,q⟩ | ⟨hj,q⟩
  ·cases q
   have hl:j<σ.length:=by
    rw[←h.len]
    by_cases hl:j<δ.length
    ·exact hl
    ·rw[br (by simp;omega)]at z;cases z
   exact⟨v,by rw[cj];simp[hl],r⟩
  ·obtain⟨w,e1,r⟩:=h.sh j d' q
   exact⟨w,up hj e1,r⟩
 ·rcases gs z with⟨rfl,q⟩ | ⟨hj,q⟩
  ·cases q
  ·obtain⟨w,e1,r⟩:=h.bo j r' d' q
   exact⟨w,up hj e1,r⟩
 ·rcases gs z with⟨rfl,q⟩ | ⟨hj,q⟩
  ·cases q
  ·obtain⟨w,e1,t⟩:=h.ow j d' q
   exact⟨w,up hj e1,t⟩
def y3A(R:Nat->List Addr)(i:Nat)(A:List Addr):Nat->List Addr:=fun r=>if r=i then A else R r
theorem z0X{i:Nat}{A:List Addr}:y3A R i A i=A:=if_pos rfl
theorem z1I{i r:Nat}{A:List Addr}(h:r≠i):y3A R i A r=R r:=if_neg h
theorem z2C{α:Type}{l:List (Option α)}{i j:Nat}{x:Option α}{y:α}(e:(l.set i x)[j]? = some (some y)):(j=i∧x=some y∧i<l.length)∨(j≠i∧l[j]? = some (some y)):=by
 by_cases hj:j=i
 ·subst hj
  rw[cj]at e
  simp only[if_true]at e
  split at e
  ·rename_i hl
   exact .inl ⟨rfl,Option.some.inj e,hl⟩
  ·cases e
 ·rw[bv (Ne.symm hj)]at e
  exact .inr ⟨hj,e⟩
theorem RS.setOw{Hold:Hp}{i:Nat}{d:D}{v:V}{A:List Addr}(h:RS K H0 B0 Hold σ δ R)(e:Same Hold H)(t:Tree K H d v A)(nd:A.Nodup)(fr:∀a∈A,Hold a=none):RS K H0 B0 H (σ.set i (some v)) (δ.set i (some (.ow d))) (y3A R i A):=by
 have hm:=h.mono e
 have up:∀{j:Nat} {w:V},j≠i->σ[j]? = some (some w)->(σ.set i (some v))[j]? = some (some w):=fun hj e=>by rw[bv (Ne.symm hj)];exact e
 have hA:∀r a,a∈R r->a∉A:=fun r a z z'=>by
  obtain⟨o,q,_⟩:=h.held r a z
  rw[fr a z']at q;cases q
 have mem:∀r a,a∈y3A R i A r->(r=i∧a∈A)∨(r≠i∧a∈R r):=fun r a z=>by
  by_cases hr:r=i
  ·subst hr;rw[z0X]at z;exact .inl ⟨rfl,z⟩
  ·rw[z1I hr]at z;exact .inr ⟨hr,z⟩
 refine⟨hm.keep,h.inB,by simp[h.len],fun r a z=>?_,fun r a z=>?_,fun r s a z z'=>?_,fun j d' z=>?_,fun j r' d' z=>?_,fun j d' z=>?_⟩
 ·rcases mem r a z with⟨_,z⟩ | ⟨_,z⟩
  ·exact h.keep.free (fr a z)
  ·exact h.new r a z
 ·rcases mem r a z with⟨_,z⟩ | ⟨_,z⟩
  ·exact t.held d a z
  ·exact hm.held r a z
 ·rcases mem r a z with⟨h1,z⟩ | ⟨h1,z⟩ <;> rcases mem s a z' with⟨h2,z'⟩ | ⟨h2,z'⟩
  ·rw[h1,h2]
  ·exact absurd z (hA s a z')
  ·exact absurd z' (hA r a z)
  ·exact h.disj r s a z z'
 ·rcases z2C z with⟨rfl,q,_⟩ | ⟨hj,q⟩
  ·cases q
  ·obtain⟨w,e1,r⟩:=h.sh j d' q
   refine⟨w,up hj e1,Rep.anti ?_ d' ((Rep.wide (C:=fun a=>a∈A) fr d' r).mono e)⟩
   rintro a (z | ⟨r,z⟩)
   ·exact .inl (.inl z)
   ·rcases mem r a z with⟨_,z⟩ | ⟨_,z⟩
    ·exact .inr z
    ·exact .inl (.inr ⟨r,z⟩)
 ·rcases z2C z with⟨rfl,q,_⟩ | ⟨hj,q⟩
  ·cases q
  ·obtain⟨w,e1,r⟩:=h.bo j r' d' q
   refine⟨w,up hj e1,Rep.anti ?_ d' ((Rep.wide (C:=fun a=>a∈A) fr d' r).mono e)⟩
   rintro a (z | ⟨s,hs,z⟩)
   ·exact .inl (.inl z)
   ·rcases mem s a z with⟨_,z⟩ | ⟨_,z⟩
    ·exact .inr z
    ·exact .inl (.inr ⟨s,hs,z⟩)
 ·rcases z2C z with⟨rfl,q,hl⟩ | ⟨hj,q⟩
  ·cases q
   rw[z0X]
   exact⟨v,by rw[cj];simp[←h.len,hl],t,nd⟩
  ·obtain⟨w,e1,t'⟩:=hm.ow j d' q
   rw[z1I hj]
   exact⟨w,up hj e1,t'⟩
def x2l(i:Nat)(δ:SS):SS:=match δ[i]? with
 |some (some (.ow d))=>δ.set i (some (.sh d))
 |_=>δ
theorem RS.frz(i:Nat)(h:RS K H0 B0 H σ δ R):∃R',RS K H0 B0 H σ (x2l i δ) R'∧∀r a,a∈R' r->a∈R r:=by
 unfold x2l
 split
 ·rename_i d e
  obtain⟨v,e1,t,nd⟩:=h.ow i d e
  refine⟨y3A R i [],?_,fun r a z=>?_⟩
  ·have mem:∀r a,a∈y3A R i [] r->r≠i∧a∈R r:=fun r a z=>by
    by_cases hr:r=i
    ·subst hr;rw[z0X]at z;cases z
    ·rw[z1I hr]at z;exact⟨hr,z⟩
   refine⟨h.keep,h.inB,by simp[h.len],fun r a z=>h.new r a (mem r a z).2,fun r a z=>h.held r a (mem r a z).2,fun r s a z z'=>h.disj r s a (mem r a z).2 (mem s a z').2,fun j d' z=>?_,fun j r' d' z=>?_,fun j d' z=>?_⟩
   ·rcases z2C z with⟨rfl,q,hl⟩ | ⟨hj,q⟩
    ·cases q
     refine⟨v,e1,t.rep d fun a ha=>?_⟩
     rintro (z | ⟨r,z⟩)
     ·obtain⟨o,q⟩:=h.inB a z
      rw[h.new j a ha]at q;cases q
     ·exact(mem r a z).1 (h.disj r j a (mem r a z).2 ha)
    ·obtain⟨w,e2,r⟩:=h.sh j d' q
     exact⟨w,e2,r.anti fun a z=>z.imp id fun⟨r,z⟩=>⟨r,(mem r a z).2⟩⟩
   ·rcases z2C z with⟨rfl,q,_⟩ | ⟨hj,q⟩
    ·cases q
    ·obtain⟨w,e2,r⟩:=h.bo j r' d' q
     exact⟨w,e2,r.anti fun a z=>z.imp id fun⟨s,hs,z⟩=>⟨s,hs,(mem s a z).2⟩⟩
   ·rcases z2C z with⟨rfl,q,_⟩ | ⟨hj,q⟩
    ·cases q
    ·rw[z1I hj]
     exact h.ow j d' q
  ·by_cases hr:r=i
   ·subst hr;rw[z0X]at z;cases z
   ·rw[z1I hr]at z;exact z
 ·exact⟨R,h,fun _ _ z=>z⟩
end
inductive Out where
 |nx (δ:SS) | bk (δ:SS) | ct (δ:SS) | rt (d:D) | rb (d:D) (δ:SS) | ex (c:Nat) (δ:SS)
abbrev XR:=Nat->St->Hp->Prop
abbrev noX:XR:=fun _ _ _=>False
def Ret(K:aa)(H0:Hp)(B0:Addr->Prop)(fr:Bool)(H:Hp)(d:D)(v:V):Prop:=
 Same H0 H∧(fr=true->∃A,Tree K H d v A∧A.Nodup∧∀a∈A,H0 a=none)∧(fr=false->Rep K H B0 d v)
def Aft(K:aa)(H0:Hp)(B0:Addr->Prop)(fr:Bool)(RX:XR)(R:Nat->List Addr)(H:Hp)(D:Ends):Out->Prop
 |.nx δ'=>∀σ' H' R',RS K H0 B0 H' σ' δ' R'->Stp R H R' H'->D.nx σ' H'
 |.bk δ'=>∀σ' H' R',RS K H0 B0 H' σ' δ' R'->Stp R H R' H'->D.bk σ' H'
 |.ct δ'=>∀σ' H' R',RS K H0 B0 H' σ' δ' R'->Stp R H R' H'->D.ct σ' H'
 |.rt d=>∀v H',Ret K H0 B0 fr H' d v->(∀a,H' a=none->H a=none)->D.rt v H'
 |.rb d δ'=>∀v σ' H' R' A2,RS K H0 B0 H' σ' δ' R'->Stp R H R' H'->Tree K H' d v A2->A2.Nodup->(∀a∈A2,H0 a=none∧∀r,a∉R' r)->D.rt v H'
 |.ex c δ'=>∀σ' H' R',RS K H0 B0 H' σ' δ' R'->Stp R H R' H'->RX c σ' H'
def tS(K:aa)(H0:Hp)(B0:Addr->Prop)(fr:Bool)(RX:XR)(g:SS->Option Out):TS:=fun D σ H=>∃δ R o,RS K H0 B0 H σ δ R∧g δ=some o∧Aft K H0 B0 fr RX R H D o
theorem Aft.back{K:aa}{H0:Hp}{B0:Addr->Prop}{fr:Bool}{RX:XR}{R R1:Nat->List Addr}{H H1:Hp}{D:Ends}{o:Out}(h:Aft K H0 B0 fr RX R H D o)(s:Stp R H R1 H1):Aft K H0 B0 fr RX R1 H1 D o:=by
 cases o with
 |nx δ'=>exact fun σ' H' R' r t=>h σ' H' R' r (s.trans t)
 |bk δ'=>exact fun σ' H' R' r t=>h σ' H' R' r (s.trans t)
 |ct δ'=>exact fun σ' H' R' r t=>h σ' H' R' r (s.trans t)
 |rt d=>exact fun v H' r t=>h v H' r fun a z=>s.there a (t a z)
 |rb d δ'=>exact fun v σ' H' R' A2 r t=>h v σ' H' R' A2 r (s.trans t)
 |ex c δ'=>exact fun σ' H' R' r t=>h σ' H' R' r (s.trans t)
theorem PS.imp{X:Cx}{st:Stmt}{t t':TS}(h:PS X st t)(w:∀D σ H,t' D σ H->t D σ H):PS X st t':=fun pins s σ H D I q=>h pins s σ H D I (w D σ H q)
theorem PSs.imp{X:Cx}{st:List Stmt}{t t':TS}(h:PSs X st t)(w:∀D σ H,t' D σ H->t D σ H):PSs X st t':=fun pins s σ H D I q=>h pins s σ H D I (w D σ H q)
section
variable{X:Cx}{H0:Hp}{B0:Addr->Prop}{fr:Bool}{RX:XR}{st:Stmt}{sts:List Stmt}{e:Expr}{pos:Pos}
def z0G(g h:SS->Option Out):SS->Option Out:=fun δ=>(g δ).bind fun o=>match o with
 |.nx δ'=>h δ'
 |o=>some o
def z0P:SS->Option Out:=fun δ=>some (.nx δ)
theorem z0C:PSs X [] (tS X.K H0 B0 fr RX z0P):=pss_nil.imp fun D σ H ⟨δ,R,o,rs,q,k⟩=>by
 cases q
 exact k σ H R rs (.refl R H)
theorem z0f{g h:SS->Option Out}(h1:PS X st (tS X.K H0 B0 fr RX g))(h2:PSs X sts (tS X.K H0 B0 fr RX h)):PSs X (st::sts) (tS X.K H0 B0 fr RX (z0G g h)):=(x2W h1 h2).imp fun D σ H ⟨δ,R,o,rs,q,k⟩=>by
 unfold z0G at q
 cases e:g δ with
 |none=>rw[e]at q;cases q
 |some o1=>
  rw[e]at q
  refine⟨δ,R,o1,rs,e,?_⟩
  cases o1 with
  |nx δ'=>
   have q':h δ'=some o:=q
   exact fun σ' H' R' rs' s'=>⟨δ',R',o,rs',q',k.back s'⟩
  |bk δ'=>cases q;exact k
  |ct δ'=>cases q;exact k
  |rt d=>cases q;exact k
  |rb d δ'=>cases q;exact k
  |ex c δ'=>cases q;exact k
theorem z0h{g:SS->Option Out}(h1:PS X st (tS X.K H0 B0 fr RX g)):PSs X [st] (tS X.K H0 B0 fr RX g):=pss_one h1
abbrev PAsg(X:Cx)(st:Stmt)(i:Nat)(te:TE):Prop:=PS X st (tAsg te (z2W i))
theorem PAsg.imp{i:Nat}{t t':TE}(h:PAsg X st i t)(w:∀σ H Q,t' σ H Q->t σ H Q):PAsg X st i t':=PS.imp h fun D σ H q=>w σ H _ q
theorem z0H{i:Nat}{x:Str}{te:TE}{pos':Pos}(hN:X.N.Nodup)(hi:X.N[i]? = some x)(hx:Loc X.env.scope x)(he:PE X e te)(hs:swapsWith e (some (.Name x pos')) pos.line X.env=pure false:=by rfl)(hf:X.fn x=true∨X.env.scope.names.lookup x=some .local:=by first | exact .inl rfl | exact .inr rfl | assumption):
  PAsg X (.Assign [.Name x pos'] e pos) i te:=ps_set hN hi hx he hs hf
def z6B(i:Nat)(f:DE):SS->Option Out:=fun δ=>(f (shV δ)).map fun d=>.nx (δ.set i (some (.sh d)))
def z9H(i:Nat)(f:DE):SS->Option Out:=fun δ=>(f (z0D δ)).bind fun d=>if d.imm=true then some (.nx (δ.set i (some (.sh d))))else none
def z7I(i:Nat)(f:DE):SS->Option Out:=fun δ=>(f (z0D δ)).map fun d=>.nx (δ.set i (some (.ow d)))
theorem z1j{i:Nat}{f:DE}(h:PAsg X st i (tD X.K f)):PS X st (tS X.K H0 B0 fr RX (z6B i f)):=PS.imp h fun D σ H ⟨δ,R,o,rs,q,k⟩=>by
 unfold z6B at q
 cases e:f (shV δ)with
 |none=>rw[e]at q;cases q
 |some d=>
  rw[e]at q
  cases q
  exact⟨_,shV δ,d,rs.inAll,rs.shr,e,fun v H' s r=>k _ H' R ((rs.mono s).setSh r) (.same s)⟩
theorem z2m{i:Nat}{f:DE}(h:PAsg X st i (tD X.K f)):PS X st (tS X.K H0 B0 fr RX (z9H i f)):=PS.imp h fun D σ H ⟨δ,R,o,rs,q,k⟩=>by
 unfold z9H at q
 cases e:f (z0D δ)with
 |none=>rw[e]at q;cases q
 |some d=>
  rw[e]at q
  have q':(if d.imm=true then some (Out.nx (δ.set i (some (.sh d))))else none)=some o:=q
  split at q'
  ·rename_i hi
   cases q'
   exact⟨noB,z0D δ,d,.no,rs.all,e,fun v H' s r=>k _ H' R ((rs.mono s).setSh (r.imm d hi)) (.same s)⟩
  ·cases q'
theorem z1C{i:Nat}{f:DE}(h:PAsg X st i (tN X.K f)):PS X st (tS X.K H0 B0 fr RX (z7I i f)):=PS.imp h fun D σ H ⟨δ,R,o,rs,q,k⟩=>by
 unfold z7I at q
 cases e:f (z0D δ)with
 |none=>rw[e]at q;cases q
 |some d=>
  rw[e]at q
  cases q
  refine⟨z0D δ,d,rs.all,e,fun v H' A s t nd fr'=>k _ H' (y3A R i A) (rs.setOw s t nd fr') ⟨fun a o h _=>s a o h,fun r a z=>?_,fun a z=>s.free z⟩⟩
  by_cases hr:r=i
  ·subst hr;rw[z0X]at z;exact .inr (fr' a z)
  ·rw[z1I hr]at z;exact .inl ⟨r,z⟩
def z3z(f:DE):SS->Option Out:=fun δ=>(f (z0D δ)).bind fun d=>if d.imm=true then some (.rt d)else none
def z6d(f:DE):SS->Option Out:=fun δ=>(f (z0D δ)).map .rt
def z9n(f:DE):SS->Option Out:=fun δ=>(f (shV δ)).map .rt
def y8p(i:Nat):SS->Option Out:=fun δ=>match δ[i]? with
 |some (some (.ow d))=>some (.rt d)
 |_=>none
theorem z0L{f:DE}(h:PD X e f):PS X (.Return (some e) pos) (tS X.K H0 B0 fr RX (z3z f)):=PS.imp (y1J h) fun D σ H ⟨δ,R,o,rs,q,k⟩=>by
 unfold z3z at q
 cases e:f (z0D δ)with
 |none=>rw[e]at q;cases q
 |some d=>
  rw[e]at q
  have q':(if d.imm=true then some (Out.rt d)else none)=some o:=q
  split at q'
  ·rename_i hi
   cases q'
   exact⟨noB,z0D δ,d,.no,rs.all,e,fun v H' s r=>k v H' ⟨rs.keep.trans s,fun _=>⟨[],r.immTree d hi,bh,(fun a z=>nomatch z)⟩,fun _=>r.imm d hi⟩ fun a z=>s.free z⟩
  ·cases q'
theorem z1h{f:DE}(h:PN X e f):PS X (.Return (some e) pos) (tS X.K H0 B0 fr RX (z6d f)):=PS.imp (y1J h) fun D σ H ⟨δ,R,o,rs,q,k⟩=>by
 unfold z6d at q
 cases e:f (z0D δ)with
 |none=>rw[e]at q;cases q
 |some d=>
  rw[e]at q
  cases q
  exact⟨z0D δ,d,rs.all,e,fun v H' A s t nd fr'=>k v H' ⟨rs.keep.trans s,fun _=>⟨A,t,nd,fun a z=>rs.keep.free (fr' a z)⟩,fun _=>t.rep d fun a z=>rs.inB.fresh (rs.keep.free (fr' a z))⟩ fun a z=>s.free z⟩
theorem z2e{f:DE}(h:PD X e f):PS X (.Return (some e) pos) (tS X.K H0 B0 false RX (z9n f)):=PS.imp (y1J h) fun D σ H ⟨δ,R,o,rs,q,k⟩=>by
 unfold z9n at q
 cases e:f (shV δ)with
 |none=>rw[e]at q;cases q
 |some d=>
  rw[e]at q
  cases q
  exact⟨_,shV δ,d,rs.inAll,rs.shr,e,fun v H' s r=>k v H' ⟨rs.keep.trans s,(fun z=>nomatch z),fun _=>r.anti fun a z=>.inl z⟩ fun a z=>s.free z⟩
theorem z7y{i:Nat}(h:PE X e (y7r i)):PS X (.Return (some e) pos) (tS X.K H0 B0 fr RX (y8p i)):=PS.imp (y1J h) fun D σ H ⟨δ,R,o,rs,q,k⟩=>by
 unfold y8p at q
 split at q
 ·rename_i d e
  cases q
  obtain⟨v,e1,t,nd⟩:=rs.ow i d e
  exact⟨v,e1,k v H ⟨rs.keep,fun _=>⟨R i,t,nd,fun a z=>rs.new i a z⟩,fun _=>t.rep d fun a z=>rs.inB.fresh (rs.new i a z)⟩ fun a z=>z⟩
 ·cases q
def ifO(c:DS->Option Bool)(g h:SS->Option Out):SS->Option Out:=fun δ=>(c (z0D δ)).bind fun b=>if b=true then g δ else h δ
theorem z3n{c:Expr}{a b:List Stmt}{f:DS->Option Bool}{g h:SS->Option Out}(hc:PTD X c f)(ha:PSs X a (tS X.K H0 B0 fr RX g))(hb:PSs X b (tS X.K H0 B0 fr RX h)):PS X (.If c a b pos) (tS X.K H0 B0 fr RX (ifO f g h)):=PS.imp (ps_if hc ha hb) fun D σ H ⟨δ,R,o,rs,q,k⟩=>by
 unfold ifO at q
 cases e:f (z0D δ)with
 |none=>rw[e]at q;cases q
 |some b=>
  rw[e]at q
  have q':(if b=true then g δ else h δ)=some o:=q
  refine⟨noB,z0D δ,b,.no,rs.all,e,fun H' s=>?_⟩
  cases b with
  |true=>
   rw[if_pos rfl]at q'
   refine iteT ?_
   exact⟨δ,R,o,rs.mono s,q',k.back (.same s)⟩
  |false=>
   rw[if_neg aj]at q'
   refine iteF ?_
   exact⟨δ,R,o,rs.mono s,q',k.back (.same s)⟩
def frzO(i:Nat)(g:SS->Option Out):SS->Option Out:=fun δ=>g (x2l i δ)
theorem s_frz(i:Nat){g:SS->Option Out}(h:PS X st (tS X.K H0 B0 fr RX g)):PS X st (tS X.K H0 B0 fr RX (frzO i g)):=PS.imp h fun D σ H ⟨δ,R,o,rs,q,k⟩=>by
 obtain⟨R',rs',hs⟩:=rs.frz i
 exact⟨x2l i δ,R',o,rs',q,k.back ⟨fun a o h _=>h,fun r a z=>.inl ⟨r,hs r a z⟩,fun a z=>z⟩⟩
def z9D(i:Nat)(b:SS->Option Out):List D->SS->Option Out
 |[],δ=>some (.nx δ)
 |x::r,δ=>(b (δ.set i (some (.sh x)))).bind fun o=>match o with
  |.nx δ'=>z9D i b r δ'
  |.ct δ'=>z9D i b r δ'
  |.bk δ'=>some (.nx δ')
  |.rt d=>some (.rt d)
  |.rb d δ'=>some (.rb d δ')
  |.ex c δ'=>some (.ex c δ')
def z6C(i:Nat)(f:DS->Option (List D))(b:SS->Option Out):SS->Option Out:=fun δ=>(f (shV δ)).bind fun ds=>z9D i b ds δ
theorem Stp.keepB{K:aa}{R R':Nat->List Addr}{H H':Hp}{B:Addr->Prop}(s:Stp R H R' H')(hR:∀r a,a∈R r->B a)(hm:∀r a,a∈R r->∃o,H a=some o∧Mut (some o)):Keep K B H H':=by
 have kp:∀a o,H a=some o->¬ Mut (some o)->H' a=some o:=fun a o e n=>s.keep a o e fun r z=>by
  obtain⟨o',e',m⟩:=hm r a z
  rw[e]at e';cases e'
  exact n m
 refine⟨fun a xs n h=>s.keep a _ h fun r z=>n (hR r a z),fun a xs h=>?_,fun a xs h=>?_,fun a kvs n h=>s.keep a _ h fun r z=>n (hR r a z),fun a φ n h=>s.keep a _ h fun r z=>n (hR r a z),fun a _ _ _ n h=>s.keep a _ h fun r z=>n (hR r a z)⟩
 ·rcases h with (h | ⟨o,h⟩) | h
  ·exact .inl (.inl (kp a _ h fun z=>z))
  ·exact .inl (.inr ⟨o,kp a _ h fun z=>z⟩)
  ·exact .inr h
 ·rcases h with⟨o,h⟩ | h
  ·exact .inl ⟨o,kp a _ h fun z=>z⟩
  ·exact .inr h
theorem z2s{i:Nat}{x:Str}{px:Pos}{iter:Expr}{body:List Stmt}{f:DS->Option (List D)}{g:SS->Option Out}(hp:PassesOwn (model X.prog X.w) X.A X.env X.xe)(hc:X.calm=true)(hi:PID X (.Name x px) iter f)(hg:PG X (.Name x px) (z2W i))(hb:PSs X body (tS X.K H0 B0 fr RX g))
  (hs:∀x,foldedSetIterable iter X.env x=pure x:=by intro _;rfl):PS X (.For (.Name x px) iter body [] pos) (tS X.K H0 B0 fr RX (z6C i f g)):=PS.imp (x4Y hp hc hi hg hb hs) fun D σ H ⟨δ,R,o,rs,q,k⟩=>by
 unfold z6C at q
 cases e:f (shV δ)with
 |none=>rw[e]at q;cases q
 |some ds=>
 rw[e]at q
 have q:z9D i g ds δ=some o:=q
 refine⟨_,shV δ,ds,rs.inAll,rs.shr,e,fun J H1 s1 itw=>?_⟩
 have rs1:=rs.mono s1
 have it:=itw (fun a=>H1 a=none) fun a z=>z
 refine⟨fun n m σ' H'=>m=ds.length - n∧n≤ds.length∧∃δ' R',RS X.K H0 B0 H' σ' δ' R'∧Stp R H1 R' H'∧z9D i g (ds.drop n) δ'=some o,⟨ds.length,by simp,bg _,δ,R,rs1,.refl R H1,q⟩,?_⟩
 rintro n m σ' H' ⟨rfl,hn,δ',R',rs',s',q'⟩
 have kp:Keep X.K (fun a=>(B0 a∨∃r,a∈R r)∨H1 a=none) H1 H':=s'.keepB (fun r a z=>.inl (.inr ⟨r,z⟩)) rs1.held
 by_cases hlt:n<ds.length
 ·have hx:ds.drop n=ds[n]::ds.drop (n+1):=bn hlt
  rw[hx]at q'
  unfold z9D at q'
  cases eb:g (δ'.set i (some (.sh ds[n])))with
  |none=>rw[eb]at q';cases q'
  |some ob=>
   rw[eb]at q'
   refine .inr ⟨it.go n H' kp hlt,fun σ2 H2=>n+1≤ds.length∧∃δ2 R2,RS X.K H0 B0 H2 σ2 δ2 R2∧Stp R H1 R2 H2∧z9D i g (ds.drop (n+1)) δ2=some o,fun σ2 H2 z=>⟨ds.length - (n+1),by omega,rfl,z⟩,fun xv H2 hy=>?_⟩
   obtain⟨s2,d,hd,rd⟩:=it.yld n H' xv H2 kp hy
   have hdi:d=ds[n]:=by
    have:=hd hlt
    rw[ax hlt]at this
    exact(Option.some.inj this).symm
   subst hdi
   have rd':Rep X.K H2 (fun a=>B0 a∨∃r,a∈R' r) ds[n] xv:=rd.anti fun a z=>by
    rcases z with z | ⟨r,z⟩
    ·exact .inl (.inl z)
    ·rcases s'.from' r a z with z | z
     ·exact .inl (.inr z)
     ·exact .inr z
   have rs2:=(rs'.mono s2).setSh (i:=i) rd'
   have st2:Stp R H1 R' H2:=s'.trans (.same s2)
   refine⟨_,R',ob,rs2,eb,?_⟩
   cases ob with
   |nx δ2=>
    have q2:z9D i g (ds.drop (n+1)) δ2=some o:=q'
    exact fun σ3 H3 R3 rs3 s3=>⟨hlt,δ2,R3,rs3,st2.trans s3,q2⟩
   |ct δ2=>
    have q2:z9D i g (ds.drop (n+1)) δ2=some o:=q'
    exact fun σ3 H3 R3 rs3 s3=>⟨hlt,δ2,R3,rs3,st2.trans s3,q2⟩
   |bk δ2=>
    cases q'
    exact fun σ3 H3 R3 rs3 s3=>k σ3 H3 R3 rs3 ((Stp.same s1).trans (st2.trans s3))
   |rt d=>
    cases q'
    exact k.back ((Stp.same s1).trans st2)
   |rb d δ2=>
    cases q'
    exact k.back ((Stp.same s1).trans st2)
   |ex c δ2=>
    cases q'
    exact k.back ((Stp.same s1).trans st2)
 ·have en:n=ds.length:=by omega
  subst en
  rw[cB]at q'
  cases q'
  exact .inl ⟨it.stop _ H' kp (ao _),k σ' H' R' rs' ((Stp.same s1).trans s')⟩
end
def z1A(np nl:Nat)(g:SS->Option Out):List D->Option D:=fun ds=>if ds.length=np then(match g (ds.map (fun d=>some (.sh d))++aD nl none)with
 |some (.rt d)=>some d
 |some (.nx _)=>some .non
 |_=>none)else none
theorem z7V{np nl:Nat}{g:SS->Option Out}{ds:List D}{d:D}(h:z1A np nl g ds=some d):ds.length=np:=by
 unfold z1A at h
 split at h
 ·assumption
 ·cases h
theorem z7O{K:aa}{H:Hp}{B:Addr->Prop}{ds:List D}{vs:List V}{N:List Str}{nl:Nat}(hB:InB B H)(r:Reps K H B ds vs)(hN:N.length=ds.length+nl):
  RS K H B H (z5d N vs) (ds.map (fun d=>some (.sh d))++aD nl none) (fun _=>[]):=by
 have hl:=r.length
 have get:∀{i:Nat} {x:SD},(ds.map (fun d=>some (SD.sh d))++aD nl none)[i]? = some (some x)->∃d,ds[i]? = some d∧x = .sh d:=fun {i x} e=>by
  by_cases hi:i<ds.length
  ·rw[bd (by simpa using hi),aJ,ax hi]at e
   cases e
   exact⟨ds[i],ax hi,rfl⟩
  ·rw[bi (by simpa using hi),ce]at e
   split at e <;> cases e
 refine⟨.refl H,hB,?_,(fun _ _ z=>nomatch z),(fun _ _ z=>nomatch z),(fun _ _ _ z=>nomatch z),fun i d e=>?_,fun i r d e=>?_,fun i d e=>?_⟩
 ·unfold z5d
  simp
  omega
 ·obtain⟨d',e1,e2⟩:=get e
  cases e2
  obtain⟨v,e3,rv⟩:=r.get e1
  refine⟨v,?_,rv.anti fun a z=>z.elim id (fun⟨_,z⟩=>nomatch z)⟩
  unfold z5d
  have hi:i<vs.length:=(aU.mp e3).1
  rw[bd (by simpa using hi),aJ,e3]
  rfl
 ·obtain⟨d',_,e2⟩:=get e
  cases e2
 ·obtain⟨d',_,e2⟩:=get e
  cases e2
section
variable{P:dw}{w:fm}{K:aa}{mg:Str->Option Value}{base:Heap}
theorem fnN{x qual:Str}{st:Stmt}{f:Addr}{fd:fq}{N ps:List Str}{k np nl:Nat}{g:SS->Option Out}(F:Fun K x qual st f fd)(S:FnScope N ps (z0e st))(hnp:ps.length=np)(hN:N.length=np+nl)
  (hbody:∀(cdv:Value) (A:Around) (outer:List Env) (s:Shared) (H:Hp) (E:XK),Room k (A.deeper (envOfC qual (z0e st) s.heap.objs.size f cdv)) →
   PSs (y0M CX0 P w K mg base N qual (z0e st) f cdv A outer s H E).nox (z1f st) (tS K H noB true noX g)):FnOk P w K mg base CX0 (k+1) f fd ps (spN K (z1A np nl g)):=by
 refine F.ok S (fun vs H Q E h=>?_) fun cdv A outer s H vs Q E hr h=>?_
 ·obtain⟨ds,d,r,e,_⟩:=h
  rw[←r.length,z7V e,hnp]
 ·obtain⟨ds,d,r,e,kk⟩:=h
  refine⟨_,hbody cdv A outer s H E hr,?_⟩
  have hl:=z7V e
  unfold z1A at e
  rw[if_pos hl]at e
  have rs:=z7O (nl:=nl) .no r (N:=N) (by omega)
  split at e
  ·rename_i d' eg
   cases e
   exact⟨_,_,_,rs,eg,fun v H' z _=>by
    obtain⟨A',t,nd,fr⟩:=z.2.1 rfl
    exact kk v H' A' z.1 t nd fr⟩
  ·rename_i δ' eg
   cases e
   exact⟨_,_,_,rs,eg,fun σ' H' R' rs' _=>kk .non H' [] rs'.keep ⟨rfl,rfl⟩ bh (fun a z=>nomatch z)⟩
  ·cases e
theorem z2J{x qual:Str}{st:Stmt}{f:Addr}{fd:fq}{N ps:List Str}{k np nl:Nat}{g:SS->Option Out}(F:Fun K x qual st f fd)(hm:mg x=some (.ref f))(hb:Binds K fd ps [])(S:FnScope N ps (z0e st))(hnp:ps.length=np)(hN:N.length=np+nl)
  (hbody:∀(cdv:Value) (A:Around) (outer:List Env) (s:Shared) (H:Hp) (E:XK),Room k (A.deeper (envOfC qual (z0e st) s.heap.objs.size f cdv)) →
   PSs (y0M CX0 P w K mg base N qual (z0e st) f cdv A outer s H E).nox (z1f st) (tS K H noB true noX g)):DefOk P w K mg base (k+1) x (spN K (z1A np nl g)):=
 ⟨f,fd,ps,hm,F.kp,hb,fnN F S hnp hN hbody⟩
theorem x4F{x qual:Str}{st:Stmt}{f:Addr}{fd:fq}{N ps:List Str}{k np nl:Nat}{g:SS->Option Out}(F:Fun K x qual st f fd)(hm:mg x=some (.ref f))(hb:Binds K fd ps [])(S:FnScope N ps (z0e st))(hnp:ps.length=np)(hN:N.length=np+nl)
  (hbody:∀(cdv:Value) (A:Around) (outer:List Env) (s:Shared) (H:Hp) (E:XK) (B:Addr->Prop),Room k (A.deeper (envOfC qual (z0e st) s.heap.objs.size f cdv)) →
   PSs (y0M CX0 P w K mg base N qual (z0e st) f cdv A outer s H E).nox (z1f st) (tS K H B false noX g)):DefOk P w K mg base (k+1) x (spR K (z1A np nl g)):=by
 refine⟨f,fd,ps,hm,F.kp,hb,F.ok S (fun vs H Q E h=>?_) fun cdv A outer s H vs Q E hr h=>?_⟩
 ·obtain⟨B,ds,d,_,r,e,_⟩:=h
  rw[←r.length,z7V e,hnp]
 ·obtain⟨B,ds,d,hB,r,e,kk⟩:=h
  refine⟨_,hbody cdv A outer s H E B hr,?_⟩
  have hl:=z7V e
  unfold z1A at e
  rw[if_pos hl]at e
  have rs:=z7O (nl:=nl) hB r (N:=N) (by omega)
  split at e
  ·rename_i d' eg
   cases e
   exact⟨_,_,_,rs,eg,fun v H' z _=>kk v H' z.1 (z.2.2 rfl)⟩
  ·rename_i δ' eg
   cases e
   exact⟨_,_,_,rs,eg,fun σ' H' R' rs' _=>kk .non H' rs'.keep rfl⟩
  ·cases e
end
end L2
namespace L2
open PySem PySem.Spec PyProof.Rows PySem.SeqAt
mutual
def toP:D->PyData
 |.non=>.none
 |.bl b=>.bool b
 |.int i=>.int i
 |.str x=>.str x
 |.lst ds=>.list (z9V ds)
 |.tup ds=>.tuple (z9V ds)
 |.scr ns=>.list (ns.map .int)
 |.dct _ _=>.dict []
 |.exc _=>.dict []
 |.obj _ _ _ _=>.dict []
 |.cel _ _=>.dict []
def z9V:List D->List PyData
 |[]=>[]
 |d::ds=>toP d::z9V ds
end
theorem z9Z{h:Heap}:∀(ns:List Int) {us:List Value},Vals (ns.map V.int) us->∃as,ReadsAll h us (ns.map .int) as
 |[],_,.nil=>⟨_,.nil⟩
 |n::ns,_,.cons r t=>by
  obtain⟨tk,rfl⟩:=r
  obtain⟨as,ra⟩:=z9Z (h:=h) ns t
  exact⟨_,.cons (.int n tk) ra⟩
section
variable{X:Cx}{pins:List (Addr×Obj)}{σ:St}{H:Hp}{s:Shared}{B:Addr->Prop}
mutual
theorem z0Y(I:Inv X pins σ H s):∀(d:D) {v:V} {u:Value},(toP d).canLay0=true->Rep X.K H B d v->RelV v u->∃as,Reads s.heap u (toP d) as
 |.non,_,_,_,h,r=>by cases h;cases r;exact⟨_,.none⟩
 |.bl b,_,_,_,h,r=>by cases h;cases r;exact⟨_,.bool b⟩
 |.int i,_,_,_,h,r=>by cases h;obtain⟨t,rfl⟩:=r;exact⟨_,.int i t⟩
 |.str x,_,_,_,h,r=>by cases h;obtain⟨t,rfl⟩:=r;exact⟨_,.str x t⟩
 |.lst ds,_,_,hc,h,r=>by
  unfold Rep at h
  obtain⟨a,xs,rfl,_,hq,rs⟩:=h
  cases r
  obtain⟨its,rv,⟨o,n,e,c,_,dt⟩,_⟩:=I.list (SqL.of hq)
  have hc':PyData.canLayAll0 (z9V ds)=true:=by unfold toP PyData.canLay0 at hc;exact hc
  obtain⟨as,ra⟩:=z7q I ds hc' rs rv
  unfold toP
  exact⟨_,.list e c dt (by simpa using ra)⟩
 |.tup ds,_,_,hc,h,r=>by
  unfold Rep at h
  obtain⟨a,xs,rfl,hq,rs⟩:=h
  cases r
  obtain⟨its,rv,⟨o,e,c,n,dt⟩,_⟩:=I.tuple hq
  have hc':PyData.canLayAll0 (z9V ds)=true:=by unfold toP PyData.canLay0 at hc;exact hc
  obtain⟨as,ra⟩:=z7q I ds hc' rs rv
  unfold toP
  exact⟨_,.tuple e c dt (by simpa using ra)⟩
 |.scr ns,_,_,hc,h,r=>by
  unfold Rep at h
  obtain⟨a,rfl,hq⟩:=h
  cases r
  obtain⟨its,rv,⟨o,n,e,c,_,dt⟩,_⟩:=I.list hq.sq
  unfold toP
  obtain⟨as,ra⟩:=z9Z (h:=s.heap) ns rv
  exact⟨_,.list e c dt (by simpa using ra)⟩
 |.dct _ _,_,_,hc,_,_=>by unfold toP PyData.canLay0 at hc;cases hc
 |.exc _,_,_,hc,_,_=>by unfold toP PyData.canLay0 at hc;cases hc
 |.obj _ _ _ _,_,_,hc,_,_=>by unfold toP PyData.canLay0 at hc;cases hc
 |.cel _ _,_,_,hc,_,_=>by unfold toP PyData.canLay0 at hc;cases hc
theorem z7q(I:Inv X pins σ H s):∀(ds:List D) {xs:List V} {us:List Value},PyData.canLayAll0 (z9V ds)=true->Reps X.K H B ds xs->Vals xs us->∃as,ReadsAll s.heap us (z9V ds) as
 |[],_,_,_,h,r=>by
  unfold Reps at h
  subst h
  cases r
  exact⟨_,.nil⟩
 |d::ds,_,_,hc,h,r=>by
  unfold Reps at h
  obtain⟨x,rr,rfl,h1,h2⟩:=h
  unfold z9V PyData.canLayAll0 at hc
  rw[aM]at hc
  cases r with
  |cons r1 r2=>
   obtain⟨as,ra⟩:=z0Y I d hc.1 h1 r1
   obtain⟨bs,rb⟩:=z7q I ds hc.2 h2 r2
   unfold z9V
   exact⟨_,.cons ra rb⟩
end
end
def okP(d:D):Bool:=(toP d).canLay0&&decide ((toP d).depth≤60)
def eqD(x y:D):Option D:=if(okP x&&okP y)=true then some (.bl (PyData.eqv (toP x) (toP y)))else none
def neD(x y:D):Option D:=if(okP x&&okP y)=true then some (.bl (!PyData.eqv (toP x) (toP y)))else none
def y9H(x:D):D->Option Bool
 |.lst ds=>if(okP x&&okP (.lst ds))=true then some (ds.any fun y=>PyData.eqv (toP y) (toP x))else none
 |.tup ds=>if(okP x&&okP (.tup ds))=true then some (ds.any fun y=>PyData.eqv (toP y) (toP x))else none
 |_=>none
def inD(x y:D):Option D:=(y9H x y).map .bl
def y3B(x y:D):Option D:=(y9H x y).map fun b=>.bl (!b)
def rEqD(K:aa):R2:=fun x y H Q=>∃B dx dy,Rep K H B dx x∧Rep K H B dy y∧okP dx=true∧okP dy=true∧Q (.bl (PyData.eqv (toP dx) (toP dy))) H
def rNeD(K:aa):R2:=fun x y H Q=>∃B dx dy,Rep K H B dx x∧Rep K H B dy y∧okP dx=true∧okP dy=true∧Q (.bl (!PyData.eqv (toP dx) (toP dy))) H
theorem z0x{d:D}(h:okP d=true):(toP d).canLay0=true∧(toP d).depth≤60:=by
 unfold okP at h
 rw[aM,decide_eq_true_eq]at h
 exact h
section
variable{X:Cx}
theorem x4r(hu:X.A.units+64<cLine):OpR X (compareOp .Eq) (rEqD X.K):=by
 intro pins s σ H x y v u Q I rx ry h
 obtain⟨B,dx,dy,r1,r2,o1,o2,q⟩:=h
 obtain⟨as,ra⟩:=z0Y I dx (z0x o1).1 r1 rx
 obtain⟨bs,rb⟩:=z0Y I dy (z0x o2).1 r2 ry
 exact compareEq_reads ra rb (z0x o1).1 (z0x o2).1 (by have:=(z0x o1).2;omega) ⟨.bl _,H,I,rfl,q⟩
theorem x5i(hu:X.A.units+64<cLine):OpR X (compareOp .NotEq) (rNeD X.K):=by
 intro pins s σ H x y v u Q I rx ry h
 obtain⟨B,dx,dy,r1,r2,o1,o2,q⟩:=h
 obtain⟨as,ra⟩:=z0Y I dx (z0x o1).1 r1 rx
 obtain⟨bs,rb⟩:=z0Y I dy (z0x o2).1 r2 ry
 exact compareNe_reads ra rb (z0x o1).1 (z0x o2).1 (by have:=(z0x o1).2;omega) ⟨.bl _,H,I,rfl,q⟩
theorem o2_eq{K:aa}:Op2 K (rEqD K) eqD:=by
 intro H B dx dy d x y Q hB hx hy q k
 unfold eqD at q
 split at q
 ·rename_i h
  rw[aM]at h
  cases q
  exact⟨B,dx,dy,hx,hy,h.1,h.2,k _ H (.refl H) rfl⟩
 ·cases q
theorem o2_ne{K:aa}:Op2 K (rNeD K) neD:=by
 intro H B dx dy d x y Q hB hx hy q k
 unfold neD at q
 split at q
 ·rename_i h
  rw[aM]at h
  cases q
  exact⟨B,dx,dy,hx,hy,h.1,h.2,k _ H (.refl H) rfl⟩
 ·cases q
theorem z6k(p:PyData->Bool):∀ds:List D,(z9V ds).any p=ds.any fun y=>p (toP y)
 |[]=>rfl
 |d::ds=>by unfold z9V;rw[cT,cT,z6k p ds]
def rInD(K:aa)(neg:Bool):R2:=fun x y H Q=>∃B dx dy b,Rep K H B dx x∧Rep K H B dy y∧y9H dx dy=some b∧Q (.bl (if neg then !b else b)) H
theorem op_inD(hu:X.A.units+64<cLine):OpR X (compareOp .In) (rInD X.K false):=by
 intro pins s σ H x y v u Q I rx ry h
 obtain⟨B,dx,dy,b,r1,r2,o,q⟩:=h
 unfold y9H at o
 split at o
 ·split at o
  ·rename_i ds h
   rw[aM]at h
   cases o
   obtain⟨as,ra⟩:=z0Y I dx (z0x h.1).1 r1 rx
   obtain⟨bs,rb⟩:=z0Y I _ (z0x h.2).1 r2 ry
   have hc:=(z0x h.2).1
   unfold toP at rb hc
   unfold PyData.canLay0 at hc
   refine in_list_reads rb ra hc (z0x h.1).1 (by have:=(z0x h.1).2;omega) ?_
   rw[z6k]
   exact⟨.bl _,H,I,rfl,q⟩
  ·cases o
 ·split at o
  ·rename_i ds h
   rw[aM]at h
   cases o
   obtain⟨as,ra⟩:=z0Y I dx (z0x h.1).1 r1 rx
   obtain⟨bs,rb⟩:=z0Y I _ (z0x h.2).1 r2 ry
   have hc:=(z0x h.2).1
   unfold toP at rb hc
   unfold PyData.canLay0 at hc
   refine in_tuple_reads rb ra hc (z0x h.1).1 (by have:=(z0x h.1).2;omega) ?_
   rw[z6k]
   exact⟨.bl _,H,I,rfl,q⟩
  ·cases o
 ·cases o
theorem op_ninD(hu:X.A.units+64<cLine):OpR X (compareOp .NotIn) (rInD X.K true):=by
 intro pins s σ H x y v u Q I rx ry h
 obtain⟨B,dx,dy,b,r1,r2,o,q⟩:=h
 unfold y9H at o
 split at o
 ·split at o
  ·rename_i ds h
   rw[aM]at h
   cases o
   obtain⟨as,ra⟩:=z0Y I dx (z0x h.1).1 r1 rx
   obtain⟨bs,rb⟩:=z0Y I _ (z0x h.2).1 r2 ry
   have hc:=(z0x h.2).1
   unfold toP at rb hc
   unfold PyData.canLay0 at hc
   refine notIn_list_reads rb ra hc (z0x h.1).1 (by have:=(z0x h.1).2;omega) ?_
   rw[z6k]
   exact⟨.bl _,H,I,rfl,q⟩
  ·cases o
 ·split at o
  ·rename_i ds h
   rw[aM]at h
   cases o
   obtain⟨as,ra⟩:=z0Y I dx (z0x h.1).1 r1 rx
   obtain⟨bs,rb⟩:=z0Y I _ (z0x h.2).1 r2 ry
   have hc:=(z0x h.2).1
   unfold toP at rb hc
   unfold PyData.canLay0 at hc
   refine notIn_tuple_reads rb ra hc (z0x h.1).1 (by have:=(z0x h.1).2;omega) ?_
   rw[z6k]
   exact⟨.bl _,H,I,rfl,q⟩
  ·cases o
 ·cases o
theorem o2_in{K:aa}:Op2 K (rInD K false) inD:=by
 intro H B dx dy d x y Q hB hx hy q k
 unfold inD at q
 cases e:y9H dx dy with
 |none=>rw[e]at q;cases q
 |some b=>
  rw[e]at q
  cases q
  exact⟨B,dx,dy,b,hx,hy,e,k _ H (.refl H) rfl⟩
theorem o2_nin{K:aa}:Op2 K (rInD K true) y3B:=by
 intro H B dx dy d x y Q hB hx hy q k
 unfold y3B at q
 cases e:y9H dx dy with
 |none=>rw[e]at q;cases q
 |some b=>
  rw[e]at q
  cases q
  exact⟨B,dx,dy,b,hx,hy,e,k _ H (.refl H) rfl⟩
def OpA(K:aa)(r:List V->Hp->VK->Prop)(F:List D->Option D):Prop:=∀(H:Hp) (B:Addr->Prop) (ds:List D) (d:D) (vs:List V) (Q:VK),InB B H->Reps K H B ds vs->F ds=some d->(∀v H',Same H H'->Rep K H' B d v->Q v H')->r vs H Q
def OpL(K:aa)(r:List V->Hp->VK->Prop)(F:List D->Option (List D)):Prop:=∀(H:Hp) (B:Addr->Prop) (ds es:List D) (vs:List V) (Q:VK),InB B H->Reps K H B ds vs->F ds=some es →
 (∀a xs H',Same H H'->H a=none->H' a=some (.lst xs)->Reps K H' B es xs->Q (.ref a) H')->r vs H Q
def z2H(F:List D->Option (List D))(fl:List DE):DS->Option (List D):=fun δ=>(z0n fl δ).bind F
variable{x:Str}{bid T:String}{r:List V->Hp->VK->Prop}{e:Expr}{es:List Expr}{p pos:Pos}{fl:List DE}
theorem callA{F:List D->Option D}(ho:OpA X.K r F)(σ:St)(H:Hp)(Q:VK)(h:tD X.K (z0j F fl) σ H Q):tCB r (tDs X.K (z0n fl)) σ H Q:=by
 obtain⟨B,δ,d,hB,S,q,k⟩:=h
 obtain⟨ds,e1,e2⟩:=z7m q
 exact⟨B,δ,ds,hB,S,e1,fun vs H1 s1 r1=>ho H1 B ds d vs Q (hB.mono s1) r1 e2 fun v H' s' rv=>k v H' (s1.trans s') rv⟩
theorem callL{F:List D->Option (List D)}(ho:OpL X.K r F)(σ:St)(H:Hp)(Q:VK)(h:tF X.K (z2H F fl) σ H Q):tCB r (tDs X.K (z0n fl)) σ H Q:=by
 obtain⟨B,δ,d,hB,S,q,k⟩:=h
 unfold z2H at q
 cases e1:z0n fl δ with
 |none=>rw[e1]at q;cases q
 |some ds=>
  rw[e1]at q
  exact⟨B,δ,ds,hB,S,e1,fun vs H1 s1 r1=>ho H1 B ds d vs Q (hB.mono s1) r1 q fun a xs H' s' hn ha rv=>k a xs H' (s1.trans s') (s1.free hn) ha rv⟩
theorem z7R{F:List D->Option D}(hc:z6T X (.builtin bid) r)(hD:OpA X.K r F)(hg:Gl X x)(hm:X.mg x=none)(hv:fy x=some (.builtin bid))(ha:PAD X (e::es) fl)(hn:x ≠ "__name__" := by decide)(hdb:(x==("__debug__" : Str))=false:=by decide)
  (he:starEach (e::es) X.env=(false,eval e X.env)::starEach es X.env:=by rfl) (hpl:(fw pos (starEach es X.env)).any (·.1)=false:=by rfl):PD X (.Call (.Name x p) (e::es) [] pos) (z0j F fl):=
 (y0T hc hg hm hv ha hn hdb he hpl).imp (callA hD)
theorem x4c{F:List D->Option D}(hc:z6T X (.type T) r)(hD:OpA X.K r F)(hg:Gl X x)(hm:X.mg x=none)(hv:fy x=some (.type T))(ha:PAD X (e::es) fl)(hn:x ≠ "__name__" := by decide)(hdb:(x==("__debug__" : Str))=false:=by decide)
  (he:starEach (e::es) X.env=(false,eval e X.env)::starEach es X.env:=by rfl) (hpl:(fw pos (starEach es X.env)).any (·.1)=false:=by rfl):PD X (.Call (.Name x p) (e::es) [] pos) (z0j F fl):=
 (y2i hc hg hm hv ha hn hdb he hpl).imp (callA hD)
theorem x3v{F:List D->Option (List D)}(hc:z6T X (.type T) r)(hD:OpL X.K r F)(hg:Gl X x)(hm:X.mg x=none)(hv:fy x=some (.type T))(ha:PAD X (e::es) fl)(hn:x ≠ "__name__" := by decide)(hdb:(x==("__debug__" : Str))=false:=by decide)
  (he:starEach (e::es) X.env=(false,eval e X.env)::starEach es X.env:=by rfl) (hpl:(fw pos (starEach es X.env)).any (·.1)=false:=by rfl):PF X (.Call (.Name x p) (e::es) [] pos) (z2H F fl):=
 (y2i hc hg hm hv ha hn hdb he hpl).imp (callL hD)
theorem z6n{K:aa}{H:Hp}{B:Addr->Prop}{d:D}{vs:List V}(h:Reps K H B [d] vs):∃v,vs=[v]∧Rep K H B d v:=by
 unfold Reps at h
 obtain⟨x,r,rfl,h1,h2⟩:=h
 unfold Reps at h2
 subst h2
 exact⟨x,rfl,h1⟩
theorem reps2{K:aa}{H:Hp}{B:Addr->Prop}{d e:D}{vs:List V}(h:Reps K H B [d,e] vs):∃v u,vs=[v,u]∧Rep K H B d v∧Rep K H B e u:=by
 unfold Reps at h
 obtain⟨x,r,rfl,h1,h2⟩:=h
 obtain⟨u,rfl,h3⟩:=z6n h2
 exact⟨x,u,rfl,h1,h3⟩
def z3V:List D->Option D
 |[.lst ds]=>some (.int ds.length)
 |[.tup ds]=>some (.int ds.length)
 |[.scr ns]=>some (.int ns.length)
 |_=>none
theorem oa_len{K:aa}:OpA K (fun xs H Q=>∃x n,xs=[x]∧LenV K x H n∧Q (.int n) H) z3V:=by
 intro H B ds d vs Q hB hr q k
 unfold z3V at q
 split at q
 ·cases q
  obtain⟨v,rfl,r⟩:=z6n hr
  unfold Rep at r
  obtain⟨a,xs,rfl,_,h,rs⟩:=r
  refine⟨.ref a,xs.length,rfl,.inl ⟨xs,SqL.of h,rfl⟩,k _ H (.refl H) ?_⟩
  show V.int _=V.int _
  rw[rs.length]
 ·cases q
  obtain⟨v,rfl,r⟩:=z6n hr
  unfold Rep at r
  obtain⟨a,xs,rfl,h,rs⟩:=r
  refine⟨.ref a,xs.length,rfl,.inr ⟨xs,h,rfl⟩,k _ H (.refl H) ?_⟩
  show V.int _=V.int _
  rw[rs.length]
 ·cases q
  obtain⟨v,rfl,r⟩:=z6n hr
  unfold Rep at r
  obtain⟨a,rfl,h⟩:=r
  exact⟨.ref a,_,rfl,.inl ⟨_,h.sq,(aq ..).symm⟩,k _ H (.refl H) rfl⟩
 ·cases q
theorem z1x{f:DE}(hg:Gl X "len")(hm:X.mg "len" = none)(h:PD X e f)(he:starEach [e] X.env=[(false,eval e X.env)]:=by rfl):PD X (.Call (.Name "len" p) [e] [] pos) (z0j z3V [f]):=
 z7R x2B oa_len hg hm PySem.boot_len (z0a h z0c he) (by decide) (by decide) he rfl
def y0H:List D->Option (List Bool)
 |[]=>some []
 |.bl b::r=>(y0H r).map (b :: ·)
 |_=>none
def z1O:List D->Option (List Int)
 |[]=>some []
 |.int i::r=>(z1O r).map (i :: ·)
 |_=>none
theorem z9J{K:aa}{H:Hp}{B:Addr->Prop}:∀{ds:List D} {bs:List Bool} {xs:List V},y0H ds=some bs->Reps K H B ds xs->xs=bs.map V.bl
 |[],_,_,e,h=>by cases e;unfold Reps at h;exact h
 |.bl b::r,bs,xs,e,h=>by
  unfold y0H at e
  cases q:y0H r with
  |none=>rw[q]at e;cases e
  |some cs=>
   rw[q]at e
   cases e
   unfold Reps at h
   obtain⟨x,r',rfl,h1,h2⟩:=h
   rw[z9J q h2,show x=V.bl b from h1]
   rfl
 |.non::_,_,_,e,_=>nomatch e
 |.int _::_,_,_,e,_=>nomatch e
 |.str _::_,_,_,e,_=>nomatch e
 |.lst _::_,_,_,e,_=>nomatch e
 |.tup _::_,_,_,e,_=>nomatch e
 |.dct _ _::_,_,_,e,_=>nomatch e
 |.exc _::_,_,_,e,_=>nomatch e
 |.obj _ _ _ _::_,_,_,e,_=>nomatch e
 |.cel _ _::_,_,_,e,_=>nomatch e
 |.scr _::_,_,_,e,_=>nomatch e
theorem z6u{K:aa}{H:Hp}{B:Addr->Prop}:∀{ds:List D} {bs:List Int} {xs:List V},z1O ds=some bs->Reps K H B ds xs->xs=bs.map V.int
 |[],_,_,e,h=>by cases e;unfold Reps at h;exact h
 |.int b::r,bs,xs,e,h=>by
  unfold z1O at e
  cases q:z1O r with
  |none=>rw[q]at e;cases e
  |some cs=>
   rw[q]at e
   cases e
   unfold Reps at h
   obtain⟨x,r',rfl,h1,h2⟩:=h
   rw[z6u q h2,show x=V.int b from h1]
   rfl
 |.non::_,_,_,e,_=>nomatch e
 |.bl _::_,_,_,e,_=>nomatch e
 |.str _::_,_,_,e,_=>nomatch e
 |.lst _::_,_,_,e,_=>nomatch e
 |.tup _::_,_,_,e,_=>nomatch e
 |.dct _ _::_,_,_,e,_=>nomatch e
 |.exc _::_,_,_,e,_=>nomatch e
 |.obj _ _ _ _::_,_,_,e,_=>nomatch e
 |.cel _ _::_,_,_,e,_=>nomatch e
 |.scr _::_,_,_,e,_=>nomatch e
theorem y6g:∀{bs:List Bool} {us:List Value},Vals (bs.map V.bl) us->PyProof.Rows.LSm.BoolsAre us bs
 |[],_,.nil=>.nil
 |b::bs,_,.cons r t=>by
  cases r
  exact .cons b (y6g t)
theorem y9Z(hc:X.calm=true):z6T X (.builtin "all") (fun xs H Q=>∃(p:Addr) (bs:List Bool),xs=[.ref p]∧SqL X.K H p (bs.map V.bl)∧Q (.bl (bs.all (fun b=>b))) H):=by
 intro pins s σ H xs us Q I r h
 obtain⟨p,bs,rfl,hq,q⟩:=h
 obtain⟨u,rfl,ru⟩:=y3O r
 cases ru
 obtain⟨its,rv,pl,hz⟩:=I.list hq
 have hl:=pl.isList
 have hb:=y6g rv
 have hlt:p<s.heap.objs.size:=by obtain⟨_,e,_⟩:=hl;exact Heap.lt_size e
 refine call_all_walk (wpAny_pyIter_list hl ?_)
 refine⟨s.heap.objs.size,[s.heap.objs.size,p],[s.heap.objs.size],its.toArray.size,_,_,fun i=>(bs[i]?).getD true,rfl,Walks.list (A:=X.A.in1) (I.ok.hd hc) _ p (az hlt) its.toArray,
  ⟨⟨_,Heap.get?_push_size _ rfl,rfl,rfl⟩,hl.push _⟩,fun i v s' Q' E' hP hQ=>?_,fun h' tk hk=>?_⟩
 ·obtain⟨b,e,rfl⟩:=hb.get i v (by simpa using hP)
  simp only[e,Option.getD_some]at hQ
  exact wpAny_truthy_bool hQ
 ·have e:((ag its.toArray.size).all fun i=>(bs[i]?).getD true)=bs.all (fun b=>b):=by
   rw[aB,hb.length];exact LSm.range_all bs
  rw[e]
  exact⟨.bl _,H,I.kept (LSm.kept_iter hk),rfl,q⟩
theorem x1O(hc:X.calm=true):z6T X (.builtin "sum") (fun xs H Q=>∃(p:Addr) (ns:List Int),xs=[.ref p]∧SqL X.K H p (ns.map V.int)∧Q (.int ns.sum) H):=by
 intro pins s σ H xs us Q I r h
 obtain⟨p,ns,rfl,hq,q⟩:=h
 obtain⟨u,rfl,ru⟩:=y3O r
 cases ru
 obtain⟨its,rv,pl,hz⟩:=I.list hq
 have hi:=z6F rv
 obtain⟨xs,hx⟩:=hi.allInts.items
 have hl':s.heap.IsList p (intItems xs):=hx ▸ pl.isList
 refine sum_intListG (I.ok.hd hc) hl' fun h' tk t' hk=>?_
 have e1:ns=xs.toList.map (·.1):=by
  rw[←nums_intItems,←hx]
  exact(show numsOf its.toArray.toList=ns from hi.numsOf).symm
 have e2:preSum (numAt xs) xs.size=ns.sum:=by
  rw[preSum_eq,bA (by simp),e1]
 rw[e2]
 exact⟨.int _,H,I.kept hk,⟨_,rfl⟩,q⟩
def allF:List D->Option D
 |[.lst ds]=>(y0H ds).map fun bs=>.bl (bs.all (fun b=>b))
 |_=>none
def sumF:List D->Option D
 |[.lst ds]=>(z1O ds).map fun ns=>.int ns.sum
 |_=>none
theorem oa_all{K:aa}:OpA K (fun xs H Q=>∃(p:Addr) (bs:List Bool),xs=[.ref p]∧SqL K H p (bs.map V.bl)∧Q (.bl (bs.all (fun b=>b))) H) allF:=by
 intro H B ds d vs Q hB hr q k
 unfold allF at q
 split at q
 ·rename_i es
  cases e:y0H es with
  |none=>rw[e]at q;cases q
  |some bs=>
   rw[e]at q
   cases q
   obtain⟨v,rfl,r⟩:=z6n hr
   unfold Rep at r
   obtain⟨a,xs,rfl,_,h,rs⟩:=r
   rw[z9J e rs]at h
   exact⟨a,bs,rfl,SqL.of h,k _ H (.refl H) rfl⟩
 ·cases q
theorem oa_sum{K:aa}:OpA K (fun xs H Q=>∃(p:Addr) (ns:List Int),xs=[.ref p]∧SqL K H p (ns.map V.int)∧Q (.int ns.sum) H) sumF:=by
 intro H B ds d vs Q hB hr q k
 unfold sumF at q
 split at q
 ·rename_i es
  cases e:z1O es with
  |none=>rw[e]at q;cases q
  |some bs=>
   rw[e]at q
   cases q
   obtain⟨v,rfl,r⟩:=z6n hr
   unfold Rep at r
   obtain⟨a,xs,rfl,_,h,rs⟩:=r
   rw[z6u e rs]at h
   exact⟨a,bs,rfl,SqL.of h,k _ H (.refl H) rfl⟩
 ·cases q
theorem x0X{f:DE}(hc:X.calm=true)(hg:Gl X "all")(hm:X.mg "all" = none)(h:PD X e f)(he:starEach [e] X.env=[(false,eval e X.env)]:=by rfl):PD X (.Call (.Name "all" p) [e] [] pos) (z0j allF [f]):=
 z7R (y9Z hc) oa_all hg hm PyProof.Rows.Boot.«all» (z0a h z0c he) (by decide) (by decide) he rfl
theorem x4X{f:DE}(hc:X.calm=true)(hg:Gl X "sum")(hm:X.mg "sum" = none)(h:PD X e f)(he:starEach [e] X.env=[(false,eval e X.env)]:=by rfl):PD X (.Call (.Name "sum" p) [e] [] pos) (z0j sumF [f]):=
 z7R (x1O hc) oa_sum hg hm boot_sum (z0a h z0c he) (by decide) (by decide) he rfl
def z9i:List D->Option (List D)
 |[.lst ds]=>some ds
 |[.tup ds]=>some ds
 |[.scr ns]=>some (ns.map .int)
 |_=>none
theorem ol_list{K:aa}:OpL K (fun xs H Q=>∃p ys,xs=[.ref p]∧(SqL K H p ys∨SqT K H p ys)∧∀l,H l=none->Q (.ref l) (upd H l (.lst ys))) z9i:=by
 intro H B ds es vs Q hB hr q k
 unfold z9i at q
 split at q
 ·cases q
  obtain⟨v,rfl,r⟩:=z6n hr
  unfold Rep at r
  obtain⟨a,xs,rfl,_,h,rs⟩:=r
  exact⟨a,xs,rfl,.inl (SqL.of h),fun l hl=>k l xs _ (z0q hl) hl z0r (rs.mono (z0q hl))⟩
 ·cases q
  obtain⟨v,rfl,r⟩:=z6n hr
  unfold Rep at r
  obtain⟨a,xs,rfl,h,rs⟩:=r
  exact⟨a,xs,rfl,.inr h,fun l hl=>k l xs _ (z0q hl) hl z0r (rs.mono (z0q hl))⟩
 ·cases q
  obtain⟨v,rfl,r⟩:=z6n hr
  unfold Rep at r
  obtain⟨a,rfl,h⟩:=r
  exact⟨a,_,rfl,.inl h.sq,fun l hl=>k l _ _ (z0q hl) hl z0r (z2E _)⟩
 ·cases q
theorem z4F{f:DE}(hg:Gl X "list")(hm:X.mg "list" = none)(h:PD X e f)(he:starEach [e] X.env=[(false,eval e X.env)]:=by rfl):PF X (.Call (.Name "list" p) [e] [] pos) (z2H z9i [f]):=
 x3v y3h ol_list hg hm PyProof.Rows.Boot.«list» (z0a h z0c he) (by decide) (by decide) he rfl
def tupF:List D->Option D
 |[.lst ds]=>some (.tup ds)
 |[.tup ds]=>some (.tup ds)
 |_=>none
theorem oa_tup{K:aa}:OpA K (fun xs H Q=>∃p ys,xs=[.ref p]∧((SqL K H p ys∧∀l,H l=none->Q (.ref l) (upd H l (.tup ys)))∨(SqT K H p ys∧Q (.ref p) H))) tupF:=by
 intro H B ds d vs Q hB hr q k
 unfold tupF at q
 split at q
 ·cases q
  obtain⟨v,rfl,r⟩:=z6n hr
  unfold Rep at r
  obtain⟨a,xs,rfl,_,h,rs⟩:=r
  exact⟨a,xs,rfl,.inl ⟨SqL.of h,fun l hl=>k _ _ (z0q hl) (by unfold Rep;exact⟨l,xs,rfl,SqT.of z0r,rs.mono (z0q hl)⟩)⟩⟩
 ·cases q
  obtain⟨v,rfl,r⟩:=z6n hr
  have r0:=r
  unfold Rep at r
  obtain⟨a,xs,rfl,h,rs⟩:=r
  exact⟨a,xs,rfl,.inr ⟨h,k _ _ (.refl H) r0⟩⟩
 ·cases q
theorem y5E{f:DE}(hg:Gl X "tuple")(hm:X.mg "tuple" = none)(h:PD X e f)(he:starEach [e] X.env=[(false,eval e X.env)]:=by rfl):PD X (.Call (.Name "tuple" p) [e] [] pos) (z0j tupF [f]):=
 x4c y1y oa_tup hg hm PyProof.Rows.Boot.«tuple» (z0a h z0c he) (by decide) (by decide) he rfl
end
end L2
namespace L2
open PySem PySem.Spec PyProof.Rows
def tyN:D->String
 |.non => "NoneType"
 |.bl _ => "bool"
 |.int _ => "int"
 |.str _ => "str"
 |.lst _ => "list"
 |.tup _ => "tuple"
 |.scr _ => "list"
 |.dct _ _ => "dict"
 |.exc _ => "object"
 |.obj _ _ _ _ => "object"
 |.cel _ _ => "list"
inductive IsT:String->Prop where
 |bool:IsT "bool" |int:IsT "int" |str:IsT "str" |list:IsT "list" |tuple:IsT "tuple" |dict:IsT "dict"
def isF(T:String)(d:D):Bool:=tyN d==T||(tyN d == "bool" && T == "int")
theorem kit_tt(K:aa){T:String}(h:IsT T)(d:D)(hd:∀x,d≠.exc x)(hd2:∀x a ks ds,d≠.obj x a ks ds):cb K (.type (tyN d)) (.type T)=some (isF T d):=by
 cases h <;> cases d <;> first | kernel_rfl | exact absurd rfl (hd _) | exact absurd rfl (hd2 _ _ _ _)
section
variable{prog:dw}{w:fm}{A:Around}{E:Value->Shared->Prop}{K:aa}{x D:Addr}{ox:Obj}{s:Shared}
theorem y8W{Q:Option Value->Shared->Prop}(X:K.In s.heap)(I:cY s.heap x ox D none)(hga:aT K (.ref D) "__getattribute__" = some (some (.builtin "BaseException.__getattribute__")))(hgh:aT K (.ref D) "__getattr__" = some none)
  (hf:dA K D none "__class__" = some (.bind (.builtin "getset_descriptor.__get__") (.builtin "object.__class__"))) (hm:bF K D (.type "object")=some true) (hb:bF K D (.type "BaseException")=some true)
  (h:Q (some (.ref D)) { s with toks:=s.toks+1 }):wpAny (model prog w) A (getAttr? (.ref x) "__class__") Q E s:=by
 obtain⟨hp,gs,dr,tk,os⟩:=s
 have T0:=I.type (M:=model prog w)
 have T1:=ef (M:=model prog w) X hga
 have T2:=ef (M:=model prog w) X hgh
 have T3:=PySem.W.looks_find (M:=model prog w) X I hf
 have T4:=PySem.W.looks_mroIn (M:=model prog w) X hb
 have hne:(onTheHeap (Value.ref D)&&Value.builtin "BaseException.__getattribute__" == Value.builtin "object.__getattribute__")=false:=by
  have z:(Value.builtin "BaseException.__getattribute__" == Value.builtin "object.__getattribute__")=false:=by decide +kernel
  rw[z,dY]
 unfold getAttr? getAttrBy?
 refine wpAny_bind (wpAny_mkText ?_)
 refine wpAny_bind (wpAny_attempt ?_)
 unfold getAttrBy
 refine wpAny_holding (wpAny_bind (T0.at ?_))
 refine wpAny_bind (T1.at ?_)
 dsimp only
 rw[hne,if_neg aj]
 unfold getAttrByItsOwn hookBefore
 rw[if_pos (show onTheHeap (Value.ref D)=true from rfl)]
 refine wpAny_bind (T2.at ?_)
 refine wpAny_bind (wpAny_attempt (wpAny_holding ?_))
 unfold callGetattribute boundAndCalled
 rw[dX,if_neg aj,F.excAttr_ValueError.ga.bind]
 refine wpAny_bind (wpAny_pure ?_)
 refine wpAny_call (codeAny_call_builtin F.excAttr_ValueError.ga.plain F.entry_bexc_ga ?_)
 have k1:builtinKind "BaseException.__getattribute__" = some .slot:=by decide +kernel
 have k2:splitId "BaseException.__getattribute__" = some ("BaseException", "__getattribute__"):=by decide +kernel
 simp only[checkBuiltinCall,k1,k2]
 have ha:=F.args_bexc_ga (.ref x) (.str "__class__" tk)
 have TI:PySem.W.Looks (model prog w) hp (isInstance (.ref x) (.type "BaseException")) true:=T0.andThen T4
 show wpAny _ _ (isInstance (.ref x) (.type "BaseException") >>= _) _ _ _
 refine wpAny_bind (TI.at ?_)
 rw[if_neg (by decide)]
 unfold argsOk at ha
 refine wpAny_of_eq (a:=()) ha ?_
 unfold Builtin.«object.__getattribute__»
 refine wpAny_bind (wpAny_of_eq (a:=(Value.ref x,[Value.str "__class__" tk])) rfl ?_)
 dsimp only
 refine wpAny_bind (wpAny_of_eq (a:=("__class__" : Str)) rfl ?_)
 refine wpAny_bind (T0.at ?_)
 refine wpAny_bind (T3.at ?_)
 show wpAny _ _ (holding [Value.builtin "object.__class__"] (call (.builtin "getset_descriptor.__get__") [.builtin "object.__class__",.ref x,.ref D]) >>= ret) _ _ _
 refine wpAny_bind (wpAny_holding (wpAny_call (PySem.W.class_get X I hm ?_)))
 refine wpAny_pure ?_
 exact PySem.W.handed_on rfl (wpAny_pure h)
end
theorem xcls_of{K:aa}{C:Addr}(h:x1I K C=true):aT K (.ref C) "__getattribute__" = some (some (.builtin "BaseException.__getattribute__"))∧aT K (.ref C) "__getattr__" = some none∧bF K C (.type "BaseException")=some true∧(dR K C).isSome=true ∧
  aT K (.ref C) "__class__" = some (some (.builtin "object.__class__"))∧bQ K (.builtin "object.__class__") "__get__" = some (some (.builtin "getset_descriptor.__get__"))∧cC K (.builtin "object.__class__")=some true∧bF K C (.type "object")=some true:=by
 unfold x1I at h
 simp only[aM,beq_iff_eq]at h
 exact⟨h.1.1.1.1.1.1.1.1,h.1.1.1.1.1.1.1.2,h.1.1.1.1.1.1.2,h.1.1.1.1.1.2,h.1.1.1.1.2,h.1.1.1.2,h.1.1.2,h.1.2⟩
theorem icls_of{K:aa}{C:Addr}{ks:List Str}(h:y8j K C ks=true):Cls K C∧aT K (.ref C) "__class__" = some (some (.builtin "object.__class__"))∧bQ K (.builtin "object.__class__") "__get__" = some (some (.builtin "getset_descriptor.__get__"))∧cC K (.builtin "object.__class__")=some true∧bF K C (.type "object")=some true ∧
  (["bool", "int", "str", "list", "tuple", "dict"].all fun T=>cb K (.ref C) (.type T)==some false)=true∧∀f∈ks,NoAttr K C f:=by
 unfold y8j at h
 rw[av,av,av,av,av,av,av,av,av]at h
 obtain⟨⟨⟨⟨⟨⟨⟨⟨⟨a1,a2⟩,a3⟩,a4⟩,a5⟩,a6⟩,a7⟩,a8⟩,a9⟩,a10⟩:=h
 rw[aW]at a10
 exact⟨⟨a1,a2,a3,beq_iff_eq.mp a4⟩,beq_iff_eq.mp a5,beq_iff_eq.mp a6,beq_iff_eq.mp a7,beq_iff_eq.mp a8,a9,fun f hf=>beq_iff_eq.mp (a10 f hf)⟩
theorem x3H{K:aa}{x C:Addr}{ox:Obj}(h:x1I K C=true):PySem.W.KitX K (.ref x) (.ref C) (fun g=>cY g x ox C none):=by
 obtain⟨g1,g2,g3,h2,h3,h4,h5,h6⟩:=xcls_of h
 obtain⟨cd,hcd⟩:=cQ.mp h2
 have hk:∃c d sl,K.lookup C=some ⟨c,d,.cls cd,sl⟩:=by
  unfold dR at hcd
  split at hcd
  ·cases hcd;exact⟨_,_,_,by assumption⟩
  ·cases hcd
 obtain⟨c0,d0,sl0,hk⟩:=hk
 have hf:dA K C none "__class__" = some (.bind (.builtin "getset_descriptor.__get__") (.builtin "object.__class__")):=by
  unfold dA
  rw[hcd,aA,h3,aA]
  simp[h4,h5]
 refine⟨fun _ _ _ I=>I.type,fun _ _ X _=>?_,fun g tp dd its n sl X ht=>?_,fun X I k=>?_⟩
 ·intro A' Q' E' s' kk q
  unfold isType loadHead
  exact wpAny_bind (wpAny_loadPart (kk _ _ (X _ _ hk)) (wpAny_pure q))
 ·cases hz:(Value.ref C==Value.ref tp)with
  |false=>rfl
  |true=>
   have e:C=tp:=Value.ref.inj (beq_iff_eq.mp hz)
   rw[←e]at ht
   have z:=(X _ _ hk).symm.trans ht
   cases z
 ·exact y8W X I g1 g2 hf h6 g3 k
theorem exc_at{X:Cx}{pins:List (Addr×Obj)}{σ:St}{H:Hp}{s:Shared}{a C:Addr}(I:Inv X pins σ H s)(h:H a=some (.ext (isX a C))):∃o,cY s.heap a o C none:=by
 obtain⟨⟨o,h1,h2,h3,h4⟩,_⟩:=(show ObjOk X.prog X.w H s.heap a (.ext (isX a C)) from I.hok a _ h)
 exact⟨o,h1,h2,h4,by rw[h3];trivial⟩
section
variable{X:Cx}{pins:List (Addr×Obj)}{σ:St}{H:Hp}{s:Shared}{B:Addr->Prop}{A:Around}{E:Value->Shared->Prop}{Q:Value->Shared->Prop}
theorem y8d{d:D}{v:V}{u:Value}{T:String}(I:Inv X pins σ H s)(r:Rep X.K H B d v)(rv:RelV v u)(hT:IsT T)(h:∀tk,Q (.bool (isF T d)) { s with toks:=tk }):wpAny (model X.prog X.w) A (call (.builtin "isinstance") [u,.type T]) Q E s:=by
 by_cases hd:∃x,d = .exc x
 ·obtain⟨x,rfl⟩:=hd
  unfold Rep at r
  obtain⟨a,C,rfl,_,hq,_,hx⟩:=r
  cases rv
  obtain⟨o,ie⟩:=exc_at I hq
  have e:cb X.K (.ref C) (.type T)=some (isF T (.exc x)):=by
   have h6:=(av.mp hx).2
   rw[aW]at h6
   have h7:=beq_iff_eq.mp (h6 T (by cases hT <;> decide))
   rw[h7]
   cases hT <;> rfl
  exact bp (x3H hx) I.kIn ie e (fun z=>nomatch z) h
 have hd:∀x,d≠.exc x:=fun x z=>hd ⟨x,z⟩
 by_cases hd2:∃x a ks ds,d = .obj x a ks ds
 ·obtain⟨x,a,ks,ds,rfl⟩:=hd2
  unfold Rep at r
  obtain⟨C,dx,fs,_,hq,⟨rfl,_,hx,_⟩,_⟩:=r
  cases rv
  obtain⟨cl,h3,h4,h5,h6,h7,_⟩:=icls_of hx
  obtain⟨mA,O,_⟩:=ins_get I.hok hq
  obtain⟨od,J,_⟩:=O.look
  have e:cb X.K (.ref C) (.type T)=some (isF T (.obj x a ks ds)):=by
   rw[aW]at h7
   have h8:=beq_iff_eq.mp (h7 T (by cases hT <;> decide))
   rw[h8]
   cases hT <;> rfl
  exact bp (PySem.W.kitx_own (cl.get _) cl.hd h3 h4 h5 h6) I.kIn J e (fun z=>nomatch z) h
 have e:=kit_tt X.K hT d hd (fun x a ks ds z=>hd2 ⟨x,a,ks,ds,z⟩)
 cases d with
 |exc x=>exact absurd rfl (hd x)
 |obj x a ks ds=>exact absurd ⟨x,a,ks,ds,rfl⟩ hd2
 |non=>cases r;cases rv;exact bp PySem.W.kitx_none I.kIn True.intro e (fun z=>nomatch z) h
 |bl y=>cases r;cases rv;exact bp PySem.W.kitx_bool I.kIn True.intro e (fun z=>nomatch z) h
 |int i=>cases r;obtain⟨t,q⟩:=rv;cases q;exact bp PySem.W.kitx_int I.kIn True.intro e (fun z=>nomatch z) h
 |str y=>cases r;obtain⟨t,q⟩:=rv;cases q;exact bp PySem.W.kitx_str I.kIn True.intro e (fun z=>nomatch z) h
 |cel a ds=>
  unfold Rep at r
  obtain⟨xs,_,hq,rfl,_⟩:=r
  cases rv
  obtain⟨its,_,⟨o,n,e1,c,_⟩,_⟩:=I.list (SqL.of hq)
  exact bp de I.kIn ⟨o,e1,c⟩ e (fun z=>nomatch z) h
 |lst ds=>
  unfold Rep at r
  obtain⟨a,xs,rfl,_,hq,_⟩:=r
  cases rv
  obtain⟨its,_,⟨o,n,e1,c,_⟩,_⟩:=I.list (SqL.of hq)
  exact bp de I.kIn ⟨o,e1,c⟩ e (fun z=>nomatch z) h
 |tup ds=>
  unfold Rep at r
  obtain⟨a,xs,rfl,hq,_⟩:=r
  cases rv
  obtain⟨its,_,⟨o,e1,c,_⟩,_⟩:=I.tuple hq
  exact bp PySem.W.kitx_tuple I.kIn ⟨o,e1,c⟩ e (fun z=>nomatch z) h
 |scr ns=>
  unfold Rep at r
  obtain⟨a,rfl,hq⟩:=r
  cases rv
  obtain⟨its,_,⟨o,n,e1,c,_⟩,_⟩:=I.list hq.sq
  exact bp de I.kIn ⟨o,e1,c⟩ e (fun z=>nomatch z) h
 |dct ks ds=>
  unfold Rep at r
  obtain⟨a,kvs,rfl,_,ea,_⟩:=r
  cases rv
  obtain⟨_,_,vs,_,p⟩:=(show ObjOk X.prog X.w H s.heap a (.dK kvs) from I.hok a _ ea)
  obtain⟨o,es,ep,h1,h2,_⟩:=p
  exact bp PySem.W.kitx_dict I.kIn ⟨o,h1,h2.1⟩ e (fun z=>nomatch z) h
end
section
variable{X:Cx}{e:Expr}{p p2 pos:Pos}
def dIs(T:String)(f:DE):DE:=fun δ=>(f δ).map fun d=>.bl (isF T d)
theorem x3e{T:String}(hT:IsT T):z6T X (.builtin "isinstance") (fun xs H Q=>∃B d v,xs=[v,.ty T]∧Rep X.K H B d v∧Q (.bl (isF T d)) H):=by
 intro pins s σ H xs us Q I r h
 obtain⟨B,d,v,rfl,rv,q⟩:=h
 obtain⟨u,w',rfl,r1,r2⟩:=vals2 r
 cases r2
 exact y8d I rv r1 hT fun tk=>⟨.bl _,H,I.tok tk,rfl,q⟩
theorem pd_is{f:DE}{x:Str}{T:String}(hT:IsT T)(hb:fy x=some (.type T))(hx:Gl X x)(hmx:X.mg x=none)(hnx:x ≠ "__name__")(hdx:(x==("__debug__" : Str))=false)(hg:Gl X "isinstance")(hm:X.mg "isinstance" = none)(h:PD X e f)
  (he:starEach [e,.Name x p2] X.env=[(false,eval e X.env),(false,eval (.Name x p2) X.env)]:=by rfl) (he2:starEach [.Name x p2] X.env=[(false,eval (.Name x p2) X.env)]:=by rfl):PD X (.Call (.Name "isinstance" p) [e,.Name x p2] [] pos) (dIs T f):=
 (y0T (x3e hT) hg hm boot_isinstance (z1y h (z1y (pe_bltn (v:=.ty T) hx hmx hb rfl hnx hdx) pa_nil he2) (by rw[he,he2])) (by decide) (by decide) (by rw[he,he2]) (by rw[he2];rfl)).imp fun σ H Q ⟨B,δ,d,hB,S,q,k⟩=>by
  unfold dIs at q
  cases e1:f δ with
  |none=>rw[e1]at q;cases q
  |some d'=>
   rw[e1]at q
   cases q
   exact⟨B,δ,d',hB,S,e1,fun v H1 s1 r1=>⟨B,d',v,rfl,r1,k _ H1 s1 rfl⟩⟩
theorem x0u{f:DE}(hx:Gl X "bool")(hmx:X.mg "bool" = none)(hg:Gl X "isinstance")(hm:X.mg "isinstance" = none)(h:PD X e f)(he:starEach [e,.Name "bool" p2] X.env=[(false,eval e X.env),(false,eval (.Name "bool" p2) X.env)]:=by rfl):
  PD X (.Call (.Name "isinstance" p) [e,.Name "bool" p2] [] pos) (dIs "bool" f):=pd_is .bool PyProof.Rows.Boot.«bool» hx hmx (by decide) (by decide) hg hm h he rfl
theorem x2v{f:DE}(hx:Gl X "int")(hmx:X.mg "int" = none)(hg:Gl X "isinstance")(hm:X.mg "isinstance" = none)(h:PD X e f)(he:starEach [e,.Name "int" p2] X.env=[(false,eval e X.env),(false,eval (.Name "int" p2) X.env)]:=by rfl):
  PD X (.Call (.Name "isinstance" p) [e,.Name "int" p2] [] pos) (dIs "int" f):=pd_is .int PyProof.Rows.Boot.«int» hx hmx (by decide) (by decide) hg hm h he rfl
theorem x3t{f:DE}(hx:Gl X "tuple")(hmx:X.mg "tuple" = none)(hg:Gl X "isinstance")(hm:X.mg "isinstance" = none)(h:PD X e f)(he:starEach [e,.Name "tuple" p2] X.env=[(false,eval e X.env),(false,eval (.Name "tuple" p2) X.env)]:=by rfl):
  PD X (.Call (.Name "isinstance" p) [e,.Name "tuple" p2] [] pos) (dIs "tuple" f):=pd_is .tuple PyProof.Rows.Boot.«tuple» hx hmx (by decide) (by decide) hg hm h he rfl
end
def y7N(i:Nat):Option SD->Option SD
 |some (.bo r d)=>if r=i then none else some (.bo r d)
 |o=>o
def z0S(i:Nat)(δ:SS):SS:=δ.map (y7N i)
theorem z4V{i j:Nat}{δ:SS}{x:SD}(h:(z0S i δ)[j]? = some (some x)):δ[j]? = some (some x)∧∀d,x≠.bo i d:=by
 unfold z0S at h
 rw[aJ]at h
 cases e:δ[j]? with
 |none=>rw[e]at h;cases h
 |some o=>
  rw[e]at h
  have h':y7N i o=some x:=Option.some.inj h
  unfold y7N at h'
  split at h'
  ·rename_i r d
   split at h'
   ·cases h'
   ·rename_i hr
    cases h'
    exact⟨rfl,fun d' z=>by cases z;exact hr rfl⟩
  ·rename_i hn
   subst h'
   exact⟨rfl,fun d z=>hn i d (by rw[z])⟩
section
variable{K:aa}{H0 H:Hp}{B0:Addr->Prop}{σ:St}{δ:SS}{R:Nat->List Addr}
theorem RS.rewrite{Hold:Hp}{i:Nat}{d d':D}{a:Addr}{o:HO}{v:V}{A':List Addr}(h:RS K H0 B0 Hold σ δ R)(e:Same Hold H)(hi:δ[i]? = some (some (.ow d)))(hv:σ[i]? = some (some v))(ha:a∈R i)(t:Tree K (upd H a o) d' v A')(nd:A'.Nodup)(sub:∀b∈A',b∈R i∨Hold b=none):
  RS K H0 B0 (upd H a o) σ ((z0S i δ).set i (some (.ow d'))) (y3A R i A')∧Stp R Hold (y3A R i A') (upd H a o):=by
 have hm:=h.mono e
 obtain⟨oa,ea,ma⟩:=hm.held i a ha
 have mH:Mut (H a):=by rw[ea];exact ma
 have mem:∀r b,b∈y3A R i A' r->b∈R r∨(r=i∧Hold b=none):=fun r b z=>by
  by_cases hr:r=i
  ·subst hr;rw[z0X]at z;exact(sub b z).imp id fun q=>⟨rfl,q⟩
  ·rw[z1I hr]at z;exact .inl z
 have kt:KeepI K H (upd H a o):=(Keep.upd (K:=K) (B:=fun x=>x=a) rfl mH).i
 have nh:∀r b,b∈R r->Hold b=none->False:=fun r b z q=>by
  obtain⟨u,q',_⟩:=h.held r b z
  rw[q]at q';cases q'
 refine⟨⟨fun b u q=>?_,h.inB,by simp[z0S,h.len],fun r b z=>?_,fun r b z=>?_,fun r s b z z'=>?_,fun j d2 z=>?_,fun j r2 d2 z=>?_,fun j d2 z=>?_⟩,⟨fun b u q n=>?_,fun r b z=>?_,fun b z=>?_⟩⟩
 ·have ne:b≠a:=fun z=>by subst z;rw[h.new i b ha]at q;cases q
  rw[z0I ne];exact hm.keep b u q
 ·rcases mem r b z with z | ⟨_,z⟩
  ·exact h.new r b z
  ·exact h.keep.free z
 ·by_cases hr:r=i
  ·subst hr;rw[z0X]at z;exact t.held d' b z
  ·rw[z1I hr]at z
   have ne:b≠a:=fun q=>hr (h.disj r i b z (q ▸ ha))
   rw[z0I ne];exact hm.held r b z
 ·rcases mem r b z with z | ⟨z1,z2⟩ <;> rcases mem s b z' with z' | ⟨z1',z2'⟩
  ·exact h.disj r s b z z'
  ·exact(nh r b z z2').elim
  ·exact(nh s b z' z2).elim
  ·rw[z1,z1']
 ·rcases z2C z with⟨rfl,q,_⟩ | ⟨hj,q⟩
  ·cases q
  ·obtain⟨q1,_⟩:=z4V q
   obtain⟨w,e1,r⟩:=h.sh j d2 q1
   have r2:=(Rep.wide (C:=fun b=>Hold b=none) (fun _ z=>z) d2 r).mono e
   refine⟨w,e1,Rep.anti ?_ d2 (Rep.keep (.upd (.inl (.inr ⟨i,ha⟩)) mH) d2 r2)⟩
   rintro b (z | ⟨r,z⟩)
   ·exact .inl (.inl z)
   ·rcases mem r b z with z | ⟨_,z⟩
    ·exact .inl (.inr ⟨r,z⟩)
    ·exact .inr z
 ·rcases z2C z with⟨rfl,q,_⟩ | ⟨hj,q⟩
  ·cases q
  ·obtain⟨q1,q2⟩:=z4V q
   have hr:i≠r2:=fun e=>q2 d2 (by rw[e])
   obtain⟨w,e1,r⟩:=h.bo j r2 d2 q1
   have r3:=(Rep.wide (C:=fun b=>Hold b=none) (fun _ z=>z) d2 r).mono e
   refine⟨w,e1,Rep.anti ?_ d2 (Rep.keep (.upd (.inl (.inr ⟨i,hr,ha⟩)) mH) d2 r3)⟩
   rintro b (z | ⟨s,hs,z⟩)
   ·exact .inl (.inl z)
   ·rcases mem s b z with z | ⟨_,z⟩
    ·exact .inl (.inr ⟨s,hs,z⟩)
    ·exact .inr z
 ·rcases z2C z with⟨rfl,q,_⟩ | ⟨hj,q⟩
  ·cases q
   rw[z0X]
   exact⟨v,hv,t,nd⟩
  ·obtain⟨q1,_⟩:=z4V q
   obtain⟨w,e1,t',nd'⟩:=hm.ow j d2 q1
   rw[z1I hj]
   refine⟨w,e1,Tree.keep kt d2 t' fun b hb u q=>?_,nd'⟩
   have ne:b≠a:=fun z=>by subst z;exact hj (h.disj j i b hb ha)
   rw[z0I ne];exact q
 ·have ne:b≠a:=fun z=>n i (z ▸ ha)
  rw[z0I ne];exact e b u q
 ·rcases mem r b z with z | ⟨_,z⟩
  ·exact .inl ⟨r,z⟩
  ·exact .inr z
 ·by_cases hb:b=a
  ·subst hb;rw[z0r]at z;cases z
  ·rw[z0I hb]at z;exact e.free z
theorem Trees.append:∀{ds es:List D} {xs ys:List V} {A C:List Addr},Trees K H ds xs A->Trees K H es ys C->Trees K H (ds++es) (xs++ys) (A++C)
 |[],_,_,_,_,_,h,h'=>by obtain⟨rfl,rfl⟩:=h;exact h'
 |d::ds,es,_,ys,_,C,h,h'=>by
  unfold Trees at h
  obtain⟨y,r,A1,A2,rfl,h1,h2,rfl⟩:=h
  exact(show Trees K H (d::(ds++es)) (y::(r++ys)) (A1++A2++C) by unfold Trees;exact⟨y,_,A1,A2++C,rfl,h1,Trees.append h2 h',aK _ _ _⟩)
theorem Trees.split:∀{ds:List D} {xs:List V} {A:List Addr} (k:Nat),Trees K H ds xs A->∃A1 A2,A=A1++A2∧Trees K H (ds.take k) (xs.take k) A1∧Trees K H (ds.drop k) (xs.drop k) A2
 |ds,xs,A,0,h=>⟨[],A,rfl,by rw[c5,c5];exact⟨rfl,rfl⟩,h⟩
 |[],_,_,k+1,h=>by
  obtain⟨rfl,rfl⟩:=h
  exact⟨[],[],rfl,⟨rfl,rfl⟩,⟨rfl,rfl⟩⟩
 |d::ds,_,_,k+1,h=>by
  unfold Trees at h
  obtain⟨y,r,A1,A2,rfl,h1,h2,rfl⟩:=h
  obtain⟨C1,C2,rfl,h3,h4⟩:=Trees.split k h2
  refine⟨A1++C1,C2,(aK _ _ _).symm,?_,h4⟩
  rw[cK,cK]
  unfold Trees
  exact⟨y,_,A1,C1,rfl,h1,h3,rfl⟩
theorem Trees.one{d:D}{x:V}{A:List Addr}(h:Tree K H d x A):Trees K H [d] [x] A:=by
 unfold Trees
 exact⟨x,[],A,[],rfl,h,⟨rfl,rfl⟩,(aH _).symm⟩
theorem Trees.length:∀{ds:List D} {xs:List V} {A:List Addr},Trees K H ds xs A->ds.length=xs.length
 |[],_,_,h=>by obtain⟨rfl,_⟩:=h;rfl
 |d::ds,_,_,h=>by
  unfold Trees at h
  obtain⟨x,r,_,_,rfl,_,h2,_⟩:=h
  simp[Trees.length h2]
theorem RS.top{i:Nat}{ds:List D}(h:RS K H0 B0 H σ δ R)(hi:δ[i]? = some (some (.ow (.lst ds)))):∃a xs A,σ[i]? = some (some (.ref a))∧H a=some (.lst xs)∧Trees K H ds xs A∧R i=a::A∧(a::A).Nodup:=by
 obtain⟨v,e,t,nd⟩:=h.ow i _ hi
 unfold Tree at t
 obtain⟨a,xs,A,rfl,ha,ts,e2⟩:=t
 rw[e2]at nd
 exact⟨a,xs,A,e,ha,ts,e2,nd⟩
theorem RS.put0{Hold:Hp}{i:Nat}{ds ds':List D}{a:Addr}{xs':List V}{A A':List Addr}(h:RS K H0 B0 Hold σ δ R)(e:Same Hold H)(hi:δ[i]? = some (some (.ow (.lst ds))))(hv:σ[i]? = some (some (.ref a)))(hR:R i=a::A)(nd:(a::A).Nodup)
  (t:Trees K H ds' xs' A') (nd':A'.Nodup) (sub:∀b∈A',b∈A∨Hold b=none):RS K H0 B0 (upd H a (.lst xs')) σ ((z0S i δ).set i (some (.ow (.lst ds')))) (y3A R i (a::A'))∧Stp R Hold (y3A R i (a::A')) (upd H a (.lst xs')):=by
 have ha:a∈R i:=by rw[hR];exact ac
 obtain⟨oa,ea,ma⟩:=h.held i a ha
 have nA:∀b∈A',b≠a:=fun b hb z=>by
  rcases sub b hb with q | q
  ·exact(ay.mp nd).1 (z ▸ q)
  ·rw[z,ea]at q;cases q
 have mH:Mut (H a):=by rw[e a oa ea];exact ma
 refine h.rewrite e hi hv ha ?_ (ay.mpr ⟨fun z=>nA a z rfl,nd'⟩) fun b hb=>?_
 ·unfold Tree
  refine⟨a,xs',A',rfl,z0r,Trees.keep (Keep.upd (K:=K) (B:=fun x=>x=a) rfl mH).i ds' t fun b hb o q=>?_,rfl⟩
  rw[z0I (nA b hb)];exact q
 ·rw[hR]
  rcases ah.mp hb with z | z
  ·rw[z];exact .inl ac
  ·exact(sub b z).imp (ad _) id
end
instance{i j:Int}:Decidable (CDiv i j):=by unfold CDiv;infer_instance
instance{i j:Int}:Decidable (CPow i j):=by unfold CPow;infer_instance
instance{i j:Int}:Decidable (CMul i j):=by unfold CMul;infer_instance
def LM(K:aa)(r:V->List V->Hp->VK->Prop)(F:List D->List D->Option (List D)):Prop:=
 ∀(H:Hp) (a:Addr) (xs:List V) (ds args:List D) (vs:List V) (ds':List D) (Q:VK),H a=some (.lst xs)->ds.length=xs.length->Reps K H noB args vs->F ds args=some ds' →
  (∀(w:V) (xs':List V),(∀(H2:Hp) (A C:List Addr),Trees K H2 ds xs A->Trees K H2 args vs C->∃A',Trees K H2 ds' xs' A'∧((A++C).Nodup->A'.Nodup)∧∀b∈A',b∈A∨b∈C)->Q w (upd H a (.lst xs')))->r (.ref a) vs H Q
def y3z:List D->List D->Option (List D):=fun ds args=>match args with
 |[d]=>if ds.length<sizeLine then some (ds++[d])else none
 |_=>none
theorem z4z{K:aa}:LM K y4G y3z:=by
 intro H a xs ds args vs ds' Q ha hl hr q k
 unfold y3z at q
 split at q
 ·rename_i d
  split at q
  ·rename_i hz
   cases q
   obtain⟨y,rfl,ry⟩:=z6n hr
   refine⟨a,xs,y,rfl,rfl,ha,by rw[←hl];exact hz,k _ _ fun H2 A C t tc=>⟨A++C,t.append tc,fun z=>z,fun b hb=>au.mp hb⟩⟩
  ·cases q
 ·cases q
def y7e(n:Nat)(i:Int):Nat:=if i<0 then(i+(n:Int)).toNat else min i.toNat n
def x0m:V->List V->Hp->VK->Prop:=fun x vs H Q=>∃l xs i y,x = .ref l∧vs=[.int i,y]∧H l=some (.lst xs)∧xs.length<sizeLine∧-(2 ^ 63)≤i∧i<2 ^ 63∧Q .non (upd H l (.lst (xs.take (y7e xs.length i)++y::xs.drop (y7e xs.length i))))
theorem ins_arr(its:List Value)(k:Nat)(y:Value):(its.toArray.extract 0 k).push y++its.toArray.extract k=(its.take k++y::its.drop k).toArray:=by
 apply Array.ext'
 simp
 rw[bA (by simp)]
theorem y2N{X:Cx}:MtM X "list.insert" x0m:=by
 intro pins s σ H x vs v us Q I rx rv h
 obtain⟨l,xs,i,y,rfl,rfl,hH,hz,h1,h2,q⟩:=h
 cases rx
 obtain⟨u,w',rfl,⟨t,rfl⟩,ry⟩:=rv.two
 obtain⟨z,its,n,r,hl,e⟩:=I.lstM hH
 have hfit:Builtin.List.listFitsIndex i=true:=fitsIndex_both h1 h2
 refine call_meets F.slot_list_insert ⟨_,e,rfl⟩ F.entry_list_insert (F.args_list_insert_3 _ _ _)
  (AutoSeq1.list_insert_list_int_val_1 l its.toArray n i t w' (by rw[hfit];decide) (by rw[aB];omega)) ⟨e,?_⟩
 refine⟨.non,_,I.lset (its':=its.take (y7e its.length i)++w'::its.drop (y7e its.length i)) (ys:=xs.take (y7e xs.length i)++y::xs.drop (y7e xs.length i)) hH e ?_ ?_ ?_,rfl,q⟩
 ·show(its.toArray.extract 0 (if i<0 then(i+(its.toArray.size:Int)).toNat else min i.toNat its.toArray.size)).push w'++its.toArray.extract (if i<0 then(i+(its.toArray.size:Int)).toNat else min i.toNat its.toArray.size)=_
  rw[ins_arr,aB]
  rfl
 ·rw[←hl]
  exact(r.take _).append (.cons ry (r.drop _))
 ·have:y7e xs.length i≤xs.length∨¬ y7e xs.length i≤xs.length:=Decidable.em _
  simp only[aC,bW,aZ,cU]
  omega
def insF:List D->List D->Option (List D):=fun ds args=>match args with
 |[.int i,d]=>if ds.length<sizeLine∧-(2 ^ 63)≤i∧i<2 ^ 63 then some (ds.take (y7e ds.length i)++d::ds.drop (y7e ds.length i))else none
 |_=>none
theorem x1G{A1 A2 C:List Addr}(h:(A1++A2++C).Nodup):(A1++(C++A2)).Nodup:=by
 have p:(A1++A2++C).Perm (A1++(C++A2)):=by
  rw[aK]
  exact List.Perm.append_left _ bR
 exact p.nodup_iff.mp h
theorem y2H{K:aa}:LM K x0m insF:=by
 intro H a xs ds args vs ds' Q ha hl hr q k
 unfold insF at q
 split at q
 ·rename_i i d
  split at q
  ·rename_i hz
   cases q
   obtain⟨v,y,rfl,rv,ry⟩:=reps2 hr
   cases (show v=V.int i from rv)
   refine⟨a,xs,i,y,rfl,rfl,ha,by rw[←hl];exact hz.1,hz.2.1,hz.2.2,k _ _ fun H2 A C t tc=>?_⟩
   rw[←hl]
   obtain⟨A1,A2,rfl,t1,t2⟩:=t.split (y7e ds.length i)
   unfold Trees at tc
   obtain⟨x1,r1,C1,C2,e1,h1,h2,rfl⟩:=tc
   cases e1
   obtain⟨_,eC1⟩:=(show V.int i=V.int i∧C1=[] from h1)
   subst eC1
   unfold Trees at h2
   obtain⟨x2,r2,C3,C4,e2,h3,h4,rfl⟩:=h2
   cases e2
   obtain⟨_,rfl⟩:=h4
   refine⟨A1++(C3++A2),t1.append ?_,fun z=>?_,fun b hb=>?_⟩
   ·unfold Trees
    exact⟨_,_,C3,A2,rfl,h3,t2,rfl⟩
   ·simp only[cJ,aH]at z
    exact x1G z
   ·simp only[cJ,aH,au]at hb ⊢
    rcases hb with z | z | z
    ·exact .inl (.inl z)
    ·exact .inr z
    ·exact .inl (.inr z)
  ·cases q
 ·cases q
theorem Trees.erase{K:aa}{H:Hp}:∀{ds:List D} {xs:List V} {A:List Addr} (k:Nat),Trees K H ds xs A->∃A',Trees K H (ds.eraseIdx k) (xs.eraseIdx k) A'∧A'.Sublist A
 |[],_,_,_,h=>by
  obtain⟨rfl,rfl⟩:=h
  exact⟨[],⟨rfl,rfl⟩,List.Sublist.refl _⟩
 |d::ds,_,_,0,h=>by
  unfold Trees at h
  obtain⟨x,r,A1,A2,rfl,h1,h2,rfl⟩:=h
  exact⟨A2,h2,d9 _ _⟩
 |d::ds,_,_,k+1,h=>by
  unfold Trees at h
  obtain⟨x,r,A1,A2,rfl,h1,h2,rfl⟩:=h
  obtain⟨A',t,sb⟩:=Trees.erase k h2
  refine⟨A1++A',?_,List.Sublist.append_left sb _⟩
  rw[eu,eu]
  unfold Trees
  exact⟨x,_,A1,A',rfl,h1,t,rfl⟩
section
variable{X:Cx}{H0:Hp}{B0:Addr->Prop}{fr:Bool}{RX:XR}{e e2:Expr}{es:List Expr}{pos ap cp:Pos}{x name:Str}{px:Pos}{bid:String}{r:V->List V->Hp->VK->Prop}{F:List D->List D->Option (List D)}{fl:List DE}
def m0(i:Nat)(F:List D->List D->Option (List D))(fl:List DE):SS->Option Out:=fun δ=>(z0n fl (z0D δ)).bind fun args=>if z3b args=true then(match δ[i]? with
 |some (some (.ow (.lst ds)))=>(F ds args).map fun ds'=>.nx ((z0S i δ).set i (some (.ow (.lst ds'))))
 |_=>none)else none
theorem m0_core{i:Nat}{to:TE}(hL:LM X.K r F)(hto:to=y7r i)(D:Ends)(σ:St)(H:Hp)(h:tS X.K H0 B0 fr RX (m0 i F fl) D σ H):tDrop (tBM X.K "list" r to (tDs X.K (z0n fl))) D σ H:=by
 subst hto
 obtain⟨δ,R,o,rs,q,k⟩:=h
 unfold m0 at q
 cases e1:z0n fl (z0D δ)with
 |none=>rw[e1]at q;cases q
 |some args=>
  rw[e1]at q
  have q:(if z3b args=true then(match δ[i]? with | some (some (.ow (.lst ds)))=>(F ds args).map fun ds'=>Out.nx ((z0S i δ).set i (some (.ow (.lst ds')))) | _=>none)else none)=some o:=q
  split at q
  case isFalse=>cases q
  case isTrue hi=>
  split at q
  case h_2=>cases q
  case h_1 ds ei=>
  cases e2:F ds args with
  |none=>rw[e2]at q;cases q
  |some ds'=>
   rw[e2]at q
   cases q
   obtain⟨a,xs,A,ev,ha,ts,eR,nd⟩:=rs.top ei
   refine⟨.ref a,ev,.inl ⟨rfl,xs,SqL.of ha⟩,noB,z0D δ,args,.no,rs.all,e1,fun vs H2 s2 r2=>?_⟩
   refine hL H2 a xs ds args vs ds' _ (s2 _ _ ha) ts.length r2 e2 fun w xs' up=>?_
   obtain⟨A',t',n',sub⟩:=up H2 A [] (ts.mono s2) (r2.immTree args hi)
   have P:=rs.put0 s2 ei ev eR nd t' (n' (by rw[aH];exact(ay.mp nd).2)) fun b hb=>(sub b hb).imp id (fun z=>nomatch z)
   exact k σ _ _ P.1 P.2
theorem s_m0{i:Nat}(slot:Slot "list" name bid)(hty:typeOf (.builtin bid)=pure (.type "method_descriptor"))(hm:MtM X bid r)(hL:LM X.K r F)(hx:PE X (.Name x px) (y7r i))(ha:PAD X (e::es) fl)
  (hbase:fx (.Name x px) name X.env (eval (.Name x px) X.env)=eval (.Name x px) X.env:=by rfl)
  (hfew:((fw cp (starEach (e::es) X.env)).all (fun x=>!x.1)&&(backToKw cp (keywordEach [] X.env)).all (fun x=>x.1.isSome)&&decide ((e::es).length+([]:List fA).length+(if([]:List fA).isEmpty then 0 else 1)<30))=true:=by rfl)
  (hline:(ap.endLine==cp.line)=true:=by rfl) (hs:starEach (e::es) X.env=(false,eval e X.env)::starEach es X.env:=by rfl) (hplain:(fw cp (starEach es X.env)).any (·.1)=false:=by rfl)
  (hsw:swapsWith (.Call (.Attribute (.Name x px) name ap) (e::es) [] cp) none pos.line X.env=pure false:=by rfl):
  PS X (.Expr (.Call (.Attribute (.Name x px) name ap) (e::es) [] cp) pos) (tS X.K H0 B0 fr RX (m0 i F fl)):=
 PS.imp (z6U (y8Q PySem.F.plainAttrs_list slot hty hm hx ha hbase hfew hline hs hplain) hsw) (m0_core hL rfl)
def m1(i:Nat)(fk:DE)(F:List D->List D->Option (List D))(fl:List DE):SS->Option Out:=fun δ=>(fk (z0D δ)).bind fun dk=>match dk with
 |.int k=>(z0n fl (z0D δ)).bind fun args=>if z3b args=true then(match δ[i]? with
  |some (some (.ow (.lst ds)))=>(ixN ds.length k).bind fun j=>match ds[j]? with
   |some (.lst es)=>if z3b es=true then(F es args).bind fun es'=>if z3b es'=true then some (.nx ((z0S i δ).set i (some (.ow (.lst (ds.set j (.lst es')))))))else none else none
   |_=>none
  |_=>none)else none
 |_=>none
def st0(i:Nat)(fk fv:DE):SS->Option Out:=fun δ=>(fv (z0D δ)).bind fun d=>if d.imm=true then(fk (z0D δ)).bind fun dk=>(match dk,δ[i]? with
 |.int k,some (some (.ow (.lst ds)))=>(ixN ds.length k).map fun j=>.nx ((z0S i δ).set i (some (.ow (.lst (ds.set j d)))))
 |_,_=>none)else none
def st1(i:Nat)(fk fj fv:DE):SS->Option Out:=fun δ=>(fv (z0D δ)).bind fun d=>if d.imm=true then(fk (z0D δ)).bind fun dk=>(fj (z0D δ)).bind fun dj=>(match dk,dj,δ[i]? with
 |.int k,.int j,some (some (.ow (.lst ds)))=>(ixN ds.length k).bind fun k'=>(match ds[k']? with
  |some (.lst es)=>if z3b es=true then(ixN es.length j).map fun j'=>.nx ((z0S i δ).set i (some (.ow (.lst (ds.set k' (.lst (es.set j' d)))))))else none
  |_=>none)
 |_,_,_=>none)else none
end
theorem Trees.setI{K:aa}{H:Hp}{d:D}{y:V}(ty:Tree K H d y []):∀{ds:List D} {xs:List V} {A:List Addr} (j:Nat),Trees K H ds xs A->∃A',Trees K H (ds.set j d) (xs.set j y) A'∧A'.Sublist A
 |[],_,_,_,h=>by
  obtain⟨rfl,rfl⟩:=h
  exact⟨[],⟨rfl,rfl⟩,List.Sublist.refl _⟩
 |e::ds,_,_,0,h=>by
  unfold Trees at h
  obtain⟨x,r,A1,A2,rfl,h1,h2,rfl⟩:=h
  refine⟨A2,?_,d9 _ _⟩
  rw[eY,eY]
  unfold Trees
  exact⟨y,r,[],A2,rfl,ty,h2,rfl⟩
 |e::ds,_,_,k+1,h=>by
  unfold Trees at h
  obtain⟨x,r,A1,A2,rfl,h1,h2,rfl⟩:=h
  obtain⟨A',t,sb⟩:=Trees.setI ty k h2
  refine⟨A1++A',?_,List.Sublist.append_left sb _⟩
  rw[eZ,eZ]
  unfold Trees
  exact⟨x,_,A1,A',rfl,h1,t,rfl⟩
section
variable{X:Cx}{H0:Hp}{B0:Addr->Prop}{fr:Bool}{RX:XR}{e ke:Expr}{pos:Pos}{x:Str}{px p2:Pos}
theorem s_st0{i:Nat}{fk fv:DE}(hx:PE X (.Name x px) (y7r i))(hk:PD X ke fk)(hv:PD X e fv)
  (ha:∀v,fD (.Subscript (.Name x px) ke p2) X.env v=(do
   let ov ←holding [v] (eval (.Name x px) X.env)
   let iv ←holding [v,ov] (eval ke X.env)
   standAt p2
   holding [v,ov,iv] (setItem ov iv v)
   release [v,ov,iv] []):=by intro _;rfl)
  (hs:swapsWithSole [.Subscript (.Name x px) ke p2] e pos.line X.env=pure false:=by rfl) (hw:swappedStores [.Subscript (.Name x px) ke p2] e X.env=pure none:=by rfl)
  (h1:(fu [.Subscript (.Name x px) ke p2] X.env).map (·.2)=[fD (.Subscript (.Name x px) ke p2) X.env]:=by rfl):
  PS X (.Assign [.Subscript (.Name x px) ke p2] e pos) (tS X.K H0 B0 fr RX (st0 i fk fv)):=
 PS.imp (ps_asg hv (pg_sub hx hk x3r ha) hs hw h1) fun D σ H ⟨δ,R,o,rs,q,kk⟩=>by
  unfold st0 at q
  cases e1:fv (z0D δ)with
  |none=>rw[e1]at q;cases q
  |some d=>
  rw[e1]at q
  have q:(if d.imm=true then(fk (z0D δ)).bind fun dk=>(match dk,δ[i]? with
   |.int k,some (some (.ow (.lst ds)))=>(ixN ds.length k).map fun j=>Out.nx ((z0S i δ).set i (some (.ow (.lst (ds.set j d)))))
   |_,_=>none)else none)=some o:=q
  split at q
  case isFalse=>cases q
  case isTrue hi=>
  cases e2:fk (z0D δ)with
  |none=>rw[e2]at q;cases q
  |some dk=>
  rw[e2]at q
  simp only[aA]at q
  split at q
  case h_2=>cases q
  case h_1=>
  rename_i k ds ei
  cases ej:ixN ds.length k with
  |none=>rw[ej]at q;cases q
  |some j=>
  rw[ej]at q
  cases q
  obtain⟨a,xs,A,ev,ha',ts,eR,nd⟩:=rs.top ei
  refine⟨noB,z0D δ,d,.no,rs.all,e1,fun v H1 s1 r1=>⟨.ref a,ev,noB,z0D δ,.int k,.no,rs.all.mono s1,e2,fun v2 H2 s2 r2=>?_⟩⟩
  cases (show v2=V.int k from r2)
  refine⟨a,xs,k,j,rfl,rfl,s2 _ _ (s1 _ _ ha'),by rw[←ts.length];exact ej,?_⟩
  obtain⟨A',t',sb⟩:=Trees.setI ((r1.immTree d hi).mono s2) j (ts.mono (s1.trans s2))
  have P:=rs.put0 (s1.trans s2) ei ev eR nd t' ((ay.mp nd).2.sublist sb) fun b hb=>.inl (sb.subset hb)
  exact kk σ _ _ P.1 P.2
end
section
variable{X:Cx}{e a:Expr}{lo hi:Option Expr}{p2 pos:Pos}
def tO(K:aa)(f:DS->Option (Option Int)):TO:=fun σ H Q=>∃B δ o,InB B H∧RepS K H B σ δ∧f δ=some o∧∀H',Same H H'->Q o H'
abbrev POD(X:Cx)(e:Option Expr)(f:DS->Option (Option Int)):Prop:=PO X e (tO X.K f)
theorem PO.imp{eo:Option Expr}{t t':TO}(h:PO X eo t)(w:∀σ H Q,t' σ H Q->t σ H Q):PO X eo t':=fun pins s σ H Q I q=>h pins s σ H Q I (w σ H Q q)
def z1G:DS->Option (Option Int):=fun _=>some none
def z3T(f:DE):DS->Option (Option Int):=fun δ=>match f δ with
 |some (.int i)=>some (some i)
 |_=>none
theorem z1s:POD X none z1G:=po_none.imp fun σ H Q ⟨B,δ,o,hB,S,q,k⟩=>by
 cases q
 exact k H (.refl H)
theorem z1e{f:DE}(h:PD X e f):POD X (some e) (z3T f):=(po_some h).imp fun σ H Q ⟨B,δ,o,hB,S,q,k⟩=>by
 unfold z3T at q
 split at q
 ·rename_i i e1
  cases q
  exact⟨B,δ,.int i,hB,S,e1,fun v H' s r=>⟨i,r,k H' s⟩⟩
 ·cases q
def z7s(ds:List D)(lo hi:Option Int):List D:=(ds.drop (HT.sIx ds.length 0 lo)).take (HT.sIx ds.length ds.length hi - HT.sIx ds.length 0 lo)
def y1E(f:DE)(fl fh:DS->Option (Option Int)):DS->Option (List D):=fun δ=>match f δ with
 |some (.lst ds)=>(fl δ).bind fun lo=>(fh δ).map fun hi=>z7s ds lo hi
 |some (.scr ns)=>(fl δ).bind fun lo=>(fh δ).map fun hi=>z7s (ns.map .int) lo hi
 |_=>none
theorem z1g{f:DE}{fl fh:DS->Option (Option Int)}(he:PD X e f)(hl:POD X lo fl)(hh:POD X hi fh):PF X (.Subscript e (.Slice lo hi none p2) pos) (y1E f fl fh):=(x3g sl_list he hl hh).imp fun σ H Q ⟨B,δ,ds',hB,S,q,k⟩=>by
 unfold y1E at q
 have core:∀(d:D) (ds:List D),f δ=some d->((fl δ).bind fun lo=>(fh δ).map fun hi=>z7s ds lo hi)=some ds'->(∀v H1,Rep X.K H1 B d v->∃a xs,v = .ref a∧(∀H2,Same H1 H2->SqL X.K H2 a xs)∧Reps X.K H1 B ds xs) →
   tSl (rSlL X.K) (tD X.K f) (tO X.K fl) (tO X.K fh) σ H Q:=by
  intro d ds e1 q get
  cases e2:fl δ with
  |none=>rw[e2]at q;cases q
  |some l=>
  cases e3:fh δ with
  |none=>rw[e2,e3]at q;cases q
  |some u=>
  rw[e2,e3]at q
  cases q
  refine⟨B,δ,_,hB,S,e1,fun v H1 s1 r1=>⟨B,δ,l,hB.mono s1,S.mono s1,e2,fun H2 s2=>⟨B,δ,u,(hB.mono s1).mono s2,(S.mono s1).mono s2,e3,fun H3 s3=>?_⟩⟩⟩
  obtain⟨a,xs,rfl,hq,rs⟩:=get v H1 r1
  refine⟨a,xs,rfl,hq H3 (s2.trans s3),fun p hp=>?_⟩
  have sa:=z0q (o:=.lst (cutV xs l u)) hp
  refine k p _ _ (((s1.trans s2).trans s3).trans sa) ((s1.trans (s2.trans s3)).free hp) z0r ?_
  unfold z7s cutV
  rw[rs.length]
  exact((rs.drop _).take _).mono ((s2.trans s3).trans sa)
 split at q
 case h_3=>cases q
 case h_1 ds e1=>
  refine core _ ds e1 q fun v H1 r1=>?_
  unfold Rep at r1
  obtain⟨a,xs,rfl,_,hq,rs⟩:=r1
  exact⟨a,xs,rfl,fun H2 s2=>SqL.of (s2 _ _ hq),rs⟩
 case h_2 ns e1=>
  refine core _ (ns.map .int) e1 q fun v H1 r1=>?_
  unfold Rep at r1
  obtain⟨a,rfl,hq⟩:=r1
  exact⟨a,_,rfl,fun H2 s2=>(s2.sf hq).sq,z2E ns⟩
end
section
variable{X:Cx}{pos:Pos}{x:Str}{iter elt:Expr}{N':List Str}{sc:fB}{ifs:List Expr}{n:Nat}{px:Pos}{fi:DS->Option (List D)}{fc:DS->Option Bool}{fe:DE}
theorem x2Z{σ:St}{H:Hp}{Q:VK}(hσ:σ.length=n)(hq:tN X.K (mkL (z1v fi fc fe)) σ H Q):y7F (tI X.K fi) (z2W n) (tT X.K fc) (tN X.K fe) 1 σ H Q:=by
 obtain⟨δ,d0,Sδ,q,k⟩:=hq
 unfold mkL at q
 cases eds:z1v fi fc fe δ with
 |none=>rw[eds]at q;cases q
 |some ds=>
 rw[eds]at q
 cases q
 unfold z1v at eds
 cases e1:fi δ with
 |none=>rw[e1]at eds;cases eds
 |some xs=>
 rw[e1]at eds
 have q1:(if xs.length≤sizeLine then z1B (fun x=>(fc (δ++[some x])).bind fun k=>if k=true then(fe (δ++[some x])).map some else some none) xs else none)=some ds:=eds
 split at q1
 case isFalse=>cases q1
 case isTrue hsz=>
 refine⟨noB,δ,xs,.no,Sδ,e1,fun J H1 s1 itw=>fun Da hD=>?_⟩
 have hD0:H Da=none:=s1.free hD
 have it:=itw (fun a=>H1 a=none) fun a ha=>ha
 refine⟨fun i m σ' H'=>m=xs.length - i∧i≤xs.length∧(∃w,σ'=σ++[w])∧Same H1 H'∧∃ys dn rs A,H' Da=some (.lst ys)∧Trees X.K H' dn ys A∧(Da::A).Nodup∧(∀a∈A,H1 a=none)∧ds=dn++rs∧dn.length≤i ∧
  z1B (fun x=>(fc (δ++[some x])).bind fun k=>if k=true then(fe (δ++[some x])).map some else some none) (xs.drop i)=some rs,
  ⟨xs.length,by simp,bg _,⟨none,rfl⟩,z0q hD,[],[],ds,[],z0r,.nil,ay.mpr ⟨(fun z=>nomatch z),bh⟩,(fun a z=>nomatch z),rfl,ao _,q1⟩,?_⟩
 rintro i m σ' H' ⟨rfl,hi',⟨w,rfl⟩,sm,ys,dn,rs,A,hys,tys,nd,fr,hds,hln,hrs⟩
 have kp:Keep X.K (fun a=>noB a∨H1 a=none) H1 H':=.same sm
 by_cases hlt:i<xs.length
 ·refine .inr ⟨it.go i H' kp hlt,fun σ'' H''=>(i+1≤xs.length∧(∃w,σ''=σ++[w])∧Same H1 H''∧∃ys dn rs A,H'' Da=some (.lst ys)∧Trees X.K H'' dn ys A∧(Da::A).Nodup∧(∀a∈A,H1 a=none)∧ds=dn++rs∧dn.length≤i+1 ∧
   z1B (fun x=>(fc (δ++[some x])).bind fun k=>if k=true then(fe (δ++[some x])).map some else some none) (xs.drop (i+1))=some rs),fun σ'' H'' h=>⟨xs.length - (i+1),by omega,rfl,h⟩,fun xv H2 hy=>?_⟩
  obtain⟨s2,d,hd,rd⟩:=it.yld i H' xv H2 kp hy
  have hdi:=hd hlt
  have hx:xs.drop i=d::xs.drop (i+1):=by
   obtain⟨hl,e⟩:=aU.mp hdi
   rw[bn hl,e]
  rw[hx]at hrs
  obtain⟨o,rs',e2,e3,e4⟩:=z6S hrs
  show tT X.K fc ((σ++[w]).set n (some xv)) H2 _
  rw[←hσ,z7X]
  have S2:RepS X.K H2 noB (σ++[some xv]) (δ++[some d]):=(((Sδ.mono s1).mono sm).mono s2).snoc (rd.anti fun a z=>z.elim)
  have hl2:ys.length<sizeLine:=by
   have:=tys.length
   omega
  cases ec:fc (δ++[some d])with
  |none=>rw[ec]at e2;cases e2
  |some kk=>
   rw[ec]at e2
   have e2':(if kk=true then(fe (δ++[some d])).map some else some none)=some o:=e2
   refine⟨noB,δ++[some d],kk,.no,S2,ec,fun H3 s3=>?_⟩
   cases kk with
   |false=>
    rw[if_neg aj]at e2'
    rw[if_neg aj]
    cases e2'
    exact⟨hlt,⟨_,rfl⟩,(sm.trans s2).trans s3,ys,dn,rs',A,s3 _ _ (s2 _ _ hys),(tys.mono s2).mono s3,nd,fr,by rw[hds,e4];rfl,dE hln,e3⟩
   |true=>
    rw[if_pos rfl]at e2'
    rw[if_pos rfl]
    cases ey:fe (δ++[some d])with
    |none=>rw[ey]at e2';cases e2'
    |some y=>
     rw[ey]at e2'
     cases e2'
     refine⟨δ++[some d],y,S2.mono s3,ey,fun yv H5 A5 s5 t5 nd5 fr5=>⟨ys,s5 _ _ (s3 _ _ (s2 _ _ hys)),hl2,?_⟩⟩
     have s15:Same H' H5:=(s2.trans s3).trans s5
     have hu:H5 Da=some (.lst ys):=s15 _ _ hys
     have mu:Mut (H5 Da):=by rw[hu];exact trivial
     have hDa3:H3 Da=some (.lst ys):=s3 _ _ (s2 _ _ hys)
     have nDa:Da∉A++A5:=fun z=>by
      rcases au.mp z with z | z
      ·exact(ay.mp nd).1 z
      ·have:=fr5 Da z
       rw[hDa3]at this;cases this
     refine⟨hlt,⟨_,rfl⟩,fun b u hb=>?_,ys++[yv],dn++[y],rs',A++A5,z0r,?_,ay.mpr ⟨nDa,?_⟩,fun a ha=>?_,by rw[hds,e4,aK];rfl,by rw[aC];simp;omega,e3⟩
     ·rw[z0I (z1r hb hD)]
      exact s15 _ _ (sm _ _ hb)
     ·refine Trees.keep (Keep.upd (K:=X.K) (B:=fun x=>x=Da) rfl mu).i _ ((tys.mono s15).snoc t5) fun b hb u q=>?_
      have ne:b≠Da:=fun z=>nDa (z ▸ hb)
      rw[z0I ne];exact q
     ·refine bb.mpr ⟨(ay.mp nd).2,nd5,fun b hb c hc z=>?_⟩
      subst z
      obtain⟨u,q,_⟩:=Trees.held _ tys b hb
      have:=fr5 b hc
      rw[(s2.trans s3) _ _ q]at this;cases this
     ·rcases au.mp ha with z | z
      ·exact fr a z
      ·exact sm.free ((s2.trans s3).free (fr5 a z))
 ·have e:i=xs.length:=by omega
  subst e
  refine .inl ⟨it.stop _ H' kp (ao _),?_⟩
  rw[cB]at hrs
  cases hrs
  rw[aH]at hds
  subst hds
  refine k (.ref Da) H' (Da::A) (s1.trans sm) ?_ nd fun a ha=>?_
  ·unfold Tree
   exact⟨Da,ys,A,rfl,hys,tys,rfl⟩
  ·rcases ah.mp ha with z | z
   ·rw[z];exact hD0
   ·exact s1.free (fr a z)
theorem y0O(hc:X.calm=true)(S:CompScope X.N X.env.scope.names N' 1 sc)(hn:n=X.N.length)(hi:PID X (.Name x px) iter fi)
  (hg:∀s H fp pins E,PG (z0A X N' sc s H fp pins E) (.Name x px) (z2W n)) (ht:∀s H fp pins E,y8q (z0A X N' sc s H fp pins E) ifs (tT X.K fc)) (he:∀s H fp pins E,PE (z0A X N' sc s H fp pins E) elt (tN X.K fe))
  (hs:∀x,foldedSetIterable iter X.env x=pure x:=by intro _;rfl):PN X (.ListComp elt [⟨.Name x px,iter,ifs,0⟩] sc pos) (mkL (z1v fi fc fe)):=by
 intro pins s σ H Q I hq
 exact y3J hc S hi ⟨hg,ht,he⟩ hs pins s σ H Q I (x2Z (by rw[hn,I.len]) hq)
end
section
variable{X:Cx}{a b:Expr}{pos:Pos}{f g:DE}
def y6M:D->D->Option D:=iop fun i j=>some (.int (i+j))
def subI:D->D->Option D:=iop fun i j=>some (.int (i - j))
def mulI:D->D->Option D:=iop fun i j=>if CMul i j then some (.int (i*j))else none
def divI:D->D->Option D:=iop fun i j=>if CDiv i j then some (.int (i / j))else none
def y2c:D->D->Option D:=iop fun i j=>if 0<j then some (.int (i % j))else none
def powI:D->D->Option D:=iop fun i j=>if CPow i j then some (.int (i ^ j.toNat))else none
def ltI:D->D->Option D:=iop fun i j=>some (.bl (decide (i<j)))
def leI:D->D->Option D:=iop fun i j=>some (.bl (decide (i≤j)))
def gtI:D->D->Option D:=iop fun i j=>some (.bl (decide (j<i)))
theorem z3P(ha:PD X a f)(hb:PD X b g):PD X (.BinOp a .Add b pos) (d2 y6M f g):=y7i op_add y8z ha hb
theorem y5n(ha:PD X a f)(hb:PD X b g):PD X (.BinOp a .Sub b pos) (d2 subI f g):=y7i op_sub y8z ha hb
theorem pd_mul(ha:PD X a f)(hb:PD X b g):PD X (.BinOp a .Mult b pos) (d2 mulI f g):=y7i op_mul y5y ha hb
theorem x4R(ha:PD X a f)(hb:PD X b g):PD X (.BinOp a .FloorDiv b pos) (d2 divI f g):=y7i op_fdiv y5y ha hb
theorem z7v(ha:PD X a f)(hb:PD X b g):PD X (.BinOp a .Mod b pos) (d2 y2c f g):=y7i op_mod y5y ha hb
theorem x5l(ha:PD X a f)(hb:PD X b g):PD X (.BinOp a .Pow b pos) (d2 powI f g):=y7i op_pow y5y ha hb
theorem pd_lt(ha:PD X a f)(hb:PD X b g):PD X (.Compare a [.Lt] [b] pos) (d2 ltI f g):=y5C op_lt z4W ha hb (z7w _)
theorem pd_gt(ha:PD X a f)(hb:PD X b g):PD X (.Compare a [.Gt] [b] pos) (d2 gtI f g):=y5C op_gt z4W ha hb (z7w _)
theorem pd_eq(hu:X.A.units+64<cLine)(ha:PD X a f)(hb:PD X b g):PD X (.Compare a [.Eq] [b] pos) (d2 eqD f g):=y5C (x4r hu) o2_eq ha hb (z7w _)
theorem pd_ne(hu:X.A.units+64<cLine)(ha:PD X a f)(hb:PD X b g):PD X (.Compare a [.NotEq] [b] pos) (d2 neD f g):=y5C (x5i hu) o2_ne ha hb (z7w _)
theorem pt_lt(ha:PD X a f)(hb:PD X b g):PTD X (.Compare a [.Lt] [b] pos) (z0F (d2 ltI f g)):=z7e op_lt z4W ha hb (z7w _)
theorem pt_gt(ha:PD X a f)(hb:PD X b g):PTD X (.Compare a [.Gt] [b] pos) (z0F (d2 gtI f g)):=z7e op_gt z4W ha hb (z7w _)
theorem z3w(hu:X.A.units+64<cLine)(ha:PD X a f)(hb:PD X b g):PTD X (.Compare a [.Eq] [b] pos) (z0F (d2 eqD f g)):=z7e (x4r hu) o2_eq ha hb (z7w _)
theorem x2s(hu:X.A.units+64<cLine)(ha:PD X a f)(hb:PD X b g):PTD X (.Compare a [.NotEq] [b] pos) (z0F (d2 neD f g)):=z7e (x5i hu) o2_ne ha hb (z7w _)
theorem x3V(hu:X.A.units+64<cLine)(ha:PD X a f)(hb:PD X b g)(hm:ft .In b=false:=by rfl):PTD X (.Compare a [.In] [b] pos) (z0F (d2 inD f g)):=z7e (op_inD hu) o2_in ha hb hm
theorem z8v(hu:X.A.units+64<cLine)(ha:PD X a f)(hb:PD X b g)(hm:ft .NotIn b=false:=by rfl):PTD X (.Compare a [.NotIn] [b] pos) (z0F (d2 y3B f g)):=z7e (op_ninD hu) o2_nin ha hb hm
end
def y3P(H:Hp)(A:List Addr):Hp:=fun a=>if a∈A then none else H a
theorem y5L{H:Hp}{A:List Addr}{a:Addr}(h:a∈A):y3P H A a=none:=if_pos h
theorem z8o{H:Hp}{A:List Addr}{a:Addr}(h:a∉A):y3P H A a=H a:=if_neg h
theorem y7o{H:Hp}{A:List Addr}:Same (y3P H A) H:=fun a o e=>by
 by_cases h:a∈A
 ·rw[y5L h]at e;cases e
 ·rw[z8o h]at e;exact e
section
end
section
end
def x3K(K:aa)(F:List D->Option D):Sp:=fun vs H Q _=>∃(a:Addr) (ns:List Int),vs=[.ref a]∧SqF K H a (ns.map V.int)∧F [.scr ns]=some (.bl true)∧∀H',Q (.bl true) H'
theorem x4a{K:aa}{H:Hp}{a:Addr}{xs:List V}(hO:Only H)(h:SqL K H a xs):SqF K H a xs:=by
 rcases h with (h | h) | h
 ·rcases hO a with z | ⟨o,ys,z⟩ <;> (rw[h]at z;cases z)
 ·exact .inl h
 ·exact .inr h
theorem law_of{P:dw}{w:fm}{K:aa}{mg:Str->Option Value}{base:Heap}{k:Nat}{f:Addr}{fd:fq}{ps:List Str}{F:List D->Option D}(h:FnOk P w K mg base CX0 k f fd ps (spN K F)):FnOk P w K mg base CX0 k f fd ps (x3K K F):=by
 refine h.imp fun vs H Q E z=>?_
 obtain⟨a,ns,rfl,hq,e,q⟩:=z
 refine⟨[.scr ns],.bl true,.cons ?_ .nil,e,fun v H' A s t nd fr=>?_⟩
 ·unfold Rep
  exact⟨a,rfl,hq⟩
 ·cases (show v=V.bl true∧_ from t).1
  exact q H'
section
variable{X:Cx}{H0:Hp}{B0:Addr->Prop}{fr:Bool}{RX:XR}{e e2:Expr}{pos ap cp:Pos}{x:Str}{px:Pos}{f:DE}
def y8b(i:Nat)(f:DE):SS->Option Out:=fun δ=>(f (z0D δ)).bind fun d=>(match δ[i]? with
 |some (some (.ow (.lst ds)))=>(y3z ds [d]).map fun ds'=>.nx ((z0S i δ).set i (some (.ow (.lst ds'))))
 |_=>none)
theorem y2V{i:Nat}(hx:PE X (.Name x px) (y7r i))(he:PN X e f)(hbase:fx (.Name x px) "append" X.env (eval (.Name x px) X.env)=eval (.Name x px) X.env:=by rfl)
  (hfew:((fw cp (starEach [e] X.env)).all (fun x=>!x.1)&&(backToKw cp (keywordEach [] X.env)).all (fun x=>x.1.isSome)&&decide ([e].length+([]:List fA).length+(if([]:List fA).isEmpty then 0 else 1)<30))=true:=by rfl)
  (hline:(ap.endLine==cp.line)=true:=by rfl) (hs:starEach [e] X.env=(false,eval e X.env)::starEach [] X.env:=by rfl) (hsw:swapsWith (.Call (.Attribute (.Name x px) "append" ap) [e] [] cp) none pos.line X.env=pure false:=by rfl):
  PS X (.Expr (.Call (.Attribute (.Name x px) "append" ap) [e] [] cp) pos) (tS X.K H0 B0 fr RX (y8b i f)):=
 PS.imp (z6U (y8Q PySem.F.plainAttrs_list PySem.F.slot_list_append PySem.F.type_list_append z3h hx (z1y he pa_nil hs) hbase hfew hline hs rfl) hsw) fun D σ H ⟨δ,R,o,rs,q,k⟩=>by
  unfold y8b at q
  cases e1:f (z0D δ)with
  |none=>rw[e1]at q;cases q
  |some d=>
  rw[e1]at q
  simp only[aA]at q
  split at q
  case h_2=>cases q
  case h_1=>
  rename_i ds ei
  cases e2:y3z ds [d]with
  |none=>rw[e2]at q;cases q
  |some ds'=>
  rw[e2]at q
  cases q
  obtain⟨a,xs,A,ev,ha,ts,eR,nd⟩:=rs.top ei
  refine⟨.ref a,ev,.inl ⟨rfl,xs,SqL.of ha⟩,z0D δ,d,rs.all,e1,fun y H2 C s2 t2 nC fC=>?_⟩
  show y4G (.ref a) [y] H2 fun _ H1=>D.nx σ H1
  refine z4z (K:=X.K) H2 a xs ds [d] [y] ds' _ (s2 _ _ ha) ts.length (.one (t2.rep d (fun _ _ z=>z.elim))) e2 fun w xs' up=>?_
  obtain⟨A',t',n',sub⟩:=up H2 A C (ts.mono s2) (.one t2)
  have hAC:(A++C).Nodup:=bb.mpr ⟨(ay.mp nd).2,nC,fun b hb c hc z=>by
   subst z
   obtain⟨u,q,_⟩:=Trees.held ds ts b hb
   rw[fC b hc]at q;cases q⟩
  have P:=rs.put0 s2 ei ev eR nd t' (n' hAC) fun b hb=>(sub b hb).imp id fun z=>fC b z
  exact k σ _ _ P.1 P.2
end
open PySem.MeetsSeq PySem.MeetsSeq2 PySem.MeetsSeq3 PySem.SeqRoads2 PySem.SeqAt
open PySem.AutoSeq1 (wpAny_loadPart')
theorem z8P{M:Model}{A:Around}{E:Value->Shared->Prop}{s:Shared}{β:Type}(f:Nat->β->Sem (ForInStep β))(I:List Nat->β->Shared->Prop)(Q:β->Shared->Prop)
  (turn:∀x rest b s,I (x::rest) b s->wpAny M A (f x b) (fun r s'=>match r with | .yield b'=>I rest b' s' | .done b'=>Q b' s') E s)
  (fin:∀b s,I [] b s->Q b s) (lo hi:Nat) (b:β) (h:I (cc lo (hi - lo)) b s):wpAny M A (forIn ([lo:hi]:Std.Legacy.Range) b f) Q E s:=by
 rw[Std.Legacy.Range.forIn_eq_forIn_range']
 have hsz:([lo:hi]:Std.Legacy.Range).size=hi - lo:=by simp[Std.Legacy.Range.size]
 show wpAny M A (forIn (cc lo ([lo:hi]:Std.Legacy.Range).size 1) b f) Q E s
 rw[hsz]
 exact wpAny_forIn_list f I Q turn fin _ b h
theorem y1e(l:Addr)(items:Array Value)(n:Nat)(dd:Option Addr)(sl:Array (Option Value))(x:Value)(e:Value->Bool)(j:Nat)(hj:j<items.size)(hit:e items[j]=true)(hno:∀m (hm:m<items.size),m<j->e items[m]=false):
  Meets (Builtin.«tuple.index» ⟨[.ref l,x],[]⟩)
   (fun A R s=>s.heap.get? l=some { cls:=.type "tuple",dict:=dd,data:=.seq items n,slots:=sl }∧(∀y,y∈items->EqAt A.in1 s y x (e y))∧R (.ok (.ret (.int j s.toks))) { s with toks:=s.toks+1 }):=
 .of_wp fun prog w A R s h=>by
  obtain⟨hp,g,d,tk,os⟩:=s;obtain⟨hl,he,h⟩:=h
  wp_walk using wpAny_loadPart' hl,z8P _ (fun rest b s'=>b.1=none∧s'=⟨hp,g,d,tk,os⟩∧∃i,i≤j∧rest=cc i (items.size - i)) _
  case turn=>
   rintro y rest b s' ⟨hb,rfl,i,hi,hr⟩
   have e1:items.size - i=(items.size - (i+1))+1:=by omega
   rw[e1,List.range'_succ]at hr
   have h1:i=y:=(List.cons.inj hr).1.symm
   have h2:=(List.cons.inj hr).2
   subst h1
   have hlt:i<items.size:=by omega
   rw[aL hlt]
   refine wpAny_bind (he _ (Array.getElem_mem hlt) prog w _ _ ?_)
   by_cases hij:i=j
   ·subst hij
    rw[hit]
    wp_walk
    exact⟨_,rfl,h⟩
   ·rw[hno i hlt (by omega)]
    wp_walk
    exact⟨rfl,rfl,i+1,by omega,h2⟩
  case fin=>
   rintro⟨b1,b2⟩ s' ⟨hb,rfl,i,hi,hr⟩
   have:(cc i (items.size - i)).length=0:=by rw[←hr];rfl
   rw[List.length_range']at this
   omega
  case h=>
   exact⟨rfl,rfl,0,by omega,by simp⟩
section
variable{X:Cx}
theorem Inv.tupleO{pins:List (Addr×Obj)}{σ:St}{H:Hp}{s:Shared}{a:Addr}{xs:List V}(I:Inv X pins σ H s)(h:SqT X.K H a xs):∃(its:List Value) (ob:Obj) (n:Nat),Vals xs its∧s.heap.get? a=some ob∧ob.cls = .type "tuple" ∧ ob.dict=none∧ob.data = .seq its.toArray n∧xs.length≤sizeLine:=by
 rcases h with h | ⟨o,its,n,hk,hc,hs,hz,r⟩
 ·obtain⟨z,its,r,ob,e,c,n,hd⟩:=h.ok I.hok
  exact⟨its,ob,n,r,e,c.1,c.2,hd,z⟩
 ·refine⟨its.toList,o,n,r,I.kIn a o hk,hc.1,hc.2,by simpa using hs,?_⟩
  have e:=r.length
  simp only[bJ]at e
  omega
def tTM(K:aa)(r:V->List V->Hp->VK->Prop)(to:TE)(t:TA):TE:=fun σ H Q=>to σ H fun x H1=>(∃a xs,x = .ref a∧SqT K H1 a xs)∧t σ H1 fun xs H2=>r x xs H2 Q
variable{o e:Expr}{es:List Expr}{to:TE}{t:TA}{name:Str}{apos cpos:Pos}{id:String}{r:V->List V->Hp->VK->Prop}
theorem pe_tm(slot:Slot "tuple" name id)(hty:typeOf (.builtin id)=pure (.type "method_descriptor"))(hm:MtR X id r)(ho:PE X o to)(ha:PA X (e::es) t)
  (hbase:fx o name X.env (eval o X.env)=eval o X.env:=by rfl)
  (hfew:((fw cpos (starEach (e::es) X.env)).all (fun x=>!x.1)&&(backToKw cpos (keywordEach [] X.env)).all (fun x=>x.1.isSome)
   && decide ((e::es).length+([]:List fA).length+(if([]:List fA).isEmpty then 0 else 1)<30))=true:=by rfl)
  (hline:(apos.endLine==cpos.line)=true:=by rfl) (hs:starEach (e::es) X.env=(false,eval e X.env)::starEach es X.env:=by rfl) (hplain:(fw cpos (starEach es X.env)).any (·.1)=false:=by rfl):
  PE X (.Call (.Attribute o name apos) (e::es) [] cpos) (tTM X.K r to t):=by
 intro pins s σ H Q I h
 refine wpAny_Call_method_late hbase hfew hline rfl (thn (ho pins s σ H _ I h) fun v s1 ⟨x,H1,I1,r1,⟨a,ys,ex,ty⟩,q1⟩=>?_)
 subst ex
 cases r1
 obtain⟨its,ob,n,_,e1,c1,d1,_⟩:=I1.tupleO ty
 refine⟨"tuple",id,PySem.F.plainAttrs_tuple,slot,hty,⟨ob,e1,c1⟩,fun a e=>(by cases e;exact⟨ob,e1,d1⟩),?_⟩
 have hA:=ha cpos pins s1 σ H1 _ I1 q1
 rw[hs]at hA ⊢
 refine Calls.callWith_builtin (by show(false||(fw cpos (starEach es X.env)).any (·.1))=false;rw[hplain] <;> rfl) (Calls.evalArgs_plain ?_)
 exact thn hA fun us s2 ⟨vs,H2,I2,r2,q2⟩=>hm pins s2 σ H2 (.ref a) vs (.ref a) us Q I2 rfl r2 q2
def rTIx(K:aa):V->List V->Hp->VK->Prop:=fun x vs H Q=>∃(a:Addr) (ns:List Int) (i:Int) (j:Nat),x = .ref a∧vs=[.int i]∧SqT K H a (ns.map V.int)∧ns.findIdx? (fun n=>n==i)=some j∧Q (.int (j:Int)) H
theorem y4F:∀{ns:List Int} {its:List Value},Vals (ns.map V.int) its->∀(k:Nat) (h:k<its.length),∃t,∃h2:k<ns.length,its[k] = .int ns[k] t
 |[],_,.nil,_,h=>by simp at h
 |n::ns,_,.cons r t,k,h=>by
  obtain⟨u,rfl⟩:=r
  cases k with
  |zero=>exact⟨u,by simp,rfl⟩
  |succ k=>
   obtain⟨w,h2,e⟩:=y4F t k (by simpa using h)
   exact⟨w,by simpa using h2,by simpa using e⟩
def isI(i:Int):Value->Bool
 |.int k _=>k==i
 |_=>false
theorem y9D:MtR X "tuple.index" (rTIx X.K):=by
 intro pins s σ H x vs v us Q I rx rv h
 obtain⟨a,ns,i,j,rfl,rfl,hq,hj,q⟩:=h
 cases rx
 obtain⟨u,rfl,ru⟩:=rv.one
 obtain⟨ut,rfl⟩:=ru
 obtain⟨its,⟨cls,dct,dat,sl⟩,n,r,e,c,d,hd,_⟩:=I.tupleO hq
 subst c;subst hd
 obtain⟨hjl,hji,hjm⟩:=ci.mp hj
 have hl:ns.length=its.length:=by have:=r.length;simpa using this
 have hj2:j<its.length:=by omega
 refine call_meets F.slot_tuple_index ⟨_,e,rfl⟩ F.entry_tuple_index (F.args_tuple_index_2 _ _) (y1e a its.toArray n dct sl (.int i ut) (isI i) j (by simpa using hj2) ?_ ?_) ⟨e,?_,?_⟩
 ·obtain⟨t,h2,e2⟩:=y4F r j hj2
  simp[e2,isI]
  simpa using hji
 ·intro m hm hmj
  obtain⟨t,h2,e2⟩:=y4F r m (by omega)
  have:=hjm m hmj
  simp[e2,isI]
  simpa using this
 ·intro y hy
  obtain⟨k,hk,rfl⟩:=eV (show y∈its by simpa using hy)
  obtain⟨t,h2,e2⟩:=y4F r k hk
  rw[e2]
  exact SeqAt.EqAt.int_int _ _ _ _
 ·exact⟨.int (j:Int),H,I.tok _,⟨_,rfl⟩,q⟩
theorem z9b:∀{ds:List D} {ns:List Int},z1O ds=some ns->ds=ns.map D.int
 |[],ns,h=>by cases h;rfl
 |.int i::r,ns,h=>by
  unfold z1O at h
  cases e:z1O r with
  |none=>rw[e]at h;cases h
  |some ms=>rw[e]at h;cases h;rw[aF,z9b e]
 |.non::_,_,h=>by cases h
 |.bl _::_,_,h=>by cases h
 |.str _::_,_,h=>by cases h
 |.lst _::_,_,h=>by cases h
 |.tup _::_,_,h=>by cases h
 |.scr _::_,_,h=>by cases h
 |.dct _ _::_,_,h=>by cases h
 |.exc _::_,_,h=>by cases h
 |.obj _ _ _ _::_,_,h=>by cases h
 |.cel _ _::_,_,h=>by cases h
theorem y1f{K:aa}{H:Hp}{B:Addr->Prop}:∀{ns:List Int} {xs:List V},Reps K H B (ns.map D.int) xs->xs=ns.map V.int
 |[],_,h=>by unfold Reps at h;exact h
 |n::ns,_,h=>by
  rw[aF]at h
  unfold Reps at h
  obtain⟨x,r,rfl,h1,h2⟩:=h
  unfold Rep at h1
  rw[h1,y1f h2]
  rfl
def tixF:D->D->Option D
 |.tup ds,.int i=>(z1O ds).bind fun ns=>(ns.findIdx? (fun n=>n==i)).map fun j=>.int (j:Int)
 |_,_=>none
theorem z6r{f g:DE}(ho:PD X o f)(he:PD X e g)(hbase:fx o "index" X.env (eval o X.env)=eval o X.env:=by rfl)
  (hfew:((fw cpos (starEach [e] X.env)).all (fun x=>!x.1)&&(backToKw cpos (keywordEach [] X.env)).all (fun x=>x.1.isSome)&&decide ([e].length+([]:List fA).length+(if([]:List fA).isEmpty then 0 else 1)<30))=true:=by rfl)
  (hline:(apos.endLine==cpos.line)=true:=by rfl) (hs:starEach [e] X.env=(false,eval e X.env)::starEach [] X.env:=by rfl):
  PD X (.Call (.Attribute o "index" apos) [e] [] cpos) (d2 tixF f g):=
 (pe_tm PySem.F.slot_tuple_index PySem.F.type_tuple_index y9D ho (z1y he pa_nil hs) hbase hfew hline hs rfl).imp fun σ H Q ⟨B,δ,d,hB,S,q,k⟩=>by
  obtain⟨x,y,e1,e2,e3⟩:=z8m q
  unfold tixF at e3
  split at e3
  case h_2=>cases e3
  case h_1 ds i=>
  cases e4:z1O ds with
  |none=>rw[e4]at e3;cases e3
  |some ns=>
  rw[e4,aA]at e3
  cases e5:ns.findIdx? (fun n=>n==i)with
  |none=>rw[e5]at e3;cases e3
  |some j=>
  rw[e5]at e3
  cases e3
  have eds:=z9b e4
  subst eds
  refine⟨B,δ,_,hB,S,e1,fun v H1 s1 r1=>?_⟩
  unfold Rep at r1
  obtain⟨a,xs,rfl,hq,rs⟩:=r1
  have ex:=y1f rs
  subst ex
  refine⟨⟨a,_,rfl,hq⟩,B,δ,_,hB.mono s1,S.mono s1,e2,fun v2 H2 s2 r2=>?_⟩
  unfold Rep at r2
  subst r2
  exact⟨a,ns,i,j,rfl,rfl,s2.tup hq,e5,k _ H2 (s1.trans s2) (by unfold Rep;rfl)⟩
end
open PySem.AutoSeq1 (wpAny_loadPart')
section
end
section
variable{X:Cx}
theorem s_never{H0:Hp}{B0:Addr->Prop}{fr:Bool}{RX:XR}{st:Stmt}:PS X st (tS X.K H0 B0 fr RX fun _=>none):=fun _ _ _ _ _ _ ⟨_,_,_,_,e,_⟩=>nomatch e
end
section
variable{X:Cx}{pins:List (Addr×Obj)}{σ:St}{H:Hp}{s:Shared}{h':Heap}
theorem Inv.turnedL{t':Nat}{fp:List Addr}(I:Inv X pins σ H s)(k:∀b o,b∉fp->s.heap.get? b=some o->h'.get? b=some o)(hf:∀b∈fp,y2k X pins H b):Inv X pins σ H { s with heap:=h',toks:=t' }:=by
 have nit:∀b u,H b=some u->b∉fp:=fun b u e z=>by rw[(hf b z).1]at e;cases e
 have nL:X.env.locals∉fp:=fun z=>(hf _ z).2.1 rfl
 refine I.step (g':=s.gens) (d':=s.drawn) (ch:=fp) (fun b hb=>?_) (fun b o _ _ hc e _=>k b o hc e) (fun b o _ _ hc e _=>⟨o.slots,k b o hc e⟩) (fun _ _ _ _ n=>n)
  (fun b o hc e=>⟨o,k b o hc e⟩) (fun _ _ e=>e) (fun _ _ _ e=>e) (fun b ps e=>⟨#[],by rw[e];simp⟩) (fun m hm=>?_) (fun b u e=>?_) I.bare
 ·obtain⟨f0,f1,f2,f3,f4,f5⟩:=hf b hb
  exact⟨f3,f1,f4,f5⟩
 ·obtain⟨o,es,ep,ho,r⟩:=hm
  exact⟨o,es,ep,k _ o nL ho,r⟩
 ·refine(I.hok b u e).stay (fun c v hc q=>k c v ?_ q) (fun _ q=>q) fun _ _ q=>q
  rcases hc with z | z
  ·rw[z];exact nit b u e
  ·exact nit c _ z
def Ite(K:aa)(a:Addr):It:=
 ⟨fun i H=>∃xs x,SqL K H a xs∧xs[i]? = some x,fun i H v H'=>∃p x,H p=none∧v = .ref p∧H'=upd H p (.tup [.int (i:Nat),x])∧∀xs,SqL K H a xs->xs[i]? = some x,fun i H=>∃xs,SqL K H a xs∧xs.length≤i⟩
theorem x1o{P:dw}{w:fm}{K:aa}{elts:List Expr}{x1}{tp:Pos}(a e it:Addr)(hne:e≠it):
  Turn P w K (.Tuple elts x1 tp) (Ite K a) [e,it] e (fun i h=>(∃old,IsEnum h e it ((i:Nat):Int) old)∧h.IsListIter it a i) where
 mem:=by simp
 obj:=fun i h st b hb=>by
  obtain⟨⟨old,he⟩,o,eo,c,d⟩:=st
  rcases ah.mp hb with z | z
  ·subst z
   exact⟨_,he,fun v z=>by cases z⟩
  ·have z:b=it:=by simpa using z
   subst z
   exact⟨o,eo,fun v z=>by rw[d]at z;cases z⟩
 keep:=fun i h h' st k=>by
  obtain⟨⟨old,he⟩,hi⟩:=st
  exact⟨⟨old,k e (by simp) _ he⟩,hi.at fun o q=>k it (by simp) o q⟩
 item:=by
  intro X hP hw hK hc i pins s σ H E I hf st hg
  subst hP hw hK
  obtain⟨xs,x,hq,hx⟩:=hg
  obtain⟨its,rv,p,hz⟩:=I.list hq
  obtain⟨u,hu,ru⟩:=rv.get hx
  obtain⟨⟨old,he⟩,hi⟩:=st
  refine wpAny_pyNext_enum_item he hi p.isList (x:=u) (by simpa using hu) hne fun h1 heo hi1 ht1 hz1 hk1=>⟨_,rfl,?_⟩
  refine wpAny_letOwnedTupleGo_enum heo fun h2 he2 hs2=>?_
  have hs2:Heap.SameBut e h1 h2:=hs2
  have elt:e<s.heap.objs.size:=Heap.lt_size he
  obtain⟨oi,eoi,_⟩:=id hi
  have ilt:it<s.heap.objs.size:=Heap.lt_size eoi
  have hp:H s.heap.objs.size=none:=I.hok.fresh (ao _)
  have I1:Inv X pins σ (upd H s.heap.objs.size (.tup [.int (i:Nat),x])) { s with heap:=s.heap.push { cls:=.type "tuple",data:=.seq #[.int (i:Nat) s.toks,u] },toks:=s.toks+1 }:=
   I.laid (fun b o q=>Heap.get?_push_of_some _ q) (ao _) (show ObjOk X.prog X.w _ _ _ (.tup [.int (i:Nat),x]) from⟨by show 2≤sizeLine;rw[sizeLine_eq];decide,[.int (i:Nat) s.toks,u],.cons ⟨_,rfl⟩ (.cons ru .nil),TupN.new _ _⟩)
  have hf1:∀b∈[e,it],y2k X pins (upd H s.heap.objs.size (.tup [.int (i:Nat),x])) b:=fun b hb=>by
   obtain⟨f0,f⟩:=hf b hb
   refine⟨?_,f⟩
   have:b≠s.heap.objs.size:=by
    rcases ah.mp hb with z | z
    ·rw[z];exact az elt
    ·have z:b=it:=by simpa using z
     rw[z];exact az ilt
   rw[z0I this]
   exact f0
  have kk:∀b o,b∉[e,it]->(s.heap.push { cls:=.type "tuple",data:=.seq #[.int (i:Nat) s.toks,u] }).get? b=some o->h2.get? b=some o:=by
   intro b o hb q
   have hbe:b≠e:=fun z=>hb (by simp[z])
   have hbi:b≠it:=fun z=>hb (by simp[z])
   rw[hs2.2 b hbe]
   by_cases hbs:b=s.heap.objs.size
   ·subst hbs
    rw[ht1]
    have:(s.heap.push { cls:=.type "tuple",data:=.seq #[.int (i:Nat) s.toks,u] }).get? s.heap.objs.size=some { cls:=.type "tuple",data:=.seq #[.int (i:Nat) s.toks,u] }:=Heap.get?_push_size _ rfl
    exact this.symm.trans q
   ·have q':s.heap.get? b=some o:=(Heap.get?_push_ne s.heap _ _ hbs).symm.trans q
    exact hk1 b o hbe hbi q'
  have I2:Inv X pins σ (upd H s.heap.objs.size (.tup [.int (i:Nat),x])) { s with heap:=h2,toks:=s.toks+1 }:=Inv.turnedL (s:={ s with heap:=s.heap.push { cls:=.type "tuple",data:=.seq #[.int (i:Nat) s.toks,u] },toks:=s.toks+1 }) (h':=h2) (t':=s.toks+1) (fp:=[e,it]) I1 kk hf1
  refine⟨.ref s.heap.objs.size,_,I2,rfl,⟨_,x,hp,rfl,rfl,fun ys hy=>by rw[I.list_inj hy hq];exact hx⟩,⟨⟨u,?_⟩,?_⟩,fun b hb=>(hf1 b hb).1⟩
  ·have:(((i+1:Nat):Int))=((i:Int)+1):=by omega
   rw[this]
   exact he2
  ·exact hi1.at fun o q=>(hs2.2 it (Ne.symm hne)).trans q
 done:=by
  intro X hP hw hK hc i pins s σ H E I hf st hg
  subst hP hw hK
  obtain⟨xs,hq,hx⟩:=hg
  obtain⟨its,rv,p,hz⟩:=I.list hq
  obtain⟨⟨old,he⟩,hi⟩:=st
  have hl:=rv.length
  exact wpAny_pyNext_enum_end (I.ok.hd hc) he hi p.isList (by simp;omega) fun h' eb=>⟨rfl,I.turnedL (t':=s.toks) (fp:=[e,it]) (fun b o hb q=>eb b o (fun z=>hb (by simp[z])) q) hf⟩
 self:=fun _ _ _ _ _ st h=>let⟨⟨_,he⟩,_⟩:=st;wpAny_pyIter_enum he h
def iEnum(K:aa)(tl:TE):TI:=fun σ H R=>tl σ H fun x H1=>∃a,[x]=[V.ref a]∧(∃xs,SqL K H1 a xs)∧R (Ite K a) H1
theorem pi_enum{elts:List Expr}{x1}{tp p pos:Pos}{l:Expr}{tl:TE}(hg:Gl X "enumerate")(hm:X.mg "enumerate" = none)(hl:PE X l tl)(hs:starEach [l] X.env=[(false,eval l X.env)]:=by rfl):
  PI X (.Tuple elts x1 tp) (.Call (.Name "enumerate" p) [l] [] pos) (iEnum X.K tl):=by
 intro pins s σ H R I h
 have hA:PA X [l] (fun σ H Q=>tl σ H fun x H1=>Q [x] H1):=(z1y hl pa_nil (by rw[hs];rfl)).imp fun σ H Q q=>q
 refine wpAny_Call_Name_kw (z4G I hg hm boot_enumerate (PyProof.Rows.callWith_type1 (thn (hA pos pins s σ H (fun vs H1=>∃a,vs=[V.ref a]∧(∃xs,SqL X.K H1 a xs)∧R (Ite X.K a) H1) I h) fun us s1 ⟨vs,H1,I1,r1,q1⟩=>?_) hs rfl))
 obtain⟨a,rfl,⟨xs,hq⟩,q⟩:=q1
 obtain⟨u,rfl,ru⟩:=r1.one
 cases ru
 obtain⟨its,rv,pl,hz⟩:=I1.list hq
 refine call_enumerate_list pl.isList fun h1 he hi hsz kp=>?_
 refine wpAny_pyIter_enum he ?_
 have I2:Inv X pins σ H1 { s1 with heap:=h1 }:=I1.kept (t':=s1.toks) kp
 refine⟨s1.heap.objs.size+1,[s1.heap.objs.size+1,s1.heap.objs.size],_,_,H1,rfl,I2,x1o a _ _ (Nat.succ_ne_self _),⟨⟨_,he⟩,hi⟩,fun b hb=>?_,q⟩
 have hb':s1.heap.objs.size≤b:=by
  rcases ah.mp hb with z | z
  ·rw[z];exact cH _
  ·have z:b=s1.heap.objs.size:=by simpa using z
   rw[z];exact ao _
 exact I1.fpOk hb' (I1.hok.fresh hb')
end
def z0t(k:Nat):List D->List D
 |[]=>[]
 |d::r=>.tup [.int (k:Nat),d]::z0t (k+1) r
theorem y5A:∀{ds:List D} {k i:Nat},(z0t k ds)[i]? = (ds[i]?).map fun d=>.tup [.int ((k+i:Nat):Int),d]
 |[],_,_=>by simp[z0t]
 |d::r,k,0=>by simp[z0t]
 |d::r,k,i+1=>by
  show(z0t (k+1) r)[i]? = (r[i]?).map _
  rw[y5A]
  congr 1
  funext d
  congr 3
  omega
theorem y0j:∀{ds:List D} {k:Nat},(z0t k ds).length=ds.length
 |[],_=>rfl
 |d::r,k=>by show(z0t (k+1) r).length+1=r.length+1;rw[y0j]
theorem y5P{K:aa}{H:Hp}{B:Addr->Prop}{a:Addr}{xs:List V}{ds:List D}(hs:∀H',Keep K B H H'->SqL K H' a xs)(r:Reps K H B ds xs):ItD K (Ite K a) H B (z0t 0 ds):=by
 have hl:=r.length
 refine⟨fun i H' kp hi=>?_,fun i H' kp hi=>?_,fun i H' v H2 kp hy=>?_⟩
 ·rw[y0j,hl]at hi
  exact⟨xs,xs[i],hs H' kp,ax hi⟩
 ·rw[y0j,hl]at hi
  exact⟨xs,hs H' kp,hi⟩
 ·obtain⟨p,x,hp,rfl,rfl,hx⟩:=hy
  have hx:=hx xs (hs H' kp)
  obtain⟨d,e,rd⟩:=(Reps.keep kp ds r).get' hx
  refine⟨z0q hp,.tup [.int (i:Nat),d],fun _=>by rw[y5A,e];simp,?_⟩
  unfold Rep
  exact⟨p,_,rfl,SqT.of z0r,.cons (by unfold Rep;rfl) (.one (rd.mono (z0q hp)))⟩
def y4T:D->Option (List D)
 |.lst ds=>some (z0t 0 ds)
 |.scr ns=>some (z0t 0 (ns.map .int))
 |_=>none
def y4r(f:DE):DS->Option (List D):=fun δ=>(f δ).bind y4T
section
variable{X:Cx}
theorem z7P{elts:List Expr}{x1}{tp p pos:Pos}{l:Expr}{f:DE}(hg:Gl X "enumerate")(hm:X.mg "enumerate" = none)(h:PD X l f)(hs:starEach [l] X.env=[(false,eval l X.env)]:=by rfl):
  PID X (.Tuple elts x1 tp) (.Call (.Name "enumerate" p) [l] [] pos) (y4r f):=(pi_enum hg hm h hs).imp fun σ H R ⟨B,δ,ds,hB,S,q,k⟩=>by
 unfold y4r at q
 cases e:f δ with
 |none=>rw[e]at q;cases q
 |some d=>
  rw[e]at q
  have q':y4T d=some ds:=q
  refine⟨B,δ,d,hB,S,e,fun v H1 s1 r1=>?_⟩
  unfold y4T at q'
  split at q'
  ·cases q'
   unfold Rep at r1
   obtain⟨a,xs,rfl,n,h,r⟩:=r1
   refine⟨a,rfl,⟨xs,SqL.of h⟩,k _ H1 s1 fun C hC=>?_⟩
   have na:¬ (B a∨C a):=fun z=>z.elim n fun z=>by rw[hC a z]at h;cases h
   exact y5P (xs:=xs) (fun H' kp=>SqL.of (kp.sl a xs na h)) (Reps.wide hC _ r)
  ·cases q'
   unfold Rep at r1
   obtain⟨a,rfl,h⟩:=r1
   exact⟨a,rfl,⟨_,h.sq⟩,k _ H1 s1 fun C hC=>y5P (fun H' kp=>(kp.sf a _ h).sq) (z2E _)⟩
  ·cases q'
def two(h:D->D->Option (Option D)):D->Option (Option D)
 |.tup [a,b]=>h a b
 |_=>none
def z4c(fc:DS->Option Bool)(fe:DE)(δ:DS):D->D->Option (Option D):=fun a b=>(fc (δ++[some a,some b])).bind fun k=>if k=true then(fe (δ++[some a,some b])).map some else some none
def z7z(fi:DS->Option (List D))(fc:DS->Option Bool)(fe:DE):DS->Option (List D):=fun δ=>(fi δ).bind fun xs=>if xs.length≤sizeLine then z1B (two (z4c fc fe δ)) xs else none
theorem x3w{h:D->D->Option (Option D)}{d:D}{o:Option D}(e:two h d=some o):∃a b,d = .tup [a,b]∧h a b=some o:=by
 unfold two at e
 split at e
 ·exact⟨_,_,rfl,e⟩
 ·cases e
theorem y2b{v1 v2 w1 w2:Option V}:∀{σ:St},((σ++[w1,w2]).set σ.length v1).set (σ.length+1) v2=σ++[v1,v2]
 |[]=>rfl
 |x::r=>congrArg (x :: ·) (y2b (σ:=r))
theorem RepS.snoc2{K:aa}{H:Hp}{B:Addr->Prop}{σ:St}{δ:DS}{d e:D}{v w:V}(S:RepS K H B σ δ)(r:Rep K H B d v)(r':Rep K H B e w):RepS K H B (σ++[some v,some w]) (δ++[some d,some e]):=by
 have:=(S.snoc r).snoc r'
 rw[aK,aK]at this
 exact this
variable{N':List Str}{sc:fB}{iter elt:Expr}{ifs:List Expr}{n:Nat}{x y:Str}{px py tp pos:Pos}{x1:Nat}{fi:DS->Option (List D)}{fc:DS->Option Bool}{fe:DE}
def gTwo(K:aa)(n:Nat):TG:=gTup K 2 (y9z (z2W n) (y9z (z2W (n+1)) gNil))
theorem x0o{σ:St}{H:Hp}{Q:VK}(hσ:σ.length=n)(hq:tF X.K (z7z fi fc fe) σ H Q):y7F (tI X.K fi) (gTwo X.K n) (tT X.K fc) (tD X.K fe) 2 σ H Q:=by
 obtain⟨B,δ,ds,hB,Sδ,q,k⟩:=hq
 unfold z7z at q
 cases e1:fi δ with
 |none=>rw[e1]at q;cases q
 |some xs=>
 rw[e1]at q
 have q1:(if xs.length≤sizeLine then z1B (two (z4c fc fe δ)) xs else none)=some ds:=q
 split at q1
 case isFalse=>cases q1
 case isTrue hsz=>
 refine⟨B,δ,xs,hB,Sδ,e1,fun J H1 s1 itw=>fun Da hD=>?_⟩
 have hD0:H Da=none:=s1.free hD
 have it:=itw (fun a=>a=Da) fun a ha=>by rw[ha];exact hD
 have Sw:RepS X.K H1 (fun a=>B a∨a=Da) σ δ:=(Sδ.mono s1).wide fun a ha=>by rw[ha];exact hD
 refine⟨fun i m σ' H'=>m=xs.length - i∧i≤xs.length∧(∃w w',σ'=σ++[w,w'])∧Same H1 H'∧∃ys dn rs,H' Da=some (.lst ys)∧Reps X.K H' (fun a=>B a∨a=Da) dn ys∧ds=dn++rs∧dn.length≤i ∧
  z1B (two (z4c fc fe δ)) (xs.drop i)=some rs,
  ⟨xs.length,by simp,bg _,⟨none,none,rfl⟩,z0q hD,[],[],ds,z0r,.nil,rfl,ao _,q1⟩,?_⟩
 rintro i m σ' H' ⟨rfl,hi',⟨w,w',rfl⟩,sm,ys,dn,rs,hys,rys,hds,hln,hrs⟩
 have kp:Keep X.K (fun a=>B a∨a=Da) H1 H':=.same sm
 by_cases hlt:i<xs.length
 ·refine .inr ⟨it.go i H' kp hlt,fun σ'' H''=>(i+1≤xs.length∧(∃w w',σ''=σ++[w,w'])∧Same H1 H''∧∃ys dn rs,H'' Da=some (.lst ys)∧Reps X.K H'' (fun a=>B a∨a=Da) dn ys∧ds=dn++rs∧dn.length≤i+1 ∧
   z1B (two (z4c fc fe δ)) (xs.drop (i+1))=some rs),fun σ'' H'' h=>⟨xs.length - (i+1),by omega,rfl,h⟩,fun xv H2 hy=>?_⟩
  obtain⟨s2,d,hd,rd⟩:=it.yld i H' xv H2 kp hy
  have hdi:=hd hlt
  have hx:xs.drop i=d::xs.drop (i+1):=by
   obtain⟨hl,e⟩:=aU.mp hdi
   rw[bn hl,e]
  rw[hx]at hrs
  obtain⟨o,rs',e2,e3,e4⟩:=z6S hrs
  obtain⟨da,db,ed,e2b⟩:=x3w e2
  subst ed
  unfold Rep at rd
  obtain⟨p,vs,rfl,hsq,rvs⟩:=rd
  unfold Reps at rvs
  obtain⟨va,r1,rfl,ra,rvs⟩:=rvs
  unfold Reps at rvs
  obtain⟨vb,r2,rfl,rb,rvs⟩:=rvs
  unfold Reps at rvs
  subst rvs
  refine⟨p,[va,vb],rfl,hsq,rfl,va,[vb],rfl,vb,[],rfl,rfl,?_⟩
  rw[←hσ,y2b]
  have hB1:InB (fun a=>B a∨a=Da) H2:=fun a ha=>ha.elim (fun z=>(((hB.mono s1).mono sm).mono s2) a z) fun z=>⟨_,s2 _ _ (z ▸ hys)⟩
  have S2:RepS X.K H2 (fun a=>B a∨a=Da) (σ++[some va,some vb]) (δ++[some da,some db]):=((Sw.mono sm).mono s2).snoc2 ra rb
  have hl2:ys.length<sizeLine:=by
   have:=rys.length
   omega
  unfold z4c at e2b
  cases ec:fc (δ++[some da,some db])with
  |none=>rw[ec]at e2b;cases e2b
  |some kk=>
   rw[ec]at e2b
   have e2':(if kk=true then(fe (δ++[some da,some db])).map some else some none)=some o:=e2b
   refine⟨_,δ++[some da,some db],kk,hB1,S2,ec,fun H3 s3=>?_⟩
   cases kk with
   |false=>
    rw[if_neg aj]at e2'
    rw[if_neg aj]
    cases e2'
    exact⟨hlt,⟨_,_,rfl⟩,(sm.trans s2).trans s3,ys,dn,rs',s3 _ _ (s2 _ _ hys),(rys.mono s2).mono s3,by rw[hds,e4];rfl,dE hln,e3⟩
   |true=>
    rw[if_pos rfl]at e2'
    rw[if_pos rfl]
    cases ey:fe (δ++[some da,some db])with
    |none=>rw[ey]at e2';cases e2'
    |some y=>
     rw[ey]at e2'
     cases e2'
     refine⟨_,δ++[some da,some db],y,hB1.mono s3,S2.mono s3,ey,fun yv H5 s5 r5=>⟨ys,s5 _ _ (s3 _ _ (s2 _ _ hys)),hl2,?_⟩⟩
     have hu:H5 Da=some (.lst ys):=s5 _ _ (s3 _ _ (s2 _ _ hys))
     refine⟨hlt,⟨_,_,rfl⟩,fun b u hb=>?_,ys++[yv],dn++[y],rs',z0r,?_,by rw[hds,e4,aK];rfl,by rw[aC];simp;omega,e3⟩
     ·rw[z0I (z1r hb hD)]
      exact s5 _ _ (s3 _ _ (s2 _ _ (sm _ _ hb)))
     ·exact Reps.keep (.upd (.inr rfl) (by rw[hu];exact trivial)) _ (((rys.mono s2).mono s3 |>.mono s5).snoc r5)
 ·have e:i=xs.length:=by omega
  subst e
  refine .inl ⟨it.stop _ H' kp (ao _),?_⟩
  rw[cB]at hrs
  cases hrs
  rw[aH]at hds
  subst hds
  exact k Da ys H' (s1.trans sm) hD0 hys (rys.anti fun a z=>.inl z)
theorem y1u(hc:X.calm=true)(S:CompScope X.N X.env.scope.names N' 2 sc)(hn:n=X.N.length)(hi:PID X (.Tuple [.Name x px,.Name y py] x1 tp) iter fi)
  (hg:∀s H fp pins E,PG (z0A X N' sc s H fp pins E) (.Tuple [.Name x px,.Name y py] x1 tp) (gTwo X.K n)) (ht:∀s H fp pins E,y8q (z0A X N' sc s H fp pins E) ifs (tT X.K fc)) (he:∀s H fp pins E,PE (z0A X N' sc s H fp pins E) elt (tD X.K fe))
  (hs:∀x,foldedSetIterable iter X.env x=pure x:=by intro _;rfl):PF X (.ListComp elt [⟨.Tuple [.Name x px,.Name y py] x1 tp,iter,ifs,0⟩] sc pos) (z7z fi fc fe):=by
 intro pins s σ H Q I hq
 exact y3J hc S hi ⟨hg,ht,he⟩ hs pins s σ H Q I (x0o (by rw[hn,I.len]) hq)
theorem y9Q{X:Cx}{n:Nat}{x y:Str}{px py tp:Pos}{x1}(hc:X.calm=true)(h1:PG X (.Name x px) (z2W n))(h2:PG X (.Name y py) (z2W (n+1)))
  (hs:(fu [.Name x px,.Name y py] X.env).map (·.2)=fD (.Name x px) X.env::(fu [.Name y py] X.env).map (·.2):=by rfl) (hs2:(fu [.Name y py] X.env).map (·.2)=fD (.Name y py) X.env::(fu [] X.env).map (·.2):=by rfl)
  (hn:(fu [.Name x px,.Name y py] X.env).length=2:=by rfl) (hst:(fu [.Name x px,.Name y py] X.env).findIdx? (·.1)=none:=by rfl):PG X (.Tuple [.Name x px,.Name y py] x1 tp) (gTwo X.K n):=
 x4x hc (z7U h1 (z7U h2 y8H hs2) hs) hn hst
end
def y5m:D->Option Key
 |.int n=>some (.inl n)
 |.str x=>some (.inr x)
 |_=>none
theorem y4a{K:aa}{H:Hp}{B:Addr->Prop}{d:D}{k:Key}{v:V}(e:y5m d=some k)(r:Rep K H B d v):v=kV k:=by
 unfold y5m at e
 split at e
 ·cases e;unfold Rep at r;exact r
 ·cases e;unfold Rep at r;exact r
 ·cases e
def setK(ks:List Key)(ds:List D)(k:Key)(d:D):List D:=match ks,ds with
 |k'::ks,e::ds=>(if k'=k then d else e)::setK ks ds k d
 |_,_=>[]
def y3m(ks:List Key)(k:Key):Bool:=ks.any fun k'=>decide (k'=k)
def y2Y(ks:List Key)(k:Key):List Key:=if y3m ks k=true then ks else ks++[k]
def y3a(ks:List Key)(ds:List D)(k:Key)(d:D):List D:=if y3m ks k=true then setK ks ds k d else ds++[d]
theorem y4Y{k:Key}{kvs:List (Key×V)}{ks:List Key}(e:kvs.map (·.1)=ks):(kvs.any fun kv=>decide (kv.1=k))=y3m ks k:=by
 subst e
 unfold y3m
 rw[cN]
 rfl
theorem y6k{K:aa}{H:Hp}{k:Key}{d:D}{v:V}(td:Tree K H d v []):∀{kvs:List (Key×V)} {ds:List D},Trees K H ds (kvs.map (·.2)) []->Trees K H (setK (kvs.map (·.1)) ds k d) ((kvs.map fun kv=>if kv.1=k then(kv.1,v)else kv).map (·.2)) []
 |[],ds,t=>by
  cases ds with
  |nil=>exact .nil
  |cons e ds=>unfold Trees at t;obtain⟨_,_,_,_,z,_⟩:=t;cases z
 |p::r,[],t=>by obtain⟨z,_⟩:=t;cases z
 |p::r,e::ds,t=>by
  unfold Trees at t
  obtain⟨x,xs,B,C,e1,t1,t2,e2⟩:=t
  cases e1
  obtain⟨rfl,rfl⟩:=List.append_eq_nil_iff.mp e2.symm
  have ih:=y6k (k:=k) td (kvs:=r) t2
  rw[aF,aF,aF]
  unfold setK Trees
  refine⟨_,_,[],[],rfl,?_,ih,rfl⟩
  by_cases h:p.1=k
  ·rw[if_pos h,if_pos h];exact td
  ·rw[if_neg h,if_neg h];exact t1
theorem x2p{k:Key}{v:V}{kvs:List (Key×V)}:(z9u kvs k v).map (·.1)=y2Y (kvs.map (·.1)) k:=by
 unfold z9u y2Y
 rw[y4Y (k:=k) (kvs:=kvs) rfl]
 by_cases h:y3m (kvs.map (·.1)) k=true
 ·rw[if_pos h,if_pos h,aV]
  apply c9
  intro p _
  show(if p.1=k then(p.1,v)else p).1=p.1
  split <;> rfl
 ·rw[if_neg h,if_neg h,aS]
  rfl
theorem x3l{K:aa}{H:Hp}{k:Key}{d:D}{v:V}{kvs:List (Key×V)}{ds:List D}(td:Tree K H d v [])(t:Trees K H ds (kvs.map (·.2)) []):Trees K H (y3a (kvs.map (·.1)) ds k d) ((z9u kvs k v).map (·.2)) []:=by
 unfold z9u y3a
 rw[y4Y (k:=k) (kvs:=kvs) rfl]
 by_cases h:y3m (kvs.map (·.1)) k=true
 ·rw[if_pos h,if_pos h]
  exact y6k td t
 ·rw[if_neg h,if_neg h,aS]
  exact t.snoc td
theorem y5W{k:Key}{kvs:List (Key×V)}:(y5T kvs k).isSome=y3m (kvs.map (·.1)) k:=by rw[←y0p];exact y4Y rfl
def inK:D->D->Option Bool:=fun x y=>match y with
 |.dct ks _=>(y5m x).map fun k=>y3m ks k
 |_=>none
def x2n(f g:DE):DS->Option Bool:=fun δ=>(f δ).bind fun x=>(g δ).bind fun y=>inK x y
def x4k(f g:DE):DS->Option Bool:=fun δ=>(x2n f g δ).map (!·)
section
variable{X:Cx}{a b o i:Expr}{f g:DE}{pos pos':Pos}
theorem y6c{δ:DS}{c:Bool}(h:x2n f g δ=some c):∃x k ks ds,f δ=some x∧y5m x=some k∧g δ=some (.dct ks ds)∧c=y3m ks k:=by
 unfold x2n at h
 cases e1:f δ with
 |none=>rw[e1]at h;cases h
 |some x=>
  rw[e1]at h
  cases e2:g δ with
  |none=>rw[e2]at h;cases h
  |some y=>
   rw[e2]at h
   have h:inK x y=some c:=h
   unfold inK at h
   split at h
   ·cases e3:y5m x with
    |none=>rw[e3]at h;cases h
    |some k=>rw[e3]at h;cases h;exact⟨x,k,_,_,rfl,e3,rfl,rfl⟩
   ·cases h
theorem pt_din(hu:X.A.units+64<cLine)(ha:PD X a f)(hb:PD X b g)(hm:ft .In b=false:=by rfl):PTD X (.Compare a [.In] [b] pos) (x2n f g):=
 (x1F (pc_din (by omega) ha hb) hm).imp fun σ H Q ⟨B,δ,c,hB,S,q,k⟩=>by
  obtain⟨x,ky,ks,ds,e1,e2,e3,rfl⟩:=y6c q
  refine⟨B,δ,x,hB,S,e1,fun v H1 s1 r1=>⟨B,δ,_,hB.mono s1,S.mono s1,e3,fun w H2 s2 r2=>?_⟩⟩
  unfold Rep at r2
  obtain⟨p,kvs,rfl,n,hp,ek,rs⟩:=r2
  have ev:=y4a e2 r1
  subst ev
  refine⟨p,y5T kvs ky,rfl,DGet.k hp,_,rfl,?_⟩
  rw[y5W,ek]
  exact k H2 (s1.trans s2)
theorem pt_dnin(hu:X.A.units+64<cLine)(ha:PD X a f)(hb:PD X b g)(hm:ft .NotIn b=false:=by rfl):PTD X (.Compare a [.NotIn] [b] pos) (x4k f g):=
 (x1F (x1q (by omega) ha hb) hm).imp fun σ H Q ⟨B,δ,c,hB,S,q,k⟩=>by
  unfold x4k at q
  cases e0:x2n f g δ with
  |none=>rw[e0]at q;cases q
  |some c0=>
  rw[e0]at q
  cases q
  obtain⟨x,ky,ks,ds,e1,e2,e3,rfl⟩:=y6c e0
  refine⟨B,δ,x,hB,S,e1,fun v H1 s1 r1=>⟨B,δ,_,hB.mono s1,S.mono s1,e3,fun w H2 s2 r2=>?_⟩⟩
  unfold Rep at r2
  obtain⟨p,kvs,rfl,n,hp,ek,rs⟩:=r2
  have ev:=y4a e2 r1
  subst ev
  refine⟨p,y5T kvs ky,rfl,DGet.k hp,_,rfl,?_⟩
  rw[y5W,ek]
  exact k H2 (s1.trans s2)
theorem pn_dnew:PN X (.Dict [] [] pos) (dC (.dct [] [])):=pe_dnewK.imp fun σ H Q ⟨δ,d,S,q,k⟩=>by
 cases q
 intro p hp
 refine k _ _ [p] (z0q hp) ?_ (ay.mpr ⟨fun z=>(nomatch z),bh⟩) fun a ha=>?_
 ·unfold Tree
  exact⟨p,[],[],rfl,z0r,rfl,.nil,rfl⟩
 ·rw[ai.mp ha];exact hp
variable{H0:Hp}{B0:Addr->Prop}{fr:Bool}{RX:XR}{x:Str}{px:Pos}{ke e:Expr}
def dput(i:Nat)(fk fv:DE):SS->Option Out:=fun δ=>(fv (z0D δ)).bind fun d=>if d.imm=true then(fk (z0D δ)).bind fun dk=>(match y5m dk,δ[i]? with
 |some k,some (some (.ow (.dct ks ds)))=>if z3b ds=true∧ks.length<sizeLine then some (.nx ((z0S i δ).set i (some (.ow (.dct (y2Y ks k) (y3a ks ds k d))))))else none
 |_,_=>none)else none
theorem y9J{K:aa}{H:Hp}{ds:List D}{xs:List V}{A:List Addr}(t:Trees K H ds xs A)(h:z3b ds=true):Trees K H ds xs []:=Reps.immTree (B:=fun _=>False) ds h (t.rep ds fun _ _ z=>z)
theorem x5t{i:Nat}{fk fv:DE}(hu:X.A.units+64<cLine)(hx:PE X (.Name x px) (y7r i))(hk:PD X ke fk)(hv:PD X e fv)
  (hs:swapsWith e (some (.Subscript (.Name x px) ke pos')) pos.line X.env=pure false:=by rfl):
  PS X (.Assign [.Subscript (.Name x px) ke pos'] e pos) (tS X.K H0 B0 fr RX (dput i fk fv)):=
 PS.imp (ps_dput (by omega) hx hk hv hs) fun D σ H ⟨δ,R,o,rs,q,kk⟩=>by
  unfold dput at q
  cases e1:fv (z0D δ)with
  |none=>rw[e1]at q;cases q
  |some d=>
  rw[e1,aA]at q
  split at q
  case isFalse=>cases q
  case isTrue hi=>
  cases e2:fk (z0D δ)with
  |none=>rw[e2]at q;cases q
  |some dk=>
  rw[e2,aA]at q
  split at q
  case h_2=>cases q
  case h_1 k ks ds e3 ei=>
  split at q
  case isFalse=>cases q
  case isTrue hc=>
  cases q
  obtain⟨v0,ev,t0,nd⟩:=rs.ow i _ ei
  unfold Tree at t0
  obtain⟨a,kvs,A,rfl,ha,ek,ts,eR⟩:=t0
  have ts:=y9J ts hc.1
  refine⟨noB,z0D δ,d,.no,rs.all,e1,fun v H1 s1 r1=>⟨.ref a,ev,noB,z0D δ,dk,.no,rs.all.mono s1,e2,fun kv H2 s2 r2=>?_⟩⟩
  have ekv:=y4a e3 r2
  subst ekv
  subst ek
  have ha2:H2 a=some (.dK kvs):=s2 _ _ (s1 _ _ ha)
  refine⟨a,_,rfl,DPut.k ha2 (by rw[←aq (f:=(·.1))];exact hc.2),?_⟩
  have haR:a∈R i:=by rw[eR];exact ac
  have mu:Mut (H2 a):=by rw[ha2];exact trivial
  have td:Tree X.K H2 d v []:=(r1.immTree d hi).mono s2
  have tp:=x3l (k:=k) td (ts.mono (s1.trans s2))
  have P:=rs.rewrite (d':=.dct (y2Y (kvs.map (·.1)) k) (y3a (kvs.map (·.1)) ds k d)) (a:=a) (o:=.dK (z9u kvs k v)) (A':=[a]) (s1.trans s2) ei ev haR (by
   unfold Tree
   exact⟨a,z9u kvs k v,[],rfl,z0r,x2p,Trees.keep (Keep.upd (K:=X.K) (B:=fun x=>x=a) rfl mu).i _ tp fun b hb=>(nomatch hb),rfl⟩) (ay.mpr ⟨fun z=>(nomatch z),bh⟩) fun b hb=>by
    rw[ai.mp hb];exact .inl haR
  exact kk σ _ _ P.1 P.2
end
end L2
namespace HT
open PySem PySem.Spec PyProof.Rows
section
end
end HT
namespace L2
open PySem PySem.Spec PyProof.Rows
section
variable{X:Cx}{pos p2:Pos}
variable{f g:DE}
variable{a b:Expr}
def catLs:D->D->Option (List D)
 |.lst ds,.lst es=>if ds.length+es.length≤sizeLine then some (ds++es)else none
 |_,_=>none
def y7B(f g:DE):DS->Option (List D):=fun δ=>(f δ).bind fun x=>(g δ).bind fun y=>catLs x y
theorem z6q(ha:PD X a f)(hb:PD X b g):PF X (.BinOp a .Add b pos) (y7B f g):=(pe_op op_cat ha hb).imp fun σ H Q ⟨B,δ,ds,hB,S,q,k⟩=>by
 unfold y7B at q
 cases e1:f δ with
 |none=>rw[e1]at q;cases q
 |some x=>
 rw[e1,aA]at q
 cases e2:g δ with
 |none=>rw[e2]at q;cases q
 |some y=>
 rw[e2,aA]at q
 unfold catLs at q
 split at q
 case h_2=>cases q
 case h_1 xs ys=>
 split at q
 case isFalse=>cases q
 case isTrue hl=>
 cases q
 refine⟨B,δ,_,hB,S,e1,fun v H1 s1 r1=>⟨B,δ,_,hB.mono s1,S.mono s1,e2,fun v2 H2 s2 r2=>?_⟩⟩
 unfold Rep at r1 r2
 obtain⟨p1,vs,rfl,n1,h1,rs1⟩:=r1
 obtain⟨p2,ws,rfl,n2,h2,rs2⟩:=r2
 refine⟨p1,p2,vs,ws,rfl,rfl,s2 _ _ h1,h2,by rw[←rs1.length,←rs2.length];exact hl,fun p hp=>?_⟩
 exact k p _ _ ((s1.trans s2).trans (z0q hp)) ((s1.trans s2).free hp) z0r (((rs1.mono s2).append rs2).mono (z0q hp))
end
section
variable{X:Cx}{o e:Expr}{apos cpos:Pos}
def rLIx(K:aa):V->List V->Hp->VK->Prop:=fun x vs H Q=>∃(a:Addr) (ns:List Int) (i:Int) (j:Nat),x = .ref a∧vs=[.int i]∧SqL K H a (ns.map V.int)∧ns.findIdx? (fun n=>n==i)=some j∧Q (.int (j:Int)) H
theorem x0Q:MtR X "list.index" (rLIx X.K):=by
 intro pins s σ H x vs v us Q I rx rv h
 obtain⟨a,ns,i,j,rfl,rfl,hq,hj,q⟩:=h
 cases rx
 obtain⟨u,rfl,ru⟩:=rv.one
 obtain⟨ut,rfl⟩:=ru
 obtain⟨its,r,⟨⟨cls,dct,dat,sl⟩,n,e,c,d,hd⟩,hz⟩:=I.list hq
 have c:cls = .type "list" := c
 have hd:dat = .seq its.toArray n:=hd
 subst c;subst hd
 obtain⟨hjl,hji,hjm⟩:=ci.mp hj
 have hl:ns.length=its.length:=by have:=r.length;simpa using this
 have hj2:j<its.length:=by omega
 rw[sizeLine_eq,aq]at hz
 refine call_meets F.slot_list_index ⟨_,e,rfl⟩ F.entry_list_index (F.args_list_index_2 _ _) (SeqAt.list_indexAt a its.toArray n dct sl (.int i ut) (isI i) j (by simpa using hj2) (by omega) ?_ ?_) ⟨e,?_,?_⟩
 ·obtain⟨t,h2,e2⟩:=y4F r j hj2
  simp[e2,isI]
  simpa using hji
 ·intro m hm hmj
  obtain⟨t,h2,e2⟩:=y4F r m (by omega)
  have:=hjm m hmj
  simp[e2,isI]
  simpa using this
 ·intro y hy
  obtain⟨k,hk,rfl⟩:=eV (show y∈its by simpa using hy)
  obtain⟨t,h2,e2⟩:=y4F r k hk
  rw[e2]
  exact SeqAt.EqAt.int_int _ _ _ _
 ·exact⟨.int (j:Int),H,I.tok _,⟨_,rfl⟩,q⟩
def lixF:D->D->Option D
 |.lst ds,.int i=>(z1O ds).bind fun ns=>(ns.findIdx? (fun n=>n==i)).map fun j=>.int (j:Int)
 |_,_=>none
theorem x0h{f g:DE}(ho:PD X o f)(he:PD X e g)(hbase:fx o "index" X.env (eval o X.env)=eval o X.env:=by rfl)
  (hfew:((fw cpos (starEach [e] X.env)).all (fun x=>!x.1)&&(backToKw cpos (keywordEach [] X.env)).all (fun x=>x.1.isSome)&&decide ([e].length+([]:List fA).length+(if([]:List fA).isEmpty then 0 else 1)<30))=true:=by rfl)
  (hline:(apos.endLine==cpos.line)=true:=by rfl) (hs:starEach [e] X.env=(false,eval e X.env)::starEach [] X.env:=by rfl):
  PD X (.Call (.Attribute o "index" apos) [e] [] cpos) (d2 lixF f g):=
 (y8Q PySem.F.plainAttrs_list PySem.F.slot_list_index PySem.F.type_list_index x0Q ho (z1y he pa_nil hs) hbase hfew hline hs rfl).imp fun σ H Q ⟨B,δ,d,hB,S,q,k⟩=>by
  obtain⟨x,y,e1,e2,e3⟩:=z8m q
  unfold lixF at e3
  split at e3
  case h_2=>cases e3
  case h_1 ds i=>
  cases e4:z1O ds with
  |none=>rw[e4]at e3;cases e3
  |some ns=>
  rw[e4,aA]at e3
  cases e5:ns.findIdx? (fun n=>n==i)with
  |none=>rw[e5]at e3;cases e3
  |some j=>
  rw[e5]at e3
  cases e3
  have eds:=z9b e4
  subst eds
  refine⟨B,δ,_,hB,S,e1,fun v H1 s1 r1=>?_⟩
  unfold Rep at r1
  obtain⟨a,xs,rfl,nb,hq,rs⟩:=r1
  have ex:=y1f rs
  subst ex
  refine⟨.inl ⟨rfl,_,SqL.of hq⟩,B,δ,_,hB.mono s1,S.mono s1,e2,fun v2 H2 s2 r2=>?_⟩
  unfold Rep at r2
  subst r2
  exact⟨a,ns,i,j,rfl,rfl,SqL.of (s2 _ _ hq),e5,k _ H2 (s1.trans s2) (by unfold Rep;rfl)⟩
end
section
variable{X:Cx}{H0:Hp}{B0:Addr->Prop}{fr:Bool}{RX:XR}{e:Expr}{pos:Pos}{f:DE}
def y7U(f:DE):SS->Option Out:=fun δ=>(f (z0D δ)).map fun _=>.nx δ
theorem y9X(h:PN X e f)(hs:swapsWith e none pos.line X.env=pure false:=by rfl):PS X (.Expr e pos) (tS X.K H0 B0 fr RX (y7U f)):=PS.imp (z6U h hs) fun D σ H ⟨δ,R,o,rs,q,k⟩=>by
 unfold y7U at q
 cases e1:f (z0D δ)with
 |none=>rw[e1]at q;cases q
 |some d=>
  rw[e1]at q
  cases q
  exact⟨z0D δ,d,rs.all,e1,fun v H' A s t nd fr'=>k σ H' R (rs.mono s) (Stp.same s)⟩
end
def cntR(lo hi c:Int):Nat:=if lo<hi then((hi - lo - 1) / c+1).toNat else 0
def Itr3(lo c:Int)(n:Nat):It:=⟨fun i _=>i<n,fun i H x H'=>H'=H∧x = .int (lo+(i:Nat)*c),fun i _=>n≤i⟩
theorem y3I{P:dw}{w:fm}{K:aa}{tg:Expr}(it:Addr)(lo c:Int)(n:Nat):Turn P w K tg (Itr3 lo c n) [it] it (fun i h=>IsRangeIter h it (lo+(i:Nat)*c) ((n:Int) - (i:Nat)) c) where
 mem:=by simp
 obj:=fun i h st b hb=>by
  have e:b=it:=by simpa using hb
  subst e
  exact⟨_,st,fun v z=>by
   have z':Data.fields _=Data.cell v:=z
   cases z'⟩
 keep:=fun i h h' st k=>k it (by simp) _ st
 item:=by
  intro X hP hw hK hc i pins s σ H E I hf st hg
  subst hP hw hK
  obtain⟨f0,f1,f2,f3,f4,f5⟩:=hf it (by simp)
  have W:=Walks.range (prog:=X.prog) (w:=X.w) (I.ok.hd hc) it lo c n
  refine W.item i s _ _ hg st fun v h' tk hv st' kk=>?_
  obtain⟨t,rfl⟩:=hv
  have I1:Inv X pins σ H { s with heap:=h',toks:=tk }:=I.turned (fun b o hb e=>kk b o (by simpa using hb) e) f0 f1 f3 f4 f5
  exact⟨_,rfl,x1l (s:={ s with heap:=h',toks:=tk }) (n := "range_iterator") st' rfl rfl (by decide) ⟨.int (lo+(i:Nat)*c),H,I1,⟨t,rfl⟩,⟨rfl,rfl⟩,st',fun b hb=>(hf b hb).1⟩⟩
 done:=by
  intro X hP hw hK hc i pins s σ H E I hf st hg
  subst hP hw hK
  obtain⟨f0,f1,f2,f3,f4,f5⟩:=hf it (by simp)
  exact wpAny_pyNext_range_end (I.ok.hd hc) st (by have:n≤i:=hg;omega) fun h' eb=>⟨rfl,I.turned (t':=s.toks) (fun b o hb e=>eb b o hb e) f0 f1 f3 f4 f5⟩
 self:=fun _ _ _ _ _ st h=>wpAny_pyIter_rangeiter st h
section
theorem Vals.three:∀{x y z:V} {us:List Value},Vals [x,y,z] us->∃u v w,us=[u,v,w]∧RelV x u∧RelV y v∧RelV z w
 |_,_,_,_,.cons r (.cons q (.cons p .nil))=>⟨_,_,_,rfl,r,q,p⟩
def x0J(lo c:Int)(n:Nat):List D:=(ag n).map fun i=>.int (lo+(i:Nat)*c)
theorem x4n{lo c:Int}{n i:Nat}(h:i<n):(x0J lo c n)[i]? = some (.int (lo+(i:Nat)*c)):=by
 unfold x0J
 rw[aJ,cM h]
 rfl
theorem y0s{lo c:Int}{n:Nat}:(x0J lo c n).length=n:=by simp[x0J]
theorem x3I{K:aa}{H:Hp}{B:Addr->Prop}{lo c:Int}{n:Nat}:ItD K (Itr3 lo c n) H B (x0J lo c n):=by
 refine⟨fun i H' _ hi=>?_,fun i H' _ hi=>?_,fun i H' x H2 _ y=>?_⟩
 ·rw[y0s]at hi;exact hi
 ·rw[y0s]at hi;exact hi
 ·obtain⟨e,y⟩:=y
  subst e y
  exact⟨.refl _,.int (lo+(i:Nat)*c),fun h=>x4n (by rwa [y0s]at h),rfl⟩
def rng3:Option D->Option D->Option D->Option (List D)
 |some (.int i),some (.int j),some (.int c)=>if -(2 ^ 61)≤i∧i<2 ^ 61∧-(2 ^ 61)≤j∧j<2 ^ 61∧0<c∧c<2 ^ 30 then some (x0J i c (cntR i j c))else none
 |_,_,_=>none
end
def z4d(c:DS->Option Bool)(b:SS->Option Out):Nat->SS->Option Out
 |0,_=>none
 |n+1,δ=>(c (z0D δ)).bind fun k=>if k=true then(b δ).bind fun o=>(match o with
  |.nx δ'=>z4d c b n δ'
  |.ct δ'=>z4d c b n δ'
  |.bk δ'=>some (.nx δ')
  |.rt d=>some (.rt d)
  |.rb d δ'=>some (.rb d δ')
  |.ex c δ'=>some (.ex c δ'))else some (.nx δ)
section
variable{X:Cx}{H0:Hp}{B0:Addr->Prop}{fr:Bool}{RX:XR}{pos:Pos}
theorem y4z{c:Expr}{body:List Stmt}{fc:DS->Option Bool}{g:SS->Option Out}(n:Nat)(hp:PassesOwn (model X.prog X.w) X.A X.env X.xe)(hc:PTD X c fc)(hb:PSs X body (tS X.K H0 B0 fr RX g)):PS X (.While c body [] pos) (tS X.K H0 B0 fr RX (z4d fc g n)):=
 PS.imp (x3f hp hc hb) fun D σ H ⟨δ,R,o,rs,q,k⟩=>by
  refine⟨fun m σ' H'=>∃δ' R',RS X.K H0 B0 H' σ' δ' R'∧Stp R H R' H'∧z4d fc g m δ'=some o,⟨n,δ,R,rs,.refl R H,q⟩,?_⟩
  rintro m σ' H' ⟨δ',R',rs',s',q'⟩
  cases m with
  |zero=>cases q'
  |succ m=>
   unfold z4d at q'
   cases ec:fc (z0D δ')with
   |none=>rw[ec]at q';cases q'
   |some kk=>
    rw[ec,aA]at q'
    refine⟨noB,z0D δ',kk,.no,rs'.all,ec,fun H1 s1=>?_⟩
    have rs1:=rs'.mono s1
    have st1:Stp R H R' H1:=s'.trans (.same s1)
    cases kk with
    |false=>
     rw[if_neg aj]at q'
     cases q'
     exact k σ' H1 R' rs1 st1
    |true=>
     rw[if_pos rfl]at q'
     cases eb:g δ' with
     |none=>rw[eb]at q';cases q'
     |some ob=>
      rw[eb,aA]at q'
      refine⟨fun σ2 H2=>∃δ2 R2,RS X.K H0 B0 H2 σ2 δ2 R2∧Stp R H R2 H2∧z4d fc g m δ2=some o,fun σ2 H2 z=>⟨m,cD m,z⟩,δ',R',ob,rs1,eb,?_⟩
      cases ob with
      |nx δ2=>exact fun σ3 H3 R3 rs3 s3=>⟨δ2,R3,rs3,st1.trans s3,q'⟩
      |ct δ2=>exact fun σ3 H3 R3 rs3 s3=>⟨δ2,R3,rs3,st1.trans s3,q'⟩
      |bk δ2=>
       cases q'
       exact fun σ3 H3 R3 rs3 s3=>k σ3 H3 R3 rs3 (st1.trans s3)
      |rt d=>
       cases q'
       exact k.back st1
      |rb d δ2=>
       cases q'
       exact k.back st1
      |ex c δ2=>
       cases q'
       exact k.back st1
def isN:D->Bool
 |.non=>true
 |_=>false
theorem rep_isN{K:aa}{H:Hp}{B:Addr->Prop}{d:D}{v:V}(r:Rep K H B d v):decide (v=V.non)=isN d:=by
 cases d with
 |non=>unfold Rep at r;subst r;rfl
 |bl b=>unfold Rep at r;subst r;rfl
 |int i=>unfold Rep at r;subst r;rfl
 |str x=>unfold Rep at r;subst r;rfl
 |lst ds=>unfold Rep at r;obtain⟨a,xs,rfl,_⟩:=r;rfl
 |tup ds=>unfold Rep at r;obtain⟨a,xs,rfl,_⟩:=r;rfl
 |scr ns=>unfold Rep at r;obtain⟨a,rfl,_⟩:=r;rfl
 |dct ks ds=>unfold Rep at r;obtain⟨a,kvs,rfl,_⟩:=r;rfl
 |exc x=>unfold Rep at r;obtain⟨a,C,rfl,_⟩:=r;rfl
 |obj x a ks ds=>unfold Rep at r;obtain⟨C,dx,fs,_,_,⟨rfl,_⟩,_⟩:=r;rfl
 |cel a ds=>unfold Rep at r;obtain⟨xs,_,_,rfl,_⟩:=r;rfl
def y8T(f:DE):DS->Option Bool:=fun δ=>(f δ).map fun d=>!isN d
variable{a:Expr}{f:DE}
theorem y7j{j pos'}(ha:PD X a f)(hm:ft .IsNot (.Constant .none j pos')=false:=by rfl):PTD X (.Compare a [.IsNot] [.Constant .none j pos'] pos) (y8T f):=(x1F (pc_notN ha) hm).imp fun σ H Q ⟨B,δ,c,hB,S,q,k⟩=>by
 unfold y8T at q
 cases e:f δ with
 |none=>rw[e]at q;cases q
 |some d=>
  rw[e]at q
  cases q
  refine⟨B,δ,d,hB,S,e,fun v H1 s1 r1=>⟨_,rfl,?_⟩⟩
  rw[rep_isN r1]
  exact k H1 s1
end
section
variable{X:Cx}{a b:Expr}{f:DE}{pos:Pos}
variable{H0:Hp}{B0:Addr->Prop}{fr:Bool}{RX:XR}{x:Str}{px ap cp:Pos}{e:Expr}
def x0d(i:Nat)(f:DE):SS->Option Out:=fun δ=>(f (z0D δ)).bind fun d=>(match d,δ[i]? with
 |.lst es,some (some (.ow (.lst ds)))=>if ds.length+es.length≤sizeLine then some (.nx ((z0S i δ).set i (some (.ow (.lst (ds++es))))))else none
 |_,_=>none)
theorem x1t{i:Nat}(hx:PE X (.Name x px) (y7r i))(he:PN X e f)(hbase:fx (.Name x px) "extend" X.env (eval (.Name x px) X.env)=eval (.Name x px) X.env:=by rfl)
  (hfew:((fw cp (starEach [e] X.env)).all (fun x=>!x.1)&&(backToKw cp (keywordEach [] X.env)).all (fun x=>x.1.isSome)&&decide ([e].length+([]:List fA).length+(if([]:List fA).isEmpty then 0 else 1)<30))=true:=by rfl)
  (hline:(ap.endLine==cp.line)=true:=by rfl) (hs:starEach [e] X.env=(false,eval e X.env)::starEach [] X.env:=by rfl) (hsw:swapsWith (.Call (.Attribute (.Name x px) "extend" ap) [e] [] cp) none pos.line X.env=pure false:=by rfl):
  PS X (.Expr (.Call (.Attribute (.Name x px) "extend" ap) [e] [] cp) pos) (tS X.K H0 B0 fr RX (x0d i f)):=
 PS.imp (z6U (y8Q PySem.F.plainAttrs_list PySem.F.slot_list_extend PySem.F.type_list_extend y2j hx (z1y he pa_nil hs) hbase hfew hline hs rfl) hsw) fun D σ H ⟨δ,R,o,rs,q,k⟩=>by
  unfold x0d at q
  cases e1:f (z0D δ)with
  |none=>rw[e1]at q;cases q
  |some d=>
  rw[e1,aA]at q
  split at q
  case h_2=>cases q
  case h_1 es ds ei=>
  split at q
  case isFalse=>cases q
  case isTrue hl=>
  cases q
  obtain⟨a,xs,A,ev,ha,ts,eR,nd⟩:=rs.top ei
  refine⟨.ref a,ev,.inl ⟨rfl,xs,SqL.of ha⟩,z0D δ,_,rs.all,e1,fun y H2 C s2 t2 nC fC=>?_⟩
  unfold Tree at t2
  obtain⟨b,zs,C',rfl,hb,tz,rfl⟩:=t2
  have nC':=(ay.mp nC).2
  refine⟨a,b,xs,zs,rfl,rfl,s2 _ _ ha,hb,by rw[←ts.length,←tz.length];exact hl,?_⟩
  have hAC:(A++C').Nodup:=bb.mpr ⟨(ay.mp nd).2,nC',fun p hp c hc z=>by
   subst z
   obtain⟨u,q,_⟩:=Trees.held ds ts p hp
   rw[fC p (ad _ hc)]at q;cases q⟩
  have P:=rs.put0 s2 ei ev eR nd ((ts.mono s2).append tz) hAC fun p hp=>(au.mp hp).imp id fun z=>fC p (ad _ z)
  exact k σ _ _ P.1 P.2
end
def insS(x:Int):List Int->List Int
 |[]=>[x]
 |y::r=>if x≤y then x::y::r else y::insS x r
def y4c:List Int->List Int
 |[]=>[]
 |x::r=>insS x (y4c r)
theorem z8Z(x:Int):∀l:List Int,(insS x l).Perm (x::l)
 |[]=>.refl _
 |y::r=>by
  unfold insS
  split
  ·exact .refl _
  ·exact((z8Z x r).cons y).trans (.swap x y r)
theorem z8L:∀l:List Int,(y4c l).Perm l
 |[]=>.refl _
 |x::r=>(z8Z x _).trans ((z8L r).cons x)
theorem z8f{x:Int}:∀{l:List Int},l.Pairwise (· ≤ ·)->(insS x l).Pairwise (· ≤ ·)
 |[],_=>by unfold insS;simp
 |y::r,h=>by
  unfold insS
  split
  ·rename_i hxy
   refine aP.mpr ⟨fun z hz=>?_,h⟩
   rcases ah.mp hz with e | e
   ·omega
   ·have:=(aP.mp h).1 z e
    omega
  ·rename_i hxy
   refine aP.mpr ⟨fun z hz=>?_,z8f (aP.mp h).2⟩
   rcases ah.mp ((z8Z x r).mem_iff.mp hz)with e | e
   ·omega
   ·exact(aP.mp h).1 z e
theorem z8x:∀l:List Int,(y4c l).Pairwise (· ≤ ·)
 |[]=>.nil
 |_::r=>z8f (z8x r)
theorem y0e:∀{a b:List Int},a.Perm b->a.Pairwise (· ≤ ·)->b.Pairwise (· ≤ ·)->a=b
 |[],b,p,_,_=>(List.nil_perm.mp p).symm
 |x::a,[],p,_,_=>by have:=p.length_eq;simp at this
 |x::a,y::b,p,ha,hb=>by
  obtain⟨ha1,ha2⟩:=aP.mp ha
  obtain⟨hb1,hb2⟩:=aP.mp hb
  have hxy:x=y:=by
   have h1:x∈y::b:=p.mem_iff.mp ac
   have h2:y∈x::a:=p.mem_iff.mpr ac
   rcases ah.mp h1 with e | e
   ·exact e
   ·rcases ah.mp h2 with e' | e'
    ·exact e'.symm
    ·have:=ha1 y e'
     have:=hb1 x e
     omega
  subst hxy
  rw[y0e (List.perm_cons x |>.mp p) ha2 hb2]
theorem y1a{a l:List Int}(p:a.Perm l)(h:a.Pairwise (· ≤ ·)):a=y4c l:=y0e (p.trans (z8L l).symm) h (z8x l)
section
end
section
theorem intsV:∀{ns:List Int} {vs:List Value},IntsAre vs ns->Vals (ns.map V.int) vs
 |_,_,.nil=>.nil
 |_,_,.cons n t r=>.cons ⟨t,rfl⟩ (intsV r)
end
section
variable{prog:dw}{w:fm}{A:Around}{s:Shared}{R:Result->Shared->Prop}
variable{I:Addr}{fp wr:List Addr}{G:Array GenState->Array GenState->Prop}{n:Nat}{P:Nat->Value->Prop}{St:Nat->Shared->Prop}
theorem y7Z:typeLookup (.type "list_reverseiterator") "__len__" = pure none:=by rw[typeLookup_type,builtinLookup_eq_fast];kernel_rfl
theorem x4g:typeLookup (.type "list_reverseiterator") "__length_hint__" = pure (some (.builtin "list_reverseiterator.__length_hint__")):=by rw[typeLookup_type,builtinLookup_eq_fast];kernel_rfl
theorem z7H(W:WalksS prog w A.in1 I fp wr G n P St)(hT:∀i s,St i s->s.TypeIs (.ref I) "list_reverseiterator")(S:Addr)(res:Value)(c₀:Nat)(hst:St 0 s)(hSf:S∉fp)(hI:I∈fp)
  (hS:s.heap.get? S=some { cls:=.type "list",data:=.seq #[] c₀ })
  (hR:∀s' acc' c',Moved (S::wr) G s s'->s'.heap.get? S=some { cls:=.type "list",dict:=none,data:=.seq acc' c',slots:=#[] }->ItemsOf P acc' n->R (.ok (.ret res)) s') (hn:n≤sizeLine:=by size_fits):
  wpAny (model prog w) A.in1 (Builtin.List.listExtendWith (.ref S) (.ref I) res)
   (fun fin s'=>match fin with | .done f=>R (.ok f) s' | .again c'=>c'.quiet=true∧codeAny (model prog w) A c' R s') (fun e s'=>R (.error e) s') s:=by
 have hSI:S≠I:=fun e=>hSf (e ▸ hI)
 unfold Builtin.List.listExtendWith
 refine wpAny_bind (wpAny_typeOf (hT 0 _ hst) ?_)
 have h1:Builtin.List.listSameRef (.ref S) (.ref I)=false:=by simp[Builtin.List.listSameRef,hSI]
 have h2:(Value.type "list_reverseiterator" == Value.type "list")=false:=by decide
 have h3:(Value.type "list_reverseiterator" == Value.type "tuple")=false:=by decide
 simp only[h1,h2,h3,Bool.or_false,cP,if_false]
 refine wpAny_bind (W.self 0 _ _ _ hst ?_)
 refine wpAny_bind (wpAny_holding ?_)
 unfold Builtin.List.listLengthHint
 refine wpAny_bind (wpAny_specialOf (hT 0 _ hst) y7Z ?_)
 show wpAny _ A.in1 (specialOf (Value.ref I) (Str.ofString "__length_hint__") >>= _) _ _ _
 refine wpAny_bind (wpAny_specialOf (hT 0 _ hst) x4g ?_)
 generalize hid:("list_reverseiterator.__length_hint__" : String)=id0
 wp_delta
 rw[show splitId id0=some ("list_reverseiterator", "__length_hint__") from by subst hid;decide +kernel]
 subst hid
 refine wpAny_bind (wpAny_isInstance (T := "list_reverseiterator") (b:=true) (hT 0 _ hst) (by rw[isSubtype_type];kernel_rfl) ?_)
 refine wpAny_ite_split (fun hab=>absurd hab (by decide)) (fun _=>?_)
 refine wpAny_ite_split (fun _=>?_) (fun hab=>absurd (by decide +kernel) hab)
 refine wpAny_ite_split (fun hab=>absurd hab (by decide +kernel)) (fun _=>?_)
 refine wpAny_pure ?_
 refine wpAny_ite_split (fun hab=>absurd hab (by decide +kernel)) (fun _=>?_)
 refine wpAny_pure ⟨plainId_quiet F.plain_extend_loop _,codeAny_extend_loopS W hn _ hSf _ n 0 _ _ _ rfl (bg _) hst hS (ItemsOf.nil P) fun s' acc' c' hm hS' hacc=>?_⟩
 exact hR s' acc' c' hm hS' hacc
theorem z5n(W:WalksS prog w A.in1 I fp wr G n P St)(hT:∀i s,St i s->s.TypeIs (.ref I) "list_reverseiterator")(S:Addr)(hst:St 0 s)(hSf:S∉fp)(hI:I∈fp)
  (hS:s.heap.get? S=some { cls:=.type "list",data:=.seq #[] })
  (hR:∀s' acc' c',Moved (S::wr) G s s'->s'.heap.get? S=some { cls:=.type "list",dict:=none,data:=.seq acc' c',slots:=#[] }->ItemsOf P acc' n->R (.ok (.ret .none)) s') (hn:n≤sizeLine:=by size_fits):
  wpAny (model prog w) A.in1 (Builtin.«list.__init__» ⟨[.ref S,.ref I],[]⟩)
   (fun fin s'=>match fin with | .done f=>R (.ok f) s' | .again c'=>c'.quiet=true∧codeAny (model prog w) A c' R s') (fun e s'=>R (.error e) s') s:=by
 show wpAny _ A.in1 (do let old ←Builtin.List.listItems (.ref S);Builtin.List.listUpdate (.ref S) (fun _=>#[]);letGo old.toList.reverse;Builtin.List.listExtendWith (.ref S) (.ref I) .none) _ _ s
 refine wpAny_bind ?_
 unfold Builtin.List.listItems
 refine wpAny_bind (wpAny_seqItems hS rfl (wpAny_pure ?_))
 show wpAny _ A.in1 (updateSeq S (fun _=>#[]) >>= fun _=>letGo (#[]:Array Value).toList.reverse >>= fun _=>Builtin.List.listExtendWith (.ref S) (.ref I) .none) _ _ s
 refine wpAny_bind (wpAny_updateSeq hS rfl ?_)
 have hS₂:=Heap.get?_update_self (Obj.mapSeq (fun _=>(#[]:Array Value))) hS rfl
 have oth:∀b o,b≠S->s.heap.get? b=some o->(s.heap.update S (Obj.mapSeq (fun _=>(#[]:Array Value)))).get? b=some o:=
  fun b o hb e=>(Heap.get?_update_other _ _ (Ne.symm hb)).trans e
 refine wpAny_bind (wpAny_letGo ?_)
 refine z7H (hn:=hn) W hT S .none _ (W.frame 0 s _ s.toks hst (ao _) fun b hb o e=>oth b o (fun h=>hSf (h ▸ hb)) e) hSf hI hS₂ fun s' acc' c' hm hS' hacc=>?_
 exact hR s' acc' c' (Moved.trans W.gtrans ((Moved.refl W.grefl).then_heap (ao _) fun b o hb e=>oth b o (fun h=>hb (h ▸ ac)) e) hm) hS' hacc
end
section
variable{prog:dw}{w:fm}{A:Around}{E:Value->Shared->Prop}{s:Shared}
theorem y1w{Q:Value->Shared->Prop}{l I:Addr}{its:List Value}(hh:A.handled=none)(hne:l≠I)(hit:s.heap.IsRevIter I l ((its.length:Int) - 1))(hl:s.heap.IsList l its.toArray)(hI:I<s.heap.objs.size)(hn:its.length≤sizeLine)
  (hQ:∀h' tk c',(∀b o,b≠I->s.heap.get? b=some o->h'.get? b=some o)->h'.get? s.heap.objs.size=some { cls:=.type "list",dict:=none,data:=.seq its.reverse.toArray c',slots:=#[] }->Q (.ref s.heap.objs.size) { s with heap:=h',toks:=tk }):
  wpAny (model prog w) A (call (.type "list") [.ref I]) Q E s:=by
 have W:=(Walks.listRev (prog:=prog) (w:=w) (A:=A.in1.in1) hh I l hne its.toArray).toS
 have hll:l<s.heap.objs.size:=by obtain⟨o,e,_⟩:=hl;exact Heap.lt_size e
 have hSf:s.heap.objs.size∉[I,l]:=fun hm=>by
  rcases ah.mp hm with e | e
  ·exact bj _ (e ▸ hI)
  ·exact bj _ ((ai.mp e) ▸ hll)
 have hlen:its.toArray.size=its.length:=by simp
 refine callType_codes (Q₁:=fun obj s₁=>obj = .ref s.heap.objs.size∧s₁ = { s with heap:=s.heap.push { cls:=.type "list",data:=.seq #[] } }) F.called_list (F.typeCall_list_1 _) F.entry_list_init
  (code_list_new _ ⟨rfl,rfl⟩) fun obj s₁ h₁=>?_
 obtain⟨rfl,rfl⟩:=h₁
 have hS:(s.heap.push { cls:=.type "list",data:=.seq #[] }).get? s.heap.objs.size=some { cls:=.type "list",data:=.seq #[] }:=Heap.get?_push_size _ rfl
 refine⟨⟨_,hS,rfl⟩,F.args_list_init_2 _ _,z5n (hn:=by rw[hlen];exact hn) W (fun i s x=>x.2.1.typeIs) _ ⟨bg _,?_,hl.at fun o e=>Heap.get?_push_of_some _ e⟩ hSf (ac ..) hS fun s' acc' c' hm hS' hacc=>?_⟩
 ·have e:((its.toArray.size:Nat):Int) - 1 - ((0:Nat):Int)=(its.length:Int) - 1:=by rw[hlen];omega
  rw[e]
  exact hit.at fun o e=>Heap.get?_push_of_some _ e
 ·have ea:acc'=its.reverse.toArray:=by
   obtain⟨h1,h2⟩:=hacc
   apply Array.ext_getElem?
   intro i
   by_cases hi:i<acc'.size
   ·have h3:=h2 i acc'[i] (aL hi)
    have hi':i<its.length:=by rw[←hlen,←h1];exact hi
    rw[aL hi,c4,eM hi',←h3,hlen,c4]
   ·rw[ez (by omega),c4,br (by rw[bY];omega)]
  subst ea
  rw[Moved.eq_with hm]
  exact⟨rfl,hQ s'.heap s'.toks c' (fun b o hb e=>hm.heap b o (fun hmem=>by
   rcases ah.mp hmem with e' | hmem
   ·exact absurd (Heap.lt_size e) (by rw[e'];exact bj _)
   ·exact hb (ai.mp hmem)) (Heap.get?_push_of_some _ e)) hS'⟩
end
section
variable{X:Cx}
theorem x3F{xs:List V}{us:List Value}(h:Vals xs us):Vals xs.reverse us.reverse:=by
 induction h with
 |nil=>exact .nil
 |cons r _ ih=>
  rw[bU,bU]
  exact ih.append (.cons r .nil)
def tRevO(K:aa)(te:TE):TE:=fun σ H Q=>te σ H fun x H1=>∃p ys,x = .ref p∧SqL K H1 p ys∧∀l,H1 l=none->Q (.ref l) (upd H1 l (.lst ys.reverse))
theorem y7W{e:Expr}{te:TE}{p p2 pos pos2:Pos}(hc:X.calm=true)(hg:Gl X "list")(hm:X.mg "list" = none)(hg2:Gl X "reversed")(hm2:X.mg "reversed" = none)(h:PE X e te)(he2:starEach [e] X.env=[(false,eval e X.env)])
  (he:starEach [.Call (.Name "reversed" p2) [e] [] pos2] X.env=[(false,eval (.Call (.Name "reversed" p2) [e] [] pos2) X.env)]):PE X (.Call (.Name "list" p) [.Call (.Name "reversed" p2) [e] [] pos2] [] pos) (tRevO X.K te):=by
 intro pins s σ H Q I hq
 refine wpAny_Call_Name_kw (z4G I hg hm PyProof.Rows.Boot.«list» (PyProof.Rows.callWith_type1 ?_ he rfl) (by decide) (by decide))
 rw[he]
 show wpAny _ _ (spliced [(false,eval (.Call (.Name "reversed" p2) [e] [] pos2) X.env)]) _ _ s
 refine Calls.spliced_cons ?_
 refine wpAny_Call_Name_kw (z4G I hg2 hm2 boot_reversed (PyProof.Rows.callWith_type1 (thn ((z1y h pa_nil he2) pos2 pins s σ H (fun vs H1=>match vs with
  |[x]=>∃p ys,x = .ref p∧SqL X.K H1 p ys∧∀l,H1 l=none->Q (.ref l) (upd H1 l (.lst ys.reverse))
  |_=>False) I hq) fun us s1 ⟨vs,H1,I1,r1,q1⟩=>?_) he2 rfl) (by decide) (by decide))
 cases r1 with
 |nil=>exact q1.elim
 |cons rx rr=>
  cases rr with
  |cons _ _=>exact q1.elim
  |nil=>
   obtain⟨a,ys,rfl,hs,k⟩:=q1
   cases rx
   obtain⟨its,rv,pl,hz⟩:=I1.list hs
   have hl:=pl.isList
   have hlen:=rv.length
   refine call_reversed_list hl ?_
   have eI:(its.toArray.size:Int) - 1=(its.length:Int) - 1:=by simp
   rw[eI]
   have I2:Inv X pins σ H1 { s1 with heap:=s1.heap.push (revObj a ((its.length:Int) - 1)) }:=I1.kept (t':=s1.toks) fun b o e=>Heap.get?_push_of_some _ e
   refine Calls.spliced_nil ?_
   have al:a<s1.heap.objs.size:=by obtain⟨o,e,_⟩:=hl;exact Heap.lt_size e
   refine y1w (l:=a) (its:=its) (I2.ok.hd hc) (az al) ⟨_,Heap.get?_push_size _ rfl,rfl,rfl⟩ (hl.at fun o e=>Heap.get?_push_of_some _ e) (by rw[size_push'];exact cD _) (by omega) fun h' tk c' kp e=>?_
   obtain⟨f0,f1,f2,f3,f4,f5⟩:=I1.fpOk (b:=s1.heap.objs.size) (ao _) (I1.hok.fresh (ao _))
   have I3:Inv X pins σ (upd H1 (s1.heap.push (revObj a ((its.length:Int) - 1))).objs.size (.lst ys.reverse)) { s1 with heap:=(s1.heap.push (revObj a ((its.length:Int) - 1))).push { cls:=.type "list",dict:=none,data:=.seq its.reverse.toArray c',slots:=#[] } }:=
    I2.laid (t':=s1.toks) (fun b o e=>Heap.get?_push_of_some _ e) (ao _) (show ObjOk X.prog X.w _ _ _ (.lst ys.reverse) from⟨by rw[bY];exact hz,its.reverse,c',x3F rv,Heap.get?_push_size _ rfl⟩)
   have hne:(s1.heap.push (revObj a ((its.length:Int) - 1))).objs.size≠s1.heap.objs.size:=by rw[size_push'];exact Nat.succ_ne_self _
   have I4:=I3.turned (h':=h') (t':=tk) (it:=s1.heap.objs.size) (fun b o hb eb=>by
    rcases Heap.get?_push_cases eb with⟨rfl,rfl⟩ | eb
    ·exact e
    ·exact kp b o hb eb) (by unfold upd;rw[if_neg (Ne.symm hne)];exact f0) f1 f3 f4 f5
   exact⟨.ref _,_,I4,rfl,k _ (I2.hok.fresh (ao _))⟩
def revF:List D->Option (List D)
 |[.lst ds]=>some ds.reverse
 |_=>none
theorem y5G{K:aa}{H:Hp}{B:Addr->Prop}:∀{ds:List D} {xs:List V},Reps K H B ds xs->Reps K H B ds.reverse xs.reverse
 |[],xs,h=>by
  unfold Reps at h
  subst h
  exact .nil
 |d::ds,xs,h=>by
  unfold Reps at h
  obtain⟨x,r,rfl,rx,rr⟩:=h
  rw[bU,bU]
  exact(y5G rr).append (.cons rx .nil)
theorem y7y{e:Expr}{f:DE}{p p2 pos pos2:Pos}(hc:X.calm=true)(hg:Gl X "list")(hm:X.mg "list" = none)(hg2:Gl X "reversed")(hm2:X.mg "reversed" = none)(h:PD X e f)(he2:starEach [e] X.env=[(false,eval e X.env)]:=by rfl)
  (he:starEach [.Call (.Name "reversed" p2) [e] [] pos2] X.env=[(false,eval (.Call (.Name "reversed" p2) [e] [] pos2) X.env)]:=by rfl):PF X (.Call (.Name "list" p) [.Call (.Name "reversed" p2) [e] [] pos2] [] pos) (z2H revF [f]):=
 (y7W hc hg hm hg2 hm2 h he2 he).imp fun σ H Q ⟨B,δ,ds,hB,S,q,k⟩=>by
  unfold z2H z0n z0n at q
  cases e1:f δ with
  |none=>rw[e1]at q;cases q
  |some d=>
  rw[e1]at q
  have q:revF [d]=some ds:=q
  unfold revF at q
  split at q
  ·rename_i es z
   cases z
   cases q
   refine⟨B,δ,_,hB,S,e1,fun v H1 s1 r1=>?_⟩
   unfold Rep at r1
   obtain⟨a,xs,rfl,_,ha,rs⟩:=r1
   exact⟨a,xs,rfl,SqL.of ha,fun l hl=>k l _ _ (s1.trans (z0q hl)) (s1.free hl) z0r ((y5G rs).mono (z0q hl))⟩
  ·cases q
end
def Thr(h:Heap)(e T:Addr)(cls:Value):Prop:=∃oe vs oT ts,h.get? e=some oe∧oe.cls=cls∧oe.data = .fields vs∧vs[1]? = some (.ref T)∧T≠e∧h.get? T=some oT∧oT.data = .fields ts∧ts[3]? = some .none∧oe.dict=none
def Thr0(h:Heap)(e:Addr)(cls:Value):Prop:=∃oe vs,h.get? e=some oe∧oe.cls=cls∧oe.data = .fields vs∧vs[1]? = some .none∧oe.dict=none
structure Gone(S ch:List Addr)(e:Addr)(cls:Value)(h h':Heap):Prop where
 keep:∀b o,b∉S->b∉ch->h.get? b=some o->h'.get? b=some o
 slot:∀b o,b∈S->b∉ch->h.get? b=some o->∃sl,h'.get? b=some { o with slots:=sl }
 there:∀b o,h.get? b=some o->∃o',h'.get? b=some o'
 thr:∃T,h.objs.size≤T∧Thr h' e T cls
section
variable{M:Model}{A:Around}{E:Value->Shared->Prop}{s:Shared}
theorem y5I{o:Obj}{f:Array Value->Array Value}(h:o.dict=none):(Obj.mapFields f o).dict=none:=by
 unfold Obj.mapFields
 split <;> exact h
theorem y1n{base:Heap}{env:Env}{outer:List Env}{L e:Addr}{oe:Obj}{vs:Array Value}{head:Value}{hadNext:Bool}{Q:Unit->Shared->Prop}
  (hfr:A.frames=some (env::outer)) (hl:s.heap.FunFrames base (env::outer)) (hf:env.frame=some L)
  (he:s.heap.get? e=some oe) (hd:oe.data = .fields vs) (hsz:1<vs.size) (hdn:oe.dict=none)
  (h:∀h',Gone (frs (env::outer)) [e] e oe.cls s.heap h'->Q () { s with heap:=h' }):
  wpAny M A (do let a ←frameOf env;let pl ←entryPlaceOf L hadNext;let b ←EntryCells.newEntry head a .none (rawInt L) .none pl;setField (.ref e) 1 b) (fun _ s'=>wpAny M A (setFlight (.ref e) none) Q E s') E s:=by
 have hene:e∉frs (env::outer):=fun hm=>by
  obtain⟨_,o,ho,hnf⟩:=hl.mem hm
  rw[he]at ho;injection ho with ho;subst ho;exact hnf vs hd
 refine wpAny_bind (wpAny_frameOf_fun hfr hl hf fun h₁ hs₁=>?_)
 refine wpAny_bind (wpAny_entryPlaceOf fun pl hpl=>?_)
 unfold EntryCells.newEntry newFields
 refine wpAny_bind (wpAny_newObj_type ?_ (hpl.sizeOk5 _ _ _ _ _))
 have he₁:h₁.get? e=some oe:=(hs₁.2.1 e hene).trans he
 generalize hob:({ cls:=.type "traceback",dict:=none,data:=.fields ([head,.ref L,.none,rawInt L,.none]++(if pl.isEmpty then aD 6 Value.none else pl)).toArray }:Obj)=ob
 have hobd:ob.data = .fields ([head,.ref L,.none,rawInt L,.none]++(if pl.isEmpty then aD 6 Value.none else pl)).toArray:=by rw[←hob]
 have hobf:ob.isFreed=false:=by rw[←hob];rfl
 have he₂:=Heap.get?_push_of_some (h:=h₁) ob he₁
 refine wpAny_setField he₂ hd hsz ?_
 have hTe:h₁.objs.size≠e:=bP (Heap.lt_size he₁)
 have hd₃:=Obj.data_mapFields hd (·.setIfInBounds 1 (Value.ref h₁.objs.size))
 have he₃:=Heap.get?_update_self (Obj.mapFields (·.setIfInBounds 1 (Value.ref h₁.objs.size))) he₂ (Obj.isFreed_of_fields hd₃)
 have hT₃:=(Heap.get?_update_other (h₁.push ob) (Obj.mapFields (·.setIfInBounds 1 (Value.ref h₁.objs.size))) (Ne.symm hTe)).trans (Heap.get?_push_size h₁ hobf)
 unfold setFlight
 refine wpAny_bind (wpAny_field he₃ hd₃ (x:=.ref h₁.objs.size) (by simp[hsz]) ?_)
 rw[if_pos (show(Value.ref h₁.objs.size != Value.none)=true from by simp)]
 refine wpAny_setField hT₃ hobd (by simp only[aB,aC,aZ,dM] <;> omega) (h _ ?_)
 have keep:∀b o,b≠e->h₁.get? b=some o →
   (((h₁.push ob).update e (Obj.mapFields (·.setIfInBounds 1 (Value.ref h₁.objs.size)))).update h₁.objs.size (Obj.mapFields (·.setIfInBounds 3 ((none:Option Addr).elim Value.none fun f=>rawInt f)))).get? b=some o:=fun b o hbe hb=>by
  have hbT:h₁.objs.size≠b:=bP (Heap.lt_size hb)
  rw[Heap.get?_update_other _ _ hbT,Heap.get?_update_other _ _ (Ne.symm hbe)]
  exact Heap.get?_push_of_some _ hb
 have heF:(((h₁.push ob).update e (Obj.mapFields (·.setIfInBounds 1 (Value.ref h₁.objs.size)))).update h₁.objs.size (Obj.mapFields (·.setIfInBounds 3 ((none:Option Addr).elim Value.none fun f=>rawInt f)))).get? e=some (Obj.mapFields (·.setIfInBounds 1 (Value.ref h₁.objs.size)) oe):=by
  rw[Heap.get?_update_other _ _ hTe];exact he₃
 refine⟨fun b o hb hc e1=>?_,fun b o hb hc e1=>?_,fun b o e1=>?_,h₁.objs.size,?_,?_⟩
 ·exact keep b o (fun z=>hc (by simp[z])) ((hs₁.2.1 b hb).trans e1)
 ·obtain⟨sl,e2⟩:=hs₁.2.2 b o e1
  exact⟨sl,keep b _ (fun z=>hc (by simp[z])) e2⟩
 ·by_cases hb:b=e
  ·exact⟨Obj.mapFields (·.setIfInBounds 1 (Value.ref h₁.objs.size)) oe,by rw[hb];exact heF⟩
  ·obtain⟨sl,e2⟩:=hs₁.2.2 b o e1
   exact⟨_,keep b _ hb e2⟩
 ·rw[hs₁.1]
  exact ao _
 ·exact⟨_,_,_,_,heF,Obj.cls_mapFields _ _,hd₃,by simp[hsz],hTe,Heap.get?_update_self _ hT₃ (Obj.isFreed_of_fields (Obj.data_mapFields hobd _)),Obj.data_mapFields hobd _,by first | (simp;done) | (rcases hpl with rfl | ⟨_,_,_,_,_,_,_,rfl⟩ <;> simp),y5I hdn⟩
theorem y7n{base:Heap}{env:Env}{outer:List Env}{L e:Addr}{cls:Value}{Q:Unit->Shared->Prop}
  (hfr:A.frames=some (env::outer)) (hl:s.heap.FunFrames base (env::outer)) (hf:env.frame=some L) (ht:Thr0 s.heap e cls)
  (h:∀h',Gone (frs (env::outer)) [e] e cls s.heap h'->Q () { s with heap:=h' }):wpAny M A (noteFrame (.ref e) env) (fun _ s'=>wpAny M A (setFlight (.ref e) none) Q E s') E s:=by
 obtain⟨oe,vs,he,rfl,hd,h1,hdn⟩:=ht
 unfold noteFrame
 simp only[hf]
 refine wpAny_bind (wpAny_field he hd h1 ?_)
 rw[if_neg (by decide)]
 exact y1n hfr hl hf he hd (aY.mp h1).1 hdn h
theorem y8F{base:Heap}{env:Env}{outer:List Env}{L e T:Addr}{cls:Value}{Q:Unit->Shared->Prop}
  (hfr:A.frames=some (env::outer)) (hl:s.heap.FunFrames base (env::outer)) (hf:env.frame=some L) (ht:Thr s.heap e T cls)
  (h:∀h',Gone (frs (env::outer)) [e,T] e cls s.heap h'->Q () { s with heap:=h' }):wpAny M A (noteFrame (.ref e) env) (fun _ s'=>wpAny M A (setFlight (.ref e) none) Q E s') E s:=by
 obtain⟨oe,vs,oT,ts,he,rfl,hd,h1,hTe,hT,hdT,h3,hdn⟩:=ht
 unfold noteFrame
 simp only[hf]
 refine wpAny_bind (wpAny_field he hd h1 ?_)
 rw[if_pos (show(Value.ref T != Value.none)=true from by simp)]
 refine wpAny_bind (wpAny_field hT hdT h3 ?_)
 rw[if_neg (show ¬ ((Value.none==rawInt L)=true) from by simp[rawInt])]
 refine wpAny_bind (wpAny_setField hT hdT (aY.mp h3).1 ?_)
 have other:∀b,b≠T->(s.heap.update T (Obj.mapFields (·.setIfInBounds 3 Value.none))).get? b=s.heap.get? b:=fun b hb=>Heap.get?_update_other _ _ (Ne.symm hb)
 have noRecord:∀b o,s.heap.get? b=some o->(∀vs,o.data≠.fields vs)->b≠T:=fun b o hb hnf q=>by
  rw[q,hT]at hb;injection hb with hb;subst hb;exact hnf ts hdT
 refine y1n hfr (hl.of_keeps fun b o hb hnf=>⟨o,(other b (noRecord b o hb hnf)).trans hb,rfl⟩) hf ((other e (Ne.symm hTe)).trans he) hd (aY.mp h1).1 hdn fun h' G=>h h' ?_
 refine⟨fun b o hb hc e1=>G.keep b o hb (fun z=>hc (ah.mpr (.inl (ai.mp z)))) ((other b fun z=>hc (by simp[z])).trans e1),fun b o hb hc e1=>G.slot b o hb (fun z=>hc (ah.mpr (.inl (ai.mp z)))) ((other b fun z=>hc (by simp[z])).trans e1),fun b o e1=>?_,?_⟩
 ·by_cases hb:b=T
  ·have e2:(s.heap.update T (Obj.mapFields (·.setIfInBounds 3 Value.none))).get? b=some (Obj.mapFields (·.setIfInBounds 3 Value.none) oT):=by
    rw[hb]
    exact Heap.get?_update_self _ hT (Obj.isFreed_of_fields (Obj.data_mapFields hdT _))
   exact G.there b _ e2
  ·exact G.there b o ((other b hb).trans e1)
 ·obtain⟨T',h1,h2⟩:=G.thr
  exact⟨T',by rwa [Heap.size_after_update]at h1,h2⟩
theorem z6O{env:Env}{e:Value}{Q:Unit->Shared->Prop}(h:wpAny M A (noteFrame e env) (fun _ s'=>wpAny M A (setFlight e none) Q E s') E s):wpAny M A (leaving env e) Q E s:=by
 unfold leaving
 exact wpAny_bind h
end
theorem ObjOk.some{P:dw}{w:fm}{H:Hp}{h:Heap}{a:Addr}{o:HO}(x:ObjOk P w H h a o):∃ob,h.get? a=Option.some ob:=by
 cases q:h.get? a with
 |some ob=>exact⟨ob,rfl⟩
 |none=>
  have y:ObjOk P w H h a o:=x
  induction o with
  |lst xs=>obtain⟨_,_,_,_,e⟩:=x;rw[q]at e;cases e
  |tup xs=>obtain⟨_,_,_,_,e,_⟩:=x;rw[q]at e;cases e
  |dK kvs=>obtain⟨_,_,_,_,_,_,_,e,_⟩:=x;rw[q]at e;cases e
  |dT kvs=>obtain⟨_,_,_,_,_,_,_,e,_⟩:=x;rw[q]at e;cases e
  |set S n=>obtain⟨_,_,_,_,e,_⟩:=x;rw[q]at e;cases e
  |ins C dx fs=>obtain⟨_,_,_,e,_⟩:=x;rw[q]at e;cases e
  |own y=>obtain⟨_,e⟩:=x;rw[q]at e;cases e
  |xd fs=>obtain⟨_,⟨_,_,_,e,_⟩,_⟩:=x;rw[q]at e;cases e
  |met f y=>have e:=x;unfold ObjOk at e;rw[q]at e;cases e
  |rng lo hi=>obtain⟨_,_,_,e⟩:=x;rw[q]at e;cases e
  |frz ob u ih=>have e:=x.1;rw[q]at e;cases e
  |tbl ps=>have e:=x;unfold ObjOk at e;rw[q]at e;cases e
  |ext φ=>obtain⟨_,⟨_,e⟩,_⟩:=x;rw[q]at e;cases e
section
variable{X:Cx}{pins:List (Addr×Obj)}{σ:St}{H:Hp}{s:Shared}
def FpX(X:Cx)(pins:List (Addr×Obj))(H:Hp)(b:Addr):Prop:=
 H b=none∧b≠X.env.locals∧(b∈X.ex∨X.s₀.heap.get? b=none)∧(∀x c,X.env.cells.lookup x=some c->c≠b)∧∀p∈X.pn++pins,p.1≠b
theorem Inv.fpX{H':Hp}{b:Addr}(I:Inv X pins σ H s)(hb:s.heap.get? b=none)(hn:H' b=none):FpX X pins H' b:=by
 refine⟨hn,fun z=>?_,?_,fun x c e z=>?_,fun p hp z=>?_⟩
 ·obtain⟨m,⟨o,_,_,ho,_⟩,_⟩:=I.loc
  rw[←z,hb]at ho
  cases ho
 ·by_cases hx:b∈X.ex
  ·exact .inl hx
  ·refine .inr ?_
   cases q:X.s₀.heap.get? b with
   |none=>rfl
   |some o=>
    obtain⟨o',e⟩:=I.base.there b o q hx
    rw[hb]at e
    cases e
 ·obtain⟨v,o,ho,_⟩:=I.cell x c e
  rw[z,hb]at ho
  cases ho
 ·have:=(I.pin p hp).1
  rw[z,hb]at this
  cases this
theorem Inv.fresh0{b:Addr}(I:Inv X pins σ H s)(hb:s.heap.get? b=none):H b=none:=by
 cases q:H b with
 |none=>rfl
 |some u=>
  obtain⟨o,e⟩:=(I.hok b u q).some
  rw[hb]at e
  cases e
theorem Inv.gone3{ch:List Addr}{h':Heap}(I:Inv X pins σ H s)(gk:∀b o,b∉frs X.stack->b∉ch->s.heap.get? b=some o->h'.get? b=some o)(gs:∀b o,b∈frs X.stack->b∉ch->s.heap.get? b=some o->∃sl,h'.get? b=some { o with slots:=sl })(gt:∀b o,s.heap.get? b=some o->∃o',h'.get? b=some o')(hch:∀b∈ch,FpX X pins H b):Inv X pins σ H { s with heap:=h' }:=by
 have nS:∀b u,H b=some u->b∉frs X.stack:=fun b u q z=>by rw[I.stkFree b z]at q;cases q
 have nC:∀b u,H b=some u->b∉ch:=fun b u q z=>by rw[(hch b z).1]at q;cases q
 have hok:HOk X.prog X.w H h':=fun b u q=>(I.hok b u q).stay (fun c v hc e=>by
  rcases hc with rfl | z
  ·exact gk _ v (nS _ u q) (nC _ u q) e
  ·exact gk c v (nS c _ z) (nC c _ z) e) (fun _ q=>q) fun _ _ q=>q
 have any:∀b o,b∉ch->s.heap.get? b=some o->∃sl,h'.get? b=some { o with slots:=sl }:=fun b o hc q=>by
  by_cases hb:b∈frs X.stack
  ·exact gs b o hb hc q
  ·exact⟨o.slots,gk b o hb hc q⟩
 have new:∀b o,X.s₀.heap.get? b=some o->b∉X.ex->b∉ch:=fun b o q hx z=>by
  rcases (hch b z).2.2.1 with y | y
  ·exact hx y
  ·rw[y]at q;cases q
 have kp:∀b o,b≠X.env.locals->b∉X.fs->b∉ch->s.heap.get? b=some o->h'.get? b=some o:=fun b o hL hb hc q=>
  gk b o (fun z=>(ah.mp (I.stkSub b z)).elim hL hb) hc q
 have old:∀b o,X.s₀.heap.get? b=some o->b≠X.env.locals:=fun b o q=>az (aI (Heap.lt_size q) I.ok.above)
 have cellK:∀x c,X.env.cells.lookup x=some c->∀v,s.heap.IsCell c v->h'.IsCell c v:=fun x c q v ⟨o,ho,hd⟩=>by
  obtain⟨sl,y⟩:=any c o (fun z=>(hch c z).2.2.2.1 x c q rfl) ho
  exact⟨_,y,hd⟩
 refine⟨I.ok,I.os,I.bare,⟨?_,?_,fun b o q n hx=>I.base.free b o q n hx,?_,I.base.tups,I.base.frzs,I.base.tbls⟩,?_,?_,I.free,I.freeC,?_,hok,I.len⟩
 ·exact fun b o q n hb hx=>kp b o (old b o q) hb (new b o q hx) (I.base.keep b o q n hb hx)
 ·intro b o q n hb hx
  obtain⟨sl,q1⟩:=I.base.slot b o q n hb hx
  obtain⟨sl',q2⟩:=any b _ (new b o q hx) q1
  exact⟨sl',q2⟩
 ·intro b o q hx
  obtain⟨o',q1⟩:=I.base.there b o q hx
  exact gt b o' q1
 ·obtain⟨m,⟨o,es,ep,ho,r⟩,hl⟩:=I.loc
  obtain⟨sl,hL⟩:=any _ o (fun z=>(hch _ z).2.1 rfl) ho
  refine⟨m,⟨_,es,ep,hL,r⟩,fun i x v e1 e2 e3=>?_⟩
  obtain⟨u,r,l⟩:=hl i x v e1 e2 e3
  exact⟨u,r,l.imp id fun⟨k,c,q,z⟩=>⟨k,c,q,cellK x c q _ z⟩⟩
 ·intro x c q
  obtain⟨v,z⟩:=I.cell x c q
  exact⟨v,cellK x c q v z⟩
 ·intro p hp
  obtain⟨q,n,ne,nf,d⟩:=I.pin p hp
  exact⟨kp p.1 p.2 ne nf (fun z=>(hch p.1 z).2.2.2.2 p hp rfl) q,n,ne,nf,d⟩
theorem Inv.gone{ch:List Addr}{e:Addr}{cls:Value}{h':Heap}(I:Inv X pins σ H s)(G:Gone (frs X.stack) ch e cls s.heap h')(hch:∀b∈ch,FpX X pins H b):Inv X pins σ H { s with heap:=h' }:=I.gone3 G.keep G.slot G.there hch
end
def CXE(P:dw)(w:fm):CXT:=fun outer H s E e s'=>∃(ea T:Addr) (cls:Value) (H':Hp),e = .ref ea∧s'.os=s.os∧AllBare s'.gens∧Un (frs outer) [] H H' s.heap s'.heap∧HOk P w H' s'.heap ∧
 s.heap.get? ea=none∧s.heap.get? T=none∧H' ea=none∧H' T=none∧Thr s'.heap ea T cls∧E cls none H'
section
variable{P:dw}{w:fm}{K:aa}{mg:Str->Option Value}{base:Heap}{N:List Str}{qual:Str}{scope:fB}{f:Addr}{cd:Value}{A:Around}{outer:List Env}{s:Shared}{H:Hp}{E:XK}
theorem x0E{pins:List (Addr×Obj)}{σ:St}{H1:Hp}{s1:Shared}{e:Addr}{cls:Value}(I:Inv (y0M (CXE P w) P w K mg base N qual scope f cd A outer s H E) pins σ H1 s1)
  (hf:FpX (y0M (CXE P w) P w K mg base N qual scope f cd A outer s H E) pins H1 e) (ht:Thr0 s1.heap e cls) (hE:E cls none H1):(y0M (CXE P w) P w K mg base N qual scope f cd A outer s H E).xe (.ref e) s1:=by
 refine z6O (y7n (base:=base) (outer:=outer) I.ok.frames I.stack rfl ht fun h' G=>?_)
 have I':=I.gone G fun b hb=>by rw[ai.mp hb];exact hf
 obtain⟨T,hT,th⟩:=G.thr
 have he:s.heap.get? e=none:=by
  rcases hf.2.2.1 with z | z
  ·exact absurd (show e∈([]:List Addr) from z) (by simp)
  ·exact z
 exact⟨e,T,cls,H1,rfl,I'.os,I'.bare,I'.base,I'.hok,he,Heap.get?_none_of_le (aG I.sz hT),hf.1,I.hok.fresh hT,th,hE⟩
end
section
variable{X:Cx}{x:Str}{C:Addr}{B Bn newId nid initId inN:String}{bm bmN:List Value}{np cpos pos:Pos}{e₀:Expr}{te:TE}
def tRaise(te:TE)(R:St->Hp->Prop):TS:=fun _ σ H=>te σ H fun _ H1=>R σ H1
def Want(X:Cx)(C:Addr)(R:St->Hp->Prop):Prop:=∀(pins:List (Addr×Obj)) (σ:St) (H:Hp) (s:Shared) (e:Addr),Inv X pins σ H s->FpX X pins H e->Thr0 s.heap e (.ref C)->R σ H->X.xe (.ref e) s
theorem x2t{R:St->Hp->Prop}(hc:X.calm=true)(hg:Gl X x)(O:OwnCls x C bm newId X.mg X.base)(Fn:ExcBaseFacts Bn newId inN bmN)(hBn:bm.contains (.type Bn)=true)(FB:ExcBaseFacts B nid initId bm)(hW:Want X C R)(h:PE X e₀ te)
  (he:starEach [e₀] X.env=[(false,eval e₀ X.env)]:=by rfl) (hd:(x==("__debug__" : Str))=false:=by decide):PS X (.Raise (some (.Call (.Name x np) [e₀] [] cpos)) none pos) (tRaise te R):=by
 intro pins s σ H D I hq
 obtain⟨tl,N,nm,q,bs,hdct,sn,sub,ab,col,dd,k0,k1,k2,k3,k5,mN,hC,hN,hni,T⟩:=O.obj
 refine wpAny_Raise_call_subU (C:=C) (nm:=nm) (q:=q) (N:=N) (bs:=bs) (bm:=tl) (hdct:=hdct) (sn:=sn) (sub:=sub) (ab:=ab) (col:=col) (dd:=dd) (k0:=k0) (k1:=k1) (k2:=k2) (k3:=k3) (k5:=k5)
  Fn hBn FB (mN:=mN) (T.hasType FB.hasBase) (I.ok.hd hc) (by rw[he];rfl) hni (y3Q I hg O.bound ⟨rfl,?_⟩ hd)
 have ha:=(z1y h pa_nil he) cpos pins s σ H (fun vs H1=>match vs with
  |[_]=>R σ H1
  |_=>False) I hq
 rw[he]at ha ⊢
 refine Calls.evalArgs_plain (thn ha fun us s2 ⟨vs,H2,I2,r2,q2⟩=>?_)
 cases r2 with
 |nil=>exact(show False from q2).elim
 |cons r r3=>
  cases r3 with
  |cons _ _=>exact(show False from q2).elim
  |nil=>
   refine⟨rfl,by show 1≤sizeLine;rw[sizeLine_eq];omega,I2.bk _ _ hC,hN.keeps I2.bk,T.keeps I2.bk,fun h' e hm=>?_⟩
   obtain⟨t,he',_⟩:=hm.there
   have I3:Inv X pins σ H2 { s2 with heap:=h' }:=I2.kept (t':=s2.toks) hm.keeps
   exact hW pins σ H2 _ e I3 (I2.fpX hm.new (I2.fresh0 hm.new)) ⟨_,_,he',rfl,rfl,rfl,rfl⟩ q2
variable{H0:Hp}{B0:Addr->Prop}{fr:Bool}{RX:XR}
def z3R(c:Nat)(f:DE):SS->Option Out:=fun δ=>(f (z0D δ)).map fun _=>.ex c δ
theorem s_raise{c:Nat}{f:DE}(hc:X.calm=true)(hg:Gl X x)(O:OwnCls x C bm newId X.mg X.base)(Fn:ExcBaseFacts Bn newId inN bmN)(hBn:bm.contains (.type Bn)=true)(FB:ExcBaseFacts B nid initId bm)(hW:Want X C (RX c))(h:PD X e₀ f)
  (he:starEach [e₀] X.env=[(false,eval e₀ X.env)]:=by rfl) (hd:(x==("__debug__" : Str))=false:=by decide):PS X (.Raise (some (.Call (.Name x np) [e₀] [] cpos)) none pos) (tS X.K H0 B0 fr RX (z3R c f)):=
 PS.imp (x2t hc hg O Fn hBn FB hW h he hd) fun D σ H ⟨δ,R,o,rs,q,k⟩=>by
  unfold z3R at q
  cases e:f (z0D δ)with
  |none=>rw[e]at q;cases q
  |some d=>
   rw[e]at q
   cases q
   exact⟨noB,z0D δ,d,.no,rs.all,e,fun v H1 s1 r1=>k σ H1 R (rs.mono s1) (.same s1)⟩
end
inductive XO where
 |val (d:D) | exc (c:Nat)
def spX(K:aa)(cl:Nat->Value)(m:List D->Option XO):Sp:=fun vs H Q E=>∃ds o,Reps K H noB ds vs∧m ds=some o∧(match o with
 |.val d=>∀v H' A,Same H H'->Tree K H' d v A->A.Nodup->(∀a∈A,H a=none)->Q v H'
 |.exc c=>∀H',Same H H'->E (cl c) none H')
def z9e(np nl:Nat)(g:SS->Option Out):List D->Option XO:=fun ds=>if ds.length=np then(match g (ds.map (fun d=>some (.sh d))++aD nl none)with
 |some (.rt d)=>some (.val d)
 |some (.nx _)=>some (.val .non)
 |some (.ex c _)=>some (.exc c)
 |_=>none)else none
theorem z7T{np nl:Nat}{g:SS->Option Out}{ds:List D}{o:XO}(h:z9e np nl g ds=some o):ds.length=np:=by
 unfold z9e at h
 split at h
 ·assumption
 ·cases h
abbrev x3S(cl:Nat->Value)(E:XK):XR:=fun c _ H1=>E (cl c) none H1
section
variable{P:dw}{w:fm}{K:aa}{mg:Str->Option Value}{base:Heap}
theorem fnX{x qual:Str}{st:Stmt}{f:Addr}{fd:fq}{N ps:List Str}{k np nl:Nat}{g:SS->Option Out}{cl:Nat->Value}(F:Fun K x qual st f fd)(S:FnScope N ps (z0e st))(hnp:ps.length=np)(hN:N.length=np+nl)
  (hbody:∀(cdv:Value) (A:Around) (outer:List Env) (s:Shared) (H:Hp) (E:XK),Room k (A.deeper (envOfC qual (z0e st) s.heap.objs.size f cdv)) →
   PSs (y0M (CXE P w) P w K mg base N qual (z0e st) f cdv A outer s H E) (z1f st) (tS K H noB true (x3S cl E) g)):FnOk P w K mg base (CXE P w) (k+1) f fd ps (spX K cl (z9e np nl g)):=by
 obtain⟨oc,od,kV,doc,pm,an,cdv,ct,osl,rfl,lk,hcd⟩:=F.ex
 refine fn_of lk hcd S (fun vs H Q E h=>?_) fun A outer s H vs Q E hr h=>?_
 ·obtain⟨ds,o,r,e,_⟩:=h
  rw[←r.length,z7T e,hnp]
 ·obtain⟨ds,o,r,e,kk⟩:=h
  refine⟨_,hbody cdv A outer s H E hr,?_⟩
  have hl:=z7T e
  unfold z9e at e
  rw[if_pos hl]at e
  have rs:=z7O (nl:=nl) .no r (N:=N) (by omega)
  split at e
  ·rename_i d' eg
   cases e
   exact⟨_,_,_,rs,eg,fun v H' z _=>by
    obtain⟨A',t,nd,fr⟩:=z.2.1 rfl
    exact kk v H' A' z.1 t nd fr⟩
  ·rename_i δ' eg
   cases e
   exact⟨_,_,_,rs,eg,fun σ' H' R' rs' _=>kk .non H' [] rs'.keep ⟨rfl,rfl⟩ bh (fun a z=>nomatch z)⟩
  ·rename_i c δ' eg
   cases e
   exact⟨_,_,_,rs,eg,fun σ' H' R' rs' _=>kk H' rs'.keep⟩
  ·cases e
structure DefX(P:dw)(w:fm)(K:aa)(mg:Str->Option Value)(base:Heap)(k:Nat)(x:Str)(sp:Sp):Prop where
 ok:∃(f:Addr) (fd:fq) (ps:List Str),mg x=some (.ref f)∧bC K (.ref f)=true∧Binds K fd ps []∧FnOk P w K mg base (CXE P w) k f fd ps sp
def XW(X:Cx)(cl:Nat->Value)(RX:XR):Prop:=∀(pins:List (Addr×Obj)) (σ:St) (H:Hp) (s:Shared) (ea T:Addr) (c:Nat),Inv X pins σ H s->FpX X pins H ea->FpX X pins H T->Thr s.heap ea T (cl c)->RX c σ H->X.xe (.ref ea) s
theorem y9k{N:List Str}{qual:Str}{scope:fB}{f:Addr}{cd:Value}{A:Around}{outer:List Env}{s:Shared}{H:Hp}{E:XK}{cl:Nat->Value}:XW (y0M (CXE P w) P w K mg base N qual scope f cd A outer s H E) cl (x3S cl E):=by
 intro pins σ H1 s1 ea T c I fe fT th hE
 refine z6O (y8F (base:=base) (outer:=outer) I.ok.frames I.stack rfl th fun h' G=>?_)
 have I':=I.gone G fun b hb=>by
  rcases ah.mp hb with rfl | hb
  ·exact fe
  ·rw[ai.mp hb];exact fT
 obtain⟨T',hT,th'⟩:=G.thr
 have he:s.heap.get? ea=none:=by
  rcases fe.2.2.1 with z | z
  ·exact absurd (show ea∈([]:List Addr) from z) (by simp)
  ·exact z
 exact⟨ea,T',cl c,H1,rfl,I'.os,I'.bare,I'.base,I'.hok,he,Heap.get?_none_of_le (aG I.sz hT),fe.1,I.hok.fresh hT,th',hE⟩
theorem z4U{N:List Str}{qual:Str}{scope:fB}{f C:Addr}{cd:Value}{A:Around}{outer:List Env}{s:Shared}{H:Hp}{E:XK}{cl:Nat->Value}{c:Nat}(hc:cl c = .ref C):Want (y0M (CXE P w) P w K mg base N qual scope f cd A outer s H E) C (x3S cl E c):=
 fun pins σ H1 s1 e I hf ht hE=>x0E I hf ht (by rw[←hc];exact hE)
end
section
variable{X:Cx}{k:Nat}{f:Addr}{fd:fq}{ps:List Str}{sp:Sp}{cl:Nat->Value}{RX:XR}
theorem run_fnX{pins:List (Addr×Obj)}{σ:St}{H:Hp}{s:Shared}{Q:VK}{us:List Value}{vs:List V}(F:FnOk X.prog X.w X.K X.mg X.base (CXE X.prog X.w) k f fd ps sp)(hr:Room k X.A)(hb:Binds X.K fd ps [])(hW:XW X cl RX)
  (I:Inv X pins σ H s) (r:Vals vs us) (h:sp vs H Q (fun cls _ H'=>∃c,cls=cl c∧RX c σ H')):wpAny (model X.prog X.w) X.A (call (.ref f) us) (EP X pins σ Q) X.xe s:=by
 have hl:us.length=ps.length:=by rw[←r.length];exact F.len _ _ _ _ h
 have hb':=hb s us I.kIn (by rw[aH];exact hl)
 rw[aH]at hb'
 refine wpAny_call (codeAny_mono (F.run X.A X.stack s H ⟨us,[]⟩ us vs Q _ hr I.env0 hb' r h) fun r s' hq=>?_)
 cases r with
 |error e=>
  obtain⟨ea,T,cls,H',rfl,os,bare,un,hok,h1,h2,h3,h4,th,c,rfl,rx⟩:=hq
  exact hW pins σ H' s' ea T c (I.call' os un hok bare fun b hb=>nomatch hb) (I.fpX h1 h3) (I.fpX h2 h4) th rx
 |ok fl=>
  cases fl with
  |ret u=>exact I.after hq
  |next=>exact False.elim hq
  |brk=>exact False.elim hq
  |cont=>exact False.elim hq
end
section
variable{X:Cx}{k:Nat}{sp:Sp}{cl:Nat->Value}{RX:XR}{x:Str}{p pos:Pos}{e:Expr}{es:List Expr}{t:TA}
def tCallX(cl:Nat->Value)(RX:XR)(sp:Sp)(t:TA):TE:=fun σ H Q=>t σ H fun vs H1=>sp vs H1 Q fun cls _ H'=>∃c,cls=cl c∧RX c σ H'
theorem y5s(G:DefX X.prog X.w X.K X.mg X.base k x sp)(hr:Room k X.A)(hg:Gl X x)(hW:XW X cl RX)(ha:PA X (e::es) t)(hdb:(x==("__debug__" : Str))=false:=by decide)
  (he:starEach (e::es) X.env=(false,eval e X.env)::starEach es X.env:=by rfl) (hpl:(fw pos (starEach es X.env)).any (·.1)=false:=by rfl):PE X (.Call (.Name x p) (e::es) [] pos) (tCallX cl RX sp t):=by
 obtain⟨f,fd,ps,hm,hk,hb,ok⟩:=G.ok
 intro pins s σ H Q I h
 refine wpAny_Call_Name_kw (y3Q I hg hm ?_ hdb)
 refine eF (h₀:=X.base) I.ok.mod.kin hk (thn (ha pos pins s σ H _ I h) fun us s1 ⟨vs,H1,I1,r,q⟩=>⟨I1.kIn,?_⟩) he hpl
 exact run_fnX ok hr hb hW I1 r q
def tX(K:aa)(RX:XR)(F:DS->Option XO):TE:=fun σ H Q=>∃δ o,RepS K H noB σ δ∧F δ=some o∧(match o with
 |.val d=>∀v H' A,Same H H'->Tree K H' d v A->A.Nodup->(∀a∈A,H a=none)->Q v H'
 |.exc c=>∀H',Same H H'->RX c σ H')
def z3g(m:List D->Option XO)(fl:List DE):DS->Option XO:=fun δ=>(z0n fl δ).bind m
theorem y0Y{m:List D->Option XO}{fl:List DE}(G:DefX X.prog X.w X.K X.mg X.base k x (spX X.K cl m))(hr:Room k X.A)(hg:Gl X x)(hW:XW X cl RX)(ha:PAD X (e::es) fl)(hdb:(x==("__debug__" : Str))=false:=by decide)
  (he:starEach (e::es) X.env=(false,eval e X.env)::starEach es X.env:=by rfl) (hpl:(fw pos (starEach es X.env)).any (·.1)=false:=by rfl):PE X (.Call (.Name x p) (e::es) [] pos) (tX X.K RX (z3g m fl)):=
 (y5s G hr hg hW ha hdb he hpl).imp fun σ H Q ⟨δ,o,S,q,kk⟩=>by
  unfold z3g at q
  cases e1:z0n fl δ with
  |none=>rw[e1]at q;cases q
  |some ds=>
   rw[e1,aA]at q
   refine⟨noB,δ,ds,.no,S,e1,fun vs H1 s1 r1=>⟨ds,o,r1,q,?_⟩⟩
   cases o with
   |val d=>exact fun v H' A s' t nd fr=>kk v H' A (s1.trans s') t nd fun a ha=>s1.free (fr a ha)
   |exc c=>exact fun H' s'=>⟨c,rfl,kk H' (s1.trans s')⟩
variable{H0:Hp}{B0:Addr->Prop}{fr:Bool}{F:DS->Option XO}
def y4E(F:DS->Option XO):SS->Option Out:=fun δ=>(F (z0D δ)).map fun o=>match o with
 |.val _=>.nx δ
 |.exc c=>.ex c δ
theorem y5a(h:PE X e (tX X.K RX F))(hs:swapsWith e none pos.line X.env=pure false:=by rfl):PS X (.Expr e pos) (tS X.K H0 B0 fr RX (y4E F)):=PS.imp (z6U h hs) fun D σ H ⟨δ,R,o,rs,q,k⟩=>by
 unfold y4E at q
 cases e1:F (z0D δ)with
 |none=>rw[e1]at q;cases q
 |some o1=>
  rw[e1]at q
  refine⟨z0D δ,o1,rs.all,e1,?_⟩
  cases o1 with
  |val d=>
   cases q
   exact fun v H' A s t nd fr'=>k σ H' R (rs.mono s) (Stp.same s)
  |exc c=>
   cases q
   exact fun H' s=>k σ H' R (rs.mono s) (.same s)
end
section
end
section
end
section
end
section
end
section
variable{K:aa}{H0 H:Hp}{B0:Addr->Prop}{σ:St}{δ:SS}{R:Nat->List Addr}
def movS(i j:Nat)(d:D)(δ:SS):SS:=((z0S j δ).set j none).set i (some (.ow d))
theorem y0N{i j k:Nat}{d:D}{x:SD}(h:(movS i j d δ)[k]? = some (some x)):(k=i∧x = .ow d∧i<δ.length)∨(k≠i∧k≠j∧δ[k]? = some (some x)∧∀d,x≠.bo j d):=by
 unfold movS at h
 rcases z2C h with⟨e,q,hl⟩ | ⟨hk,q⟩
 ·cases q
  refine .inl ⟨e,rfl,?_⟩
  rw[List.length_set]at hl
  unfold z0S at hl
  rwa [aq]at hl
 ·rcases z2C q with⟨e,q',_⟩ | ⟨hj,q'⟩
  ·cases q'
  ·exact .inr ⟨hk,hj,z4V q'⟩
theorem RS.mov{i j:Nat}{d:D}{v:V}(hij:i≠j)(h:RS K H0 B0 H σ δ R)(t:Tree K H d v (R j))(nd:(R j).Nodup):RS K H0 B0 H (σ.set i (some v)) (movS i j d δ) (y3A (y3A R j []) i (R j)):=by
 have up:∀{k:Nat} {w:V},k≠i->σ[k]? = some (some w)->(σ.set i (some v))[k]? = some (some w):=fun hj e=>by rw[bv (Ne.symm hj)];exact e
 have mem:∀r a,a∈y3A (y3A R j []) i (R j) r->(r=i∧a∈R j)∨(r≠i∧r≠j∧a∈R r):=fun r a z=>by
  by_cases hr:r=i
  ·subst hr;rw[z0X]at z;exact .inl ⟨rfl,z⟩
  ·rw[z1I hr]at z
   by_cases hj:r=j
   ·subst hj;rw[z0X]at z;cases z
   ·rw[z1I hj]at z;exact .inr ⟨hr,hj,z⟩
 refine⟨h.keep,h.inB,by unfold movS z0S;simp[h.len],fun r a z=>?_,fun r a z=>?_,fun r s a z z'=>?_,fun k d' z=>?_,fun k r' d' z=>?_,fun k d' z=>?_⟩
 ·rcases mem r a z with⟨_,z⟩ | ⟨_,_,z⟩ <;> exact h.new _ a z
 ·rcases mem r a z with⟨_,z⟩ | ⟨_,_,z⟩ <;> exact h.held _ a z
 ·rcases mem r a z with⟨h1,z⟩ | ⟨h1,h1',z⟩ <;> rcases mem s a z' with⟨h2,z'⟩ | ⟨h2,h2',z'⟩
  ·rw[h1,h2]
  ·exact absurd (h.disj s j a z' z) h2'
  ·exact absurd (h.disj r j a z z') h1'
  ·exact h.disj r s a z z'
 ·rcases y0N z with⟨_,q,_⟩ | ⟨h1,h2,q,_⟩
  ·cases q
  ·obtain⟨w,e1,r⟩:=h.sh k d' q
   refine⟨w,up h1 e1,r.anti fun a z=>z.imp id fun⟨r,z⟩=>?_⟩
   rcases mem r a z with⟨_,z⟩ | ⟨_,_,z⟩ <;> exact⟨_,z⟩
 ·rcases y0N z with⟨_,q,_⟩ | ⟨h1,h2,q,hn⟩
  ·cases q
  ·obtain⟨w,e1,r⟩:=h.bo k r' d' q
   have hr':r'≠j:=fun e=>hn d' (by rw[e])
   refine⟨w,up h1 e1,r.anti fun a z=>z.imp id fun⟨s,hs,z⟩=>?_⟩
   rcases mem s a z with⟨_,z⟩ | ⟨_,_,z⟩
   ·exact⟨j,Ne.symm hr',z⟩
   ·exact⟨s,hs,z⟩
 ·rcases y0N z with⟨e,q,hl⟩ | ⟨h1,h2,q,_⟩
  ·cases q
   subst e
   rw[z0X]
   exact⟨v,by rw[cj];simp[←h.len,hl],t,nd⟩
  ·obtain⟨w,e1,t'⟩:=h.ow k d' q
   rw[z1I h1,z1I h2]
   exact⟨w,up h1 e1,t'⟩
end
section
variable{X:Cx}{H0:Hp}{B0:Addr->Prop}{fr:Bool}{RX:XR}{st:Stmt}
def movO(i j:Nat):SS->Option Out:=fun δ=>match δ[j]? with
 |some (some (.ow d))=>some (.nx (movS i j d δ))
 |_=>none
theorem s_mov{i j:Nat}(hij:i≠j)(h:PAsg X st i (y7r j)):PS X st (tS X.K H0 B0 fr RX (movO i j)):=PS.imp h fun D σ H ⟨δ,R,o,rs,q,k⟩=>by
 unfold movO at q
 split at q
 ·rename_i d e
  cases q
  obtain⟨v,e1,t,nd⟩:=rs.ow j d e
  refine⟨v,e1,k _ H _ (rs.mov hij t nd) ⟨fun a o h _=>h,fun r a z=>?_,fun a z=>z⟩⟩
  by_cases hr:r=i
  ·subst hr;rw[z0X]at z;exact .inl ⟨j,z⟩
  ·rw[z1I hr]at z
   by_cases hj:r=j
   ·subst hj;rw[z0X]at z;cases z
   ·rw[z1I hj]at z;exact .inl ⟨r,z⟩
 ·cases q
end
theorem z7S{X:Cx}{H0:Hp}{B0:Addr->Prop}{fr:Bool}{RX:XR}{body:List Stmt}:PSs X body (tS X.K H0 B0 fr RX fun _=>none):=fun _ _ _ _ _ _ ⟨_,_,_,_,e,_⟩=>nomatch e
def Itv(K:aa)(a:Addr)(n:Nat):It:=
 ⟨fun i H=>i<n∧∃xs x,SqL K H a xs∧xs[n - 1 - i]? = some x,fun i H v H'=>H'=H∧i<n∧∀xs,SqL K H a xs->xs[n - 1 - i]? = some v,fun i _=>n≤i⟩
theorem x2H{P:dw}{w:fm}{K:aa}{tg:Expr}(a it:Addr)(n:Nat):Turn P w K tg (Itv K a n) [it] it (fun i h=>i≤n∧h.IsRevIter it a ((n:Int) - 1 - (i:Int))) where
 mem:=by simp
 obj:=fun i h st b hb=>by
  have e:b=it:=by simpa using hb
  subst e
  obtain⟨_,o,e,c,d⟩:=st
  exact⟨o,e,fun v z=>by rw[d]at z;cases z⟩
 keep:=fun i h h' st k=>⟨st.1,st.2.at fun o e=>k it (by simp) o e⟩
 item:=by
  intro X hP hw hK hc i pins s σ H E I hf st hg
  subst hP hw hK
  obtain⟨hi,xs,x,hq,hx⟩:=hg
  obtain⟨its,rv,p,hz⟩:=I.list hq
  obtain⟨u,hu,ru⟩:=rv.get hx
  obtain⟨f0,f1,f2,f3,f4,f5⟩:=hf it (by simp)
  have e1:(n:Int) - 1 - (i:Int)=((n - 1 - i:Nat):Int):=by omega
  have st2:=st.2
  rw[e1]at st2
  refine wpAny_pyNext_rev_item st2 p.isList (x:=u) (by simpa using hu) fun h' st' sb=>?_
  have I1:Inv X pins σ H { s with heap:=h' }:=I.turned (t':=s.toks) (fun b o hb e=>(sb.2 b hb).trans e) f0 f1 f3 f4 f5
  obtain⟨o,e,c,d⟩:=id st'
  have e2:((n - 1 - i:Nat):Int) - 1=(n:Int) - 1 - ((i+1:Nat):Int):=by omega
  rw[e2]at st'
  exact⟨u,rfl,x1l (s:={ s with heap:=h' }) e c d (by decide) ⟨x,H,I1,ru,⟨rfl,hi,fun ys hy=>by rw[I.list_inj hy hq];exact hx⟩,⟨by omega,st'⟩,fun b hb=>(hf b hb).1⟩⟩
 done:=by
  intro X hP hw hK hc i pins s σ H E I hf st hg
  subst hP hw hK
  have hg:n≤i:=hg
  obtain⟨f0,f1,f2,f3,f4,f5⟩:=hf it (by simp)
  have e1:(n:Int) - 1 - (i:Int) = -1:=by have:=st.1;omega
  have st2:=st.2
  rw[e1]at st2
  exact wpAny_pyNext_rev_end (I.ok.hd hc) st2 fun h' eb=>⟨rfl,I.turned (t':=s.toks) (fun b o hb e=>eb b o hb e) f0 f1 f3 f4 f5⟩
 self:=fun _ _ _ _ _ st h=>wpAny_pyIter_revIter st.2 h
section
variable{X:Cx}
def iRev(K:aa)(tl:TE):TI:=fun σ H R=>tl σ H fun x H1=>∃a xs,[x]=[V.ref a]∧SqL K H1 a xs∧R (Itv K a xs.length) H1
theorem pi_rev{tg:Expr}{p pos:Pos}{l:Expr}{tl:TE}(hg:Gl X "reversed")(hm:X.mg "reversed" = none)(hl:PE X l tl)(hs:starEach [l] X.env=[(false,eval l X.env)]:=by rfl):
  PI X tg (.Call (.Name "reversed" p) [l] [] pos) (iRev X.K tl):=by
 intro pins s σ H R I h
 have hA:PA X [l] (fun σ H Q=>tl σ H fun x H1=>Q [x] H1):=(z1y hl pa_nil (by rw[hs];rfl)).imp fun σ H Q q=>q
 refine wpAny_Call_Name_kw (z4G I hg hm boot_reversed (PyProof.Rows.callWith_type1 (thn (hA pos pins s σ H (fun vs H1=>∃a xs,vs=[V.ref a]∧SqL X.K H1 a xs∧R (Itv X.K a xs.length) H1) I h) fun us s1 ⟨vs,H1,I1,r1,q1⟩=>?_) hs rfl) (by decide) (by decide))
 obtain⟨a,xs,rfl,hq,q⟩:=q1
 obtain⟨u,rfl,ru⟩:=r1.one
 cases ru
 obtain⟨its,rv,pl,hz⟩:=I1.list hq
 have hlen:=rv.length
 refine call_reversed_list pl.isList ?_
 refine wpAny_pyIter_revIter (i:=(its.toArray.size:Int) - 1) ⟨_,Heap.get?_push_size _ rfl,rfl,rfl⟩ ?_
 have I2:Inv X pins σ H1 { s1 with heap:=s1.heap.push (revObj a ((its.toArray.size:Int) - 1)) }:=I1.kept (t':=s1.toks) fun b o e=>Heap.get?_push_of_some _ e
 refine⟨s1.heap.objs.size,[s1.heap.objs.size],_,_,H1,rfl,I2,x2H a _ xs.length,⟨bg _,?_⟩,fun b hb=>?_,q⟩
 ·refine⟨_,Heap.get?_push_size _ rfl,rfl,?_⟩
  have e:(xs.length:Int) - 1 - ((0:Nat):Int)=(its.toArray.size:Int) - 1:=by simp;omega
  rw[e]
  rfl
 ·have e:b=s1.heap.objs.size:=by simpa using hb
  subst e
  exact I1.fpOk (ao _) (I1.hok.fresh (ao _))
end
theorem itd_rev{K:aa}{H:Hp}{B:Addr->Prop}{a:Addr}{xs:List V}{ds:List D}(hs:∀H',Keep K B H H'->SqL K H' a xs)(r:Reps K H B ds xs):ItD K (Itv K a xs.length) H B ds.reverse:=by
 have hl:=r.length
 refine⟨fun i H' kp hi=>?_,fun i H' kp hi=>?_,fun i H' v H2 kp hy=>?_⟩
 ·rw[bY,hl]at hi
  exact⟨hi,xs,xs[xs.length - 1 - i],hs H' kp,ax (by omega)⟩
 ·rw[bY,hl]at hi
  exact hi
 ·obtain⟨rfl,hi,hx⟩:=hy
  refine⟨.refl H2,?_⟩
  have hx:=hx xs (hs H2 kp)
  obtain⟨d,e,rd⟩:=(Reps.keep kp ds r).get' hx
  refine⟨d,fun _=>?_,rd⟩
  rw[eM (by omega),hl]
  exact e
def revS:D->Option (List D)
 |.lst ds=>some ds.reverse
 |_=>none
def y8n(f:DE):DS->Option (List D):=fun δ=>(f δ).bind revS
section
variable{X:Cx}
theorem y3G{tg:Expr}{p pos:Pos}{l:Expr}{f:DE}(hg:Gl X "reversed")(hm:X.mg "reversed" = none)(h:PD X l f)(hs:starEach [l] X.env=[(false,eval l X.env)]:=by rfl):
  PID X tg (.Call (.Name "reversed" p) [l] [] pos) (y8n f):=(pi_rev hg hm h hs).imp fun σ H R ⟨B,δ,ds,hB,S,q,k⟩=>by
 unfold y8n at q
 cases e:f δ with
 |none=>rw[e]at q;cases q
 |some d=>
  rw[e]at q
  have q':revS d=some ds:=q
  refine⟨B,δ,d,hB,S,e,fun v H1 s1 r1=>?_⟩
  unfold revS at q'
  split at q'
  ·cases q'
   unfold Rep at r1
   obtain⟨a,xs,rfl,n,h,r⟩:=r1
   refine⟨a,xs,rfl,SqL.of h,k _ H1 s1 fun C hC=>?_⟩
   have na:¬ (B a∨C a):=fun z=>z.elim n fun z=>by rw[hC a z]at h;cases h
   exact itd_rev (xs:=xs) (fun H' kp=>SqL.of (kp.sl a xs na h)) (Reps.wide hC _ r)
  ·cases q'
end
section
end
section
end
abbrev y7u:List Value:=[.type "ValueError",.type "Exception",.type "BaseException",.type "object"]
theorem z9S{K:aa}{h:Heap}{mg:Str->Option Value}{x:Str}{C:Addr}{bl:List Value}{nid:String}(X:K.In h)(G:h.Ns mainGlobals mg)(ha:aE K mainGlobals x=some (some (.ref C)))(hq:bM K C bl nid=true):OwnCls x C bl nid mg h:=by
 refine⟨dQ X G ha,?_⟩
 unfold bM at hq
 cases hk:K.lookup C with
 |none=>rw[hk]at hq;cases hq
 |some ob=>
  rw[hk]at hq
  have hat:=X _ _ hk
  split at hq
  case h_2=>cases hq
  case h_1 od cls sl z=>
   cases z
   split at hq
   case h_2=>cases hq
   case h_1 C1 tl b0 b1 b2 b3 n b5 em es=>
    simp only[aM,beq_iff_eq,Bool.not_eq_true']at hq
    obtain⟨⟨⟨⟨⟨z1,z2⟩,z3⟩,z4⟩,z5⟩,z6⟩:=hq
    cases cls with
    |mk nm bs mro ns qn hd sn sub ab col del=>
     cases sl with
     |mk l=>
      dsimp only at em es z3 z5 z6
      rw[em,es,z3,z1,z2]at hat
      exact⟨tl,ns,nm,qn,bs,hd,sn,sub,ab,col,od,b0,b1,b2,b3,b5,_,hat,.of_isNs (PySem.W.isNs_of_in X z5),PySem.W.nsMap_none_of_in X z5 z6,PySem.W.tail_of_in X z4⟩
section
variable{X:Cx}{x:Str}{C:Addr}{np cpos pos:Pos}{e₀:Expr}{H0:Hp}{B0:Addr->Prop}{fr:Bool}{RX:XR}
theorem z4O{c:Nat}{f:DE}(hc:X.calm=true)(hg:Gl X x)(O:OwnCls x C y7u "ValueError.__new__" X.mg X.base)(hW:Want X C (RX c))(h:PD X e₀ f)
  (he:starEach [e₀] X.env=[(false,eval e₀ X.env)]:=by rfl) (hd:(x==("__debug__" : Str))=false:=by decide):PS X (.Raise (some (.Call (.Name x np) [e₀] [] cpos)) none pos) (tS X.K H0 B0 fr RX (z3R c f)):=
 s_raise hc hg O PySem.F.excBase_ValueError (by decide) PySem.F.excBase_ValueError hW h he hd
end
def valO:Option XO->Option D
 |some (.val d)=>some d
 |_=>none
def z1Q(m:List D->Option XO)(fl:List DE):DE:=fun δ=>valO (z3g m fl δ)
section
variable{X:Cx}{k:Nat}{cl:Nat->Value}{x:Str}{p pos:Pos}{e:Expr}{es:List Expr}
theorem xw_no:XW X cl noX:=fun _ _ _ _ _ _ _ _ _ _ _ h=>h.elim
theorem z2n{m:List D->Option XO}{fl:List DE}(G:DefX X.prog X.w X.K X.mg X.base k x (spX X.K cl m))(hr:Room k X.A)(hg:Gl X x)(ha:PAD X (e::es) fl)(hdb:(x==("__debug__" : Str))=false:=by decide)
  (he:starEach (e::es) X.env=(false,eval e X.env)::starEach es X.env:=by rfl) (hpl:(fw pos (starEach es X.env)).any (·.1)=false:=by rfl):PN X (.Call (.Name x p) (e::es) [] pos) (z1Q m fl):=
 (y0Y (RX:=noX) G hr hg xw_no ha hdb he hpl).imp fun σ H Q ⟨δ,d,S,q,kk⟩=>by
  unfold z1Q at q
  cases e1:z3g m fl δ with
  |none=>rw[e1]at q;cases q
  |some o=>
   rw[e1]at q
   cases o with
   |exc c=>cases q
   |val d'=>
    cases q
    exact⟨δ,.val d,S,e1,kk⟩
end
section
end
section
end
section
end
section
end
section
end
def tNs(K:aa)(f:DS->Option (List D)):TA:=fun σ H Q=>∃δ ds,RepS K H noB σ δ∧f δ=some ds∧∀vs H' A,Same H H'->Trees K H' ds vs A->A.Nodup->(∀a∈A,H a=none)->Q vs H'
abbrev PAN(X:Cx)(es:List Expr)(fl:List DE):Prop:=PA X es (tNs X.K (z0n fl))
theorem Trees.len{K:aa}{H:Hp}:∀{ds:List D} {xs:List V} {A:List Addr},Trees K H ds xs A->ds.length=xs.length
 |[],_,_,h=>by unfold Trees at h;rw[h.1];rfl
 |d::ds,_,_,h=>by
  unfold Trees at h
  obtain⟨x,r,C,C',rfl,_,h2,_⟩:=h
  simp[Trees.len h2]
section
variable{X:Cx}{e:Expr}{es:List Expr}{pos:Pos}
theorem pan_nil:PAN X [] []:=pa_nil.imp fun σ H Q ⟨δ,ds,S,q,k⟩=>by
 cases q
 exact k [] H [] (.refl H) ⟨rfl,rfl⟩ bh (fun a z=>nomatch z)
theorem x2J{f:DE}{fl:List DE}(ha:PN X e f)(hr:PAN X es fl)(hs:starEach (e::es) X.env=(false,eval e X.env)::starEach es X.env:=by rfl):PAN X (e::es) (f::fl):=(z1y ha hr hs).imp fun σ H Q ⟨δ,ds,S,q,k⟩=>by
 obtain⟨x,xs,e1,e2,rfl⟩:=z6D q
 refine⟨δ,x,S,e1,fun v H1 A s1 t1 nd1 f1=>⟨δ,xs,S.mono s1,e2,fun vs H2 C s2 t2 nd2 f2=>?_⟩⟩
 refine k (v::vs) H2 (A++C) (s1.trans s2) ?_ ?_ fun a ha=>?_
 ·unfold Trees
  exact⟨v,vs,A,C,rfl,t1.mono s2,t2,rfl⟩
 ·refine bb.mpr ⟨nd1,nd2,fun a ha b hb z=>?_⟩
  subst z
  obtain⟨o,q',_⟩:=t1.held x a ha
  rw[f2 a hb]at q';cases q'
 ·rcases au.mp ha with z | z
  ·exact f1 a z
  ·exact s1.free (f2 a z)
theorem pn_list{fl:List DE}(h:PAN X es fl)(hl:fl.length≤1000:=by decide):PN X (.List es pos) (mkL (z0n fl)):=(y9K h).imp fun σ H Q ⟨δ,d,S,q,k⟩=>by
 unfold mkL at q
 cases r:z0n fl δ with
 |none=>rw[r]at q;cases q
 |some ds=>
  rw[r]at q
  cases q
  refine⟨δ,ds,S,r,fun vs H1 A s1 t1 nd fa=>⟨?_,fun p hp=>?_⟩⟩
  ·rw[←t1.len,z2O r]
   exact ck (z9a hl)
  ·have sp:=z0q (o:=.lst vs) hp
   refine k (.ref p) _ (p::A) (s1.trans sp) ?_ (ay.mpr ⟨fun z=>?_,nd⟩) fun a ha=>?_
   ·unfold Tree
    exact⟨p,vs,A,rfl,z0r,t1.mono sp,rfl⟩
   ·obtain⟨o,q',_⟩:=Trees.held ds t1 p z
    rw[hp]at q';cases q'
   ·rcases ah.mp ha with z | z
    ·rw[z];exact s1.free hp
    ·exact fa a z
variable{H0:Hp}{B0:Addr->Prop}{a:Expr}
def x1h(δ:SS)(i:Nat):Option D:=match δ[i]? with
 |some (some (.ow d))=>some d
 |some (some (.sh d))=>if d.imm=true then some d else none
 |_=>none
def ret2(i j:Nat):SS->Option Out:=fun δ=>match x1h δ i,x1h δ j with
 |some d,some e=>some (.rt (.lst [d,e]))
 |_,_=>none
theorem x4j{K:aa}{H:Hp}{σ:St}{δ:SS}{R:Nat->List Addr}{i:Nat}{d:D}(rs:RS K H0 B0 H σ δ R)(h:x1h δ i=some d):∃v A,σ[i]? = some (some v)∧Tree K H d v A∧A.Nodup∧∀a∈A,a∈R i:=by
 unfold x1h at h
 split at h
 ·rename_i d' e
  cases h
  obtain⟨v,e1,t,nd⟩:=rs.ow i _ e
  exact⟨v,R i,e1,t,nd,fun a z=>z⟩
 ·rename_i d' e
  split at h
  ·rename_i hi
   cases h
   obtain⟨v,e1,r⟩:=rs.sh i _ e
   exact⟨v,[],e1,r.immTree _ hi,bh,(fun a z=>nomatch z)⟩
  ·cases h
 ·cases h
end
section
end
def dIxX(F:DS->Option XO)(g:DE):DS->Option XO:=fun δ=>match F δ with
 |some (.val d)=>(g δ).bind fun y=>(ixD d y).bind fun z=>if z.imm=true then some (.val z)else none
 |some (.exc c)=>some (.exc c)
 |none=>none
section
end
end L2
namespace PySem
open Sem (wp)
theorem y4X:typeLookup (.type "dict") "__len__" = pure (some (.builtin "dict.__len__")):=by rw[typeLookup_type,builtinLookup_eq_fast];kernel_rfl
section
variable{K:Type}[DecidableEq K]{prog:dw}{w:fm}{knd:KeyKind prog w K}{A:Around}{E:Value->Shared->Prop}{s:Shared}
theorem z6A{d:Addr}{kvs:List (K×Value)}{ep:Nat}{Q:List Value->Shared->Prop}(hh:A.in1.handled=none)(hd:(d==sysModules)=false)(hm:s.heap.DictAt knd d kvs ep)(hn:kvs.length≤sizeLine)
  (hQ:∀s' acc,Moved [] (fun a b=>b=a) s s'->ItemsOf (fun i v=>∃k x,kvs[i]? = some (k,x)∧knd.is k v=true) acc kvs.length->Q acc.toList s'):wpAny (model prog w) A (collect (.ref d)) Q E s:=by
 have hlt:(d:Nat)<s.heap.objs.size:=hm.lt_size
 have hSd:s.heap.objs.size≠d:=fun e=>bj _ (e ▸ hlt)
 unfold collect
 refine wpAny_bind (wpAny_runValue (codeAny_builtin F.entry_proto_collect ?_))
 rw[Around.under_plainId F.plain_proto_collect _]
 show wpAny _ A.in1 (newList [] >>= fun l=>again (.builtin "list.__iadd__" ⟨[l,.ref d],[]⟩)) _ _ s
 refine wpAny_bind (wpAny_newObj_type ?_)
 refine wpAny_pure ⟨plainId_quiet F.plain_list_iadd _,codeAny_builtin F.entry_list_iadd ?_⟩
 rw[Around.under_plainId F.plain_list_iadd _]
 have hm1:=hm.push { cls:=.type "list",data:=.seq ([]:List Value).toArray }
 have hT1:({ s with heap:=s.heap.push { cls:=.type "list",data:=.seq ([]:List Value).toArray } }:Shared).TypeIs (.ref d) "dict" := hm1.dictOf.typeIs
 have h1:Builtin.List.listSameRef (.ref s.heap.objs.size) (.ref d)=false:=by simp[Builtin.List.listSameRef,hSd]
 show wpAny _ A.in1 (Builtin.List.listExtendWith (.ref s.heap.objs.size) (.ref d) (.ref s.heap.objs.size)) _ _ _
 unfold Builtin.List.listExtendWith
 refine wpAny_bind (wpAny_typeOf hT1 ?_)
 rw[if_neg (by rw[h1];decide)]
 refine wpAny_bind (wpAny_pyIter_dict hd hm1 ?_)
 refine wpAny_bind (wpAny_holding ?_)
 unfold Builtin.List.listLengthHint
 have hm2:=hm1.push { cls:=.type "dict_keyiterator",data:=.fields #[.ref d,.int 0 0,.int kvs.length 0,.int ep 0] }
 have hT2:=hm2.dictOf.typeIs (s:={ s with heap:=(s.heap.push { cls:=.type "list",data:=.seq ([]:List Value).toArray }).push { cls:=.type "dict_keyiterator",data:=.fields #[.ref d,.int 0 0,.int kvs.length 0,.int ep 0] } })
 refine wpAny_bind (wpAny_specialOf hT2 y4X ?_)
 (generalize hid:("dict.__len__" : String)=id0;(fail_if_success (clear hid id0));wp_delta;rw[show splitId id0=some ("dict", "__len__") from by subst hid;decide +kernel];subst hid)
 refine wpAny_bind (wpAny_isInstance (b:=true) hT2 (by rw[isSubtype_type];kernel_rfl) ?_)
 show wpAny _ A.in1 (typeOf (Value.ref d) >>= _) _ _ _
 refine wpAny_bind (wpAny_typeOf hT2 ?_)
 refine wpAny_pure ?_
 show wpAny _ A.in1 (rule "list.extend.makes-room" >>= fun _=>Builtin.List.listTouch (.ref s.heap.objs.size) >>= fun _=>
  again (.builtin "list.extend.loop" ⟨[.ref s.heap.objs.size,.ref (s.heap.push { cls:=.type "list",data:=.seq ([]:List Value).toArray }).objs.size,.ref s.heap.objs.size],[]⟩)) _ _ _
 refine wpAny_bind (wpAny_rule ?_)
 obtain⟨hA,eA⟩:∃h:Heap,h=s.heap.push { cls:=.type "list",data:=.seq ([]:List Value).toArray }:=⟨_,rfl⟩
 obtain⟨hB,eB⟩:∃h:Heap,h=hA.push { cls:=.type "dict_keyiterator",data:=.fields #[.ref d,.int 0 0,.int kvs.length 0,.int ep 0] }:=⟨_,rfl⟩
 have sA:hA.objs.size=s.heap.objs.size+1:=by rw[eA];simp[Heap.push]
 have hne:d≠hA.objs.size:=az (aI hlt (by rw[sA];exact cH _))
 have W:=(Walks.dictKeys (A:=A.in1) (prog:=prog) (w:=w) (knd:=knd) hh hA.objs.size d hne kvs ep).toS
 have hIt:hB.IsKeyIter hA.objs.size d 0 kvs.length ep:=⟨_,by rw[eB];exact Heap.get?_push_size _ rfl,rfl,rfl⟩
 have hDt:hB.DictAt knd d kvs ep:=by rw[eB,eA];exact hm2
 have hS₁:hB.get? s.heap.objs.size=some { cls:=.type "list",data:=.seq ([]:List Value).toArray }:=by rw[eB,eA];exact Heap.get?_push_of_some _ (Heap.get?_push_size _ rfl)
 have hSf:s.heap.objs.size∉[hA.objs.size,d]:=fun hm=>by
  rcases ah.mp hm with z | z
  ·omega
  ·exact hSd (ai.mp z)
 rw[←eA,←eB]
 refine wpAny_bind ?_
 show wpAny _ A.in1 (updateSeq s.heap.objs.size (·.push .none) >>= fun _=>updateSeq s.heap.objs.size (·.pop)) _ _ _
 refine wpAny_bind (wpAny_updateSeq hS₁ rfl ?_)
 have hS₂:=Heap.get?_update_self (Obj.mapSeq (·.push Value.none)) hS₁ rfl
 refine wpAny_updateSeq hS₂ rfl ?_
 have hS₃:=Heap.get?_update_self (Obj.mapSeq (·.pop)) hS₂ rfl
 have oth:∀b o,b≠s.heap.objs.size->hB.get? b=some o->((hB.update s.heap.objs.size (Obj.mapSeq (·.push Value.none))).update s.heap.objs.size (Obj.mapSeq (·.pop))).get? b=some o:=
  fun b o hb e=>(Heap.get?_update_other _ _ (Ne.symm hb)).trans ((Heap.get?_update_other _ _ (Ne.symm hb)).trans e)
 refine wpAny_pure ⟨plainId_quiet F.plain_extend_loop _,codeAny_extend_loopS W hn _ hSf _ kvs.length 0 _ _ _ rfl (bg _)
  (W.frame 0 ({ s with heap:=hB }:Shared) _ s.toks ⟨hIt,hDt⟩ (ao _) fun b hb o e=>oth b o (fun h=>hSf (h ▸ hb)) e) hS₃ (ItemsOf.nil _) fun s' acc' c' hmv hS' hacc=>?_⟩
 show wpAny _ A (load s.heap.objs.size >>= _) _ _ s'
 refine wpAny_bind (wpAny_load hS' ?_)
 refine wpAny_pure (hQ s' acc' ⟨fun b o _ e=>?_,hmv.gens,hmv.drawn,hmv.os,hmv.toks⟩ hacc)
 have hb:(b:Nat)<s.heap.objs.size:=Heap.lt_size e
 refine hmv.heap b o (fun z=>?_) (oth b o (az hb) (by rw[eB,eA];exact Heap.get?_push_of_some _ (Heap.get?_push_of_some _ e)))
 rcases ah.mp z with z | z
 ·exact az hb z
 ·exact az (aI hb (by rw[sA];exact cH _)) (ai.mp z)
end
end PySem
namespace L2
open PySem PySem.Spec PyProof.Rows
theorem y9C:∀{vs:List Value} {ns:List Int},vs.length=ns.length->(∀(j:Nat) (v:Value) (n:Int),vs[j]? = some v->ns[j]? = some n->∃t:Tok,v=Value.int n t)->IntsAre vs ns
 |[],[],_,_=>.nil
 |[],_::_,h,_=>by cases h
 |_::_,[],h,_=>by cases h
 |v::vs,n::ns,h,hs=>by
  obtain⟨t,rfl⟩:=hs 0 v n rfl rfl
  exact .cons n t (y9C (by simpa using h) fun j v n e1 e2=>hs (j+1) v n (by simpa using e1) (by simpa using e2))
section
variable{prog:dw}{w:fm}{A:Around}{E:Value->Shared->Prop}{s:Shared}
theorem y5l{d:Addr}{kvs:List (Key×Value)}{ep:Nat}{ns:List Int}{Q:Value->Shared->Prop}(hh:A.handled=none)(hd:(d==sysModules)=false)(hm:s.heap.DictAt (z1m prog w) d kvs ep)(hk:kvs.map (·.1)=ns.map Sum.inl)(h64:ns.length<64)
  (h:∀(h1 h':Heap) (tk:Nat) (out:List Value) (e:Nat) (ns':List Int),(∀b o',s.heap.get? b=some o'->h1.get? b=some o')->(∀b o',h1.get? b=some o'->h'.get? b=some o')->h'.get? h1.objs.size=some { cls:=.type "list",data:=.seq out.toArray e }->IntsAre out ns'->ns'.Perm ns->ns'.Pairwise (· ≤ ·)->Q (.ref h1.objs.size) { s with heap:=h',toks:=tk }):
  wpAny (model prog w) A (call (.builtin "sorted") [.ref d]) Q E s:=by
 have hl:kvs.length=ns.length:=by rw[←aq (f:=(·.1)),hk,aq]
 refine Calls.call_function_entry kind_sorted plain_sorted entry_sorted (args_sorted1 _) ?_
 unfold Builtin.«sorted»
 refine wpAny_bind (m:=checkCount "sorted" 1 1 _) (wpAny_pure ?_)
 refine wpAny_bind (z6A hh hd hm (by rw[sizeLine_eq];omega) fun s1 acc mv hit=>?_)
 have hI:IntsAre acc.toList ns:=by
  refine y9C (by rw[bJ,hit.1,hl]) fun j v n e1 e2=>?_
  obtain⟨k,x,e3,e4⟩:=hit.2 j v (by rw[←e1];simp)
  have e5:(kvs.map (·.1))[j]? = some k:=by rw[aJ,e3];rfl
  rw[hk,aJ,e2]at e5
  cases e5
  rcases z0R (show y4N (Sum.inl n) v=true from e4)with⟨i,t,z1,z2⟩ | ⟨y,t,z1,z2⟩
  ·cases z1;exact⟨t,z2⟩
  ·cases z1
 have es:=Moved.eq_with mv
 refine wpAny_bind (wpAny_newList ?_)
 have hoL:(s1.heap.push (seqObj "list" acc.toList.toArray 0)).get? s1.heap.objs.size=some (seqObj "list" acc.toList.toArray 0):=Heap.get?_push_size _ rfl
 show wpAny _ _ _ _ _ { s1 with heap:=s1.heap.push (seqObj "list" acc.toList.toArray 0) }
 have h64':acc.toList.length<64:=by rw[bJ,hit.1,hl];exact h64
 refine wpAny_bind (wpAny_holding (wpAny_call_entry slot_list_sort ⟨_,hoL,rfl⟩ entry_list_sort (list_sort_tree hoL hI h64' fun out ns' a1 a2 a3=>⟨_,rfl,?_⟩) (args_list_sort _)))
 obtain⟨e,he⟩:=sortedHeap_at (out:=out) hoL
 have fin:=h s1.heap _ s1.toks out.toList e ns' (fun b o' hb=>mv.heap b o' (fun z=>nomatch z) hb) (fun b o' hb=>?_) (by simpa[seqObj] using he) a1 a2 a3
 ·refine wpAny_pure ⟨_,rfl,?_⟩
  rw[es]
  exact fin
 ·have hlt:b<s1.heap.objs.size:=Heap.lt_size hb
  rw[sortedHeap_old (az hlt) (by rw[size_push'];exact bz hlt)]
  exact Heap.get?_push_of_some _ hb
end
section
variable{X:Cx}
theorem y1Q(hc:X.calm=true):z6T X (.builtin "sorted") (fun xs H Q=>∃(p:Addr) (kvs:List (Key×V)) (ns:List Int),xs=[.ref p]∧H p=some (.dK kvs)∧kvs.map (·.1)=ns.map Sum.inl∧ns.length<64∧∀l,H l=none->Q (.ref l) (upd H l (.lst ((y4c ns).map V.int)))):=by
 intro pins s σ H xs us Q I r h
 obtain⟨p,kvs,ns,rfl,hq,hk,h64,q⟩:=h
 obtain⟨u,rfl,rx⟩:=y3O r
 cases rx
 obtain⟨_,hs,vs,rel,dd⟩:=dk_of I.hok hq
 obtain⟨ep,da⟩:=dd.dictAt
 refine y5l (I.ok.hd hc) hs da (rel.keys.symm.trans hk) h64 fun h1 h' tk out e ns' k1 k2 ho hi hp hs'=>?_
 have es:=y1a hp hs'
 subst es
 have I1:Inv X pins σ H { s with heap:=h1 }:=I.kept (t':=s.toks) k1
 refine⟨.ref h1.objs.size,_,Inv.laid (s:={ s with heap:=h1 }) (t':=tk) I1 k2 (ao _) (show ObjOk X.prog X.w _ h' _ (.lst ((y4c ns).map V.int)) from⟨?_,out,e,intsV hi,ho⟩),rfl,q _ (I1.hok.fresh (ao _))⟩
 rw[aq,hp.length_eq,sizeLine_eq]
 omega
def z5W:List Key->Option (List Int)
 |[]=>some []
 |.inl n::r=>(z5W r).map fun ns=>n::ns
 |.inr _::_=>none
theorem z9P:∀{ks:List Key} {ns:List Int},z5W ks=some ns->ks=ns.map Sum.inl
 |[],_,h=>by cases h;rfl
 |.inl n::r,_,h=>by
  unfold z5W at h
  cases e:z5W r with
  |none=>rw[e]at h;cases h
  |some ns=>
   rw[e]at h
   cases h
   rw[aF,←z9P e]
 |.inr _::_,_,h=>by cases h
def y1S:List D->Option (List D)
 |[.dct ks _]=>(z5W ks).bind fun ns=>if ns.length<64 then some ((y4c ns).map .int)else none
 |_=>none
theorem x3a{K:aa}:OpL K (fun xs H Q=>∃(p:Addr) (kvs:List (Key×V)) (ns:List Int),xs=[.ref p]∧H p=some (.dK kvs)∧kvs.map (·.1)=ns.map Sum.inl∧ns.length<64∧∀l,H l=none->Q (.ref l) (upd H l (.lst ((y4c ns).map V.int)))) y1S:=by
 intro H B ds es vs Q hB hr q k
 unfold y1S at q
 split at q
 ·rename_i ks ds'
  cases e:z5W ks with
  |none=>rw[e]at q;cases q
  |some ns=>
   rw[e,aA]at q
   split at q
   ·rename_i h64
    cases q
    obtain⟨v,rfl,r⟩:=z6n hr
    unfold Rep at r
    obtain⟨a,kvs,rfl,_,h,hk,_⟩:=r
    exact⟨a,kvs,ns,rfl,h,by rw[hk,z9P e],h64,fun l hl=>k l _ _ (z0q hl) hl z0r (z2E _)⟩
   ·cases q
 ·cases q
variable{e:Expr}{f:DE}{p pos:Pos}
theorem y8c(hc:X.calm=true)(hg:Gl X "sorted")(hm:X.mg "sorted" = none)(h:PD X e f)(he:starEach [e] X.env=[(false,eval e X.env)]:=by rfl):PF X (.Call (.Name "sorted" p) [e] [] pos) (z2H y1S [f]):=
 (y0T (y1Q hc) hg hm boot_sorted (z0a h z0c he) (by decide) (by decide) he rfl).imp (callL x3a)
end
def mkD1:D->D->Option D
 |.int a,.int b=>some (.dct [.inl a] [.int b])
 |_,_=>none
def x0F(fk fv:DE):DE:=d2 mkD1 fk fv
section
variable{X:Cx}{ke ve:Expr}{pos:Pos}{f g:DE}
theorem x3s(hk:PD X ke f)(hv:PD X ve g):PN X (.Dict [some ke] [ve] pos) (x0F f g):=(pe_disp (x2N hk hv pps_nil) rfl rfl (by simp) (by simp)).imp fun σ H Q ⟨δ,d,S,q,kk⟩=>by
 obtain⟨dx,dy,e1,e2,e3⟩:=z8m q
 unfold mkD1 at e3
 split at e3
 ·rename_i a b
  cases e3
  intro p hp
  have s0:Same H (upd H p (.dK [])):=z0q hp
  refine⟨noB,δ,_,.no,S.mono s0,e1,fun v H2 s2 r2=>⟨noB,δ,_,.no,(S.mono s0).mono s2,e2,fun u H3 s3 r3=>?_⟩⟩
  unfold Rep at r2 r3
  subst r2 r3
  have hp3:H3 p=some (.dK []):=s3 _ _ (s2 _ _ z0r)
  refine⟨hp3,[(.inl a,.int b)],rfl,by simp,?_⟩
  refine kk (.ref p) _ [p] (fun c o ec=>?_) ?_ (ay.mpr ⟨fun z=>(nomatch z),bh⟩) fun c hc=>?_
  ·have hcp:c≠p:=fun z=>by rw[z,hp]at ec;cases ec
   rw[z0I hcp]
   exact s3 _ _ (s2 _ _ (s0 _ _ ec))
  ·unfold Tree
   refine⟨p,[(.inl a,.int b)],[],rfl,z0r,rfl,?_,rfl⟩
   unfold Trees
   exact⟨.int b,[],[],[],rfl,⟨rfl,rfl⟩,⟨rfl,rfl⟩,rfl⟩
  ·rw[ai.mp hc];exact hp
 ·cases e3
end
theorem y9A{lo hi:Int}:Builtin.Range.rangeSize lo hi (-1)=(((lo - hi).toNat:Nat):Int):=by
 unfold Builtin.Range.rangeSize
 rw[if_neg (by decide)]
 by_cases h:hi<lo
 ·rw[if_pos h]
  have:(lo - hi - 1) / 1=lo - hi - 1:=Int.ediv_one _
  simp only[Int.neg_neg]
  omega
 ·rw[if_neg h]
  omega
theorem y9y{a b:Int}(ha:-(2 ^ 61)≤a)(ha':a<2 ^ 61)(hb:-(2 ^ 61)≤b)(hb':b<2 ^ 61):Builtin.Range.small a b (-1)=true:=by
 unfold Builtin.Range.small
 rw[y9A]
 simp only[Builtin.Range.rangeFitsLong,aM,dO,decide_eq_true_eq,beq_iff_eq]
 rw[if_neg (by decide),aM,decide_eq_true_eq,decide_eq_true_eq]
 omega
section
variable{X:Cx}{tg:Expr}
theorem x2b{pins:List (Addr×Obj)}{σ:St}{H:Hp}{s:Shared}{R:It->Hp->Prop}{E:Value->Shared->Prop}{lo hi:Int}{t u v:Tok}{tk:Nat}(I:Inv X pins σ H s)(h1:-(2 ^ 61)≤lo)(h2:lo<2 ^ 61)(h3:-(2 ^ 61)≤hi)(h4:hi<2 ^ 61)
  (q:R (Itr3 lo (-1) (lo - hi).toNat) H):wpAny (model X.prog X.w) X.A (pyIter (.ref s.heap.objs.size)) (PIE X pins σ tg R) E { s with heap:=s.heap.push { cls:=.type "range",data:=.fields #[.int lo t,.int hi u,.int (-1) v] },toks:=tk }:=by
 refine wpAny_pyIter_range (IsRange.new ..) (y9y h1 h2 h3 h4) ?_
 have I1:Inv X pins σ H { s with heap:=s.heap.push { cls:=.type "range",data:=.fields #[.int lo t,.int hi u,.int (-1) v] },toks:=tk }:=I.kept fun b o e=>Heap.get?_push_of_some _ e
 refine⟨(s.heap.push { cls:=.type "range",data:=.fields #[.int lo t,.int hi u,.int (-1) v] }).objs.size,[(s.heap.push { cls:=.type "range",data:=.fields #[.int lo t,.int hi u,.int (-1) v] }).objs.size],_,_,H,rfl,
  I1.kept (t':=tk) fun b o e=>Heap.get?_push_of_some _ e,y3I _ lo (-1) (lo - hi).toNat,?_,fun b hb=>?_,q⟩
 ·have e1:lo+((0:Nat):Int)*(-1)=lo:=by simp
  have e2:(((lo - hi).toNat:Nat):Int) - ((0:Nat):Int)=Builtin.Range.rangeSize lo hi (-1):=by rw[y9A];simp
  show IsRangeIter _ _ (lo+((0:Nat):Int)*(-1)) ((((lo - hi).toNat:Nat):Int) - ((0:Nat):Int)) (-1)
  rw[e1,e2]
  exact Heap.get?_push_size _ rfl
 ·have e:b=(s.heap.push { cls:=.type "range",data:=.fields #[.int lo t,.int hi u,.int (-1) v] }).objs.size:=by simpa using hb
  subst e
  exact I1.fpOk (ao _) (I1.hok.fresh (ao _))
def iRngN(ta:TA):TI:=fun σ H R=>ta σ H fun vs H1=>∃i j:Int,vs=[.int i,.int j,.int (-1)]∧(-(2 ^ 61)≤i∧i<2 ^ 61∧-(2 ^ 61)≤j∧j<2 ^ 61)∧R (Itr3 i (-1) (i - j).toNat) H1
theorem y9T{a b c:Expr}{ta:TA}{p pos:Pos}(hg:Gl X "range")(hm:X.mg "range" = none)(ha:PA X [a,b,c] ta)(hs:starEach [a,b,c] X.env=(false,eval a X.env)::starEach [b,c] X.env:=by rfl)(hpl:(fw pos (starEach [b,c] X.env)).any (·.1)=false:=by rfl):
  PI X tg (.Call (.Name "range" p) [a,b,c] [] pos) (iRngN ta):=by
 intro pins s σ H R I h
 refine Call_ (z4G I hg hm boot_range (PyProof.Rows.callWith_type1 (thn (ha pos pins s σ H _ I h) fun us s1 ⟨vs,H1,I1,r1,q1⟩=>?_) hs hpl))
 obtain⟨i,j,e,hb,q⟩:=q1
 subst e
 obtain⟨u,v,w,rfl,⟨t1,rfl⟩,⟨t2,rfl⟩,⟨t3,rfl⟩⟩:=r1.three
 exact call_range_3 (by omega) (x2b I1 hb.1 hb.2.1 hb.2.2.1 hb.2.2.2 q) (.inl (PyProof.noPylong_small (by omega)))
def rngN:Option D->Option D->Option D->Option (List D)
 |some (.int i),some (.int j),some (.int c)=>if c = -1∧-(2 ^ 61)≤i∧i<2 ^ 61∧-(2 ^ 61)≤j∧j<2 ^ 61 then some (x0J i (-1) (i - j).toNat)else none
 |_,_,_=>none
def x2y(f g h:DE):DS->Option (List D):=fun δ=>rngN (f δ) (g δ) (h δ)
theorem pi_rngN{a b c:Expr}{f g h:DE}{p pos:Pos}(hg:Gl X "range")(hm:X.mg "range" = none)(ha:PD X a f)(hb:PD X b g)(hc:PD X c h)(hs:starEach [a,b,c] X.env=(false,eval a X.env)::starEach [b,c] X.env:=by rfl)(hs2:starEach [b,c] X.env=(false,eval b X.env)::starEach [c] X.env:=by rfl)(hs3:starEach [c] X.env=[(false,eval c X.env)]:=by rfl)(hpl:(fw pos (starEach [b,c] X.env)).any (·.1)=false:=by rfl):
  PID X tg (.Call (.Name "range" p) [a,b,c] [] pos) (x2y f g h):=
 (y9T hg hm (z0a ha (z0a hb (z0a hc z0c hs3) hs2) hs) hs hpl).imp fun σ H R ⟨B,δ,ds,hB,S,q,k⟩=>by
  unfold x2y rngN at q
  split at q
  ·rename_i i j c e1 e2 e3
   split at q
   ·rename_i hj
    obtain⟨rfl,hj⟩:=hj
    cases q
    have ea:z0n [f,g,h] δ=some [.int i,.int j,.int (-1)]:=by unfold z0n z0n z0n;rw[e1,e2,e3];rfl
    refine⟨B,δ,[.int i,.int j,.int (-1)],hB,S,ea,fun vs H1 s1 r1=>?_⟩
    unfold Reps at r1
    obtain⟨x,r,rfl,rx,rr⟩:=r1
    unfold Reps at rr
    obtain⟨y,r',rfl,ry,rr⟩:=rr
    unfold Reps at rr
    obtain⟨z,r'',rfl,rz,rr⟩:=rr
    unfold Reps at rr
    subst rr
    exact⟨i,j,by rw[show x=V.int i from rx,show y=V.int j from ry,show z=V.int (-1) from rz],hj,k _ H1 s1 fun C _=>x3I⟩
   ·cases q
  ·cases q
end
theorem Trees.at{K:aa}{H:Hp}:∀{ds:List D} {xs:List V} {A:List Addr} {k:Nat} {d:D},Trees K H ds xs A->A.Nodup->ds[k]? = some d->∃v C,xs[k]? = some v∧Tree K H d v C∧C.Nodup∧∀a∈C,a∈A
 |[],_,_,_,_,_,_,e=>by cases e
 |d::ds,xs,A,k,d',h,nd,e=>by
  unfold Trees at h
  obtain⟨x,r,C,C',rfl,h1,h2,rfl⟩:=h
  have n2:=bb.mp nd
  cases k with
  |zero=>cases e;exact⟨x,C,rfl,h1,n2.1,fun a ha=>au.mpr (.inl ha)⟩
  |succ k=>
   obtain⟨v,D',e1,t1,nd1,sb⟩:=Trees.at (k:=k) h2 n2.2.1 (by simpa using e)
   exact⟨v,D',by simpa using e1,t1,nd1,fun a ha=>au.mpr (.inr (sb a ha))⟩
def ixL:D->D->Option D
 |.lst ds,.int i=>atI ds i
 |_,_=>none
section
variable{X:Cx}{a b:Expr}{pos:Pos}{f g:DE}
theorem pn_ixN(ha:PN X a f)(hb:PD X b g)(hs:y3V b:=by intro _ _;rfl):PN X (.Subscript a b pos) (d2 ixL f g):=(pe_ix x5z ha hb hs).imp fun σ H Q ⟨δ,d,S,q,k⟩=>by
 obtain⟨dx,dy,e1,e2,e3⟩:=z8m q
 unfold ixL at e3
 split at e3
 ·rename_i ds i
  refine⟨δ,_,S,e1,fun v H1 A s1 t1 nd1 f1=>⟨noB,δ,_,.no,S.mono s1,e2,fun u H2 s2 r2=>?_⟩⟩
  unfold Rep at r2
  subst r2
  have t2:=t1.mono s2
  unfold Tree at t2
  obtain⟨p,xs,C,rfl,hp,ts,rfl⟩:=t2
  have hl:=ts.len
  unfold atI at e3
  cases e4:ixN ds.length i with
  |none=>rw[e4]at e3;cases e3
  |some j=>
   rw[e4]at e3
   obtain⟨v',C',e5,t5,nd5,sb⟩:=ts.at (ay.mp nd1).2 (show ds[j]? = some d from e3)
   have e6:atI xs i=some v':=by
    unfold atI
    rw[←hl,e4]
    exact e5
   exact .inl ⟨p,xs,i,v',rfl,rfl,SqL.of hp,e6,k v' H2 C' (s1.trans s2) t5 nd5 fun a ha=>f1 a (ad _ (sb a ha))⟩
 ·cases e3
end
def twoD:D->Option (D×D)
 |.tup [a,b]=>some (a,b)
 |_=>none
theorem x1y{d:D}{z:D×D}(h:twoD d=some z):d = .tup [z.1,z.2]:=by
 unfold twoD at h
 split at h
 ·cases h;rfl
 ·cases h
def z6H(i j:Nat)(b:SS->Option Out):List D->SS->Option Out
 |[],δ=>some (.nx δ)
 |d::r,δ=>(twoD d).bind fun z=>(b ((δ.set i (some (.sh z.1))).set j (some (.sh z.2)))).bind fun o=>match o with
  |.nx δ'=>z6H i j b r δ'
  |.ct δ'=>z6H i j b r δ'
  |.bk δ'=>some (.nx δ')
  |.rt d=>some (.rt d)
  |.rb d δ'=>some (.rb d δ')
  |.ex c δ'=>some (.ex c δ')
def x3Q(i j:Nat)(f:DS->Option (List D))(g:SS->Option Out):SS->Option Out:=fun δ=>(f (shV δ)).bind fun ds=>z6H i j g ds δ
section
variable{X:Cx}{H0:Hp}{B0:Addr->Prop}{fr:Bool}{RX:XR}{pos:Pos}
def gPair(K:aa)(i j:Nat):TG:=gTup K 2 (y9z (z2W i) (y9z (z2W j) gNil))
theorem s_for2{i j:Nat}{tg:Expr}{iter:Expr}{body:List Stmt}{f:DS->Option (List D)}{g:SS->Option Out}(hp:PassesOwn (model X.prog X.w) X.A X.env X.xe)(hc:X.calm=true)(hi:PID X tg iter f)(hg:PG X tg (gPair X.K i j))(hb:PSs X body (tS X.K H0 B0 fr RX g))
  (hs:∀x,foldedSetIterable iter X.env x=pure x:=by intro _;rfl):PS X (.For tg iter body [] pos) (tS X.K H0 B0 fr RX (x3Q i j f g)):=PS.imp (x4Y hp hc hi hg hb hs) fun D σ H ⟨δ,R,o,rs,q,k⟩=>by
 unfold x3Q at q
 cases e:f (shV δ)with
 |none=>rw[e]at q;cases q
 |some ds=>
 rw[e]at q
 have q:z6H i j g ds δ=some o:=q
 refine⟨_,shV δ,ds,rs.inAll,rs.shr,e,fun J H1 s1 itw=>?_⟩
 have rs1:=rs.mono s1
 have it:=itw (fun a=>H1 a=none) fun a z=>z
 refine⟨fun n m σ' H'=>m=ds.length - n∧n≤ds.length∧∃δ' R',RS X.K H0 B0 H' σ' δ' R'∧Stp R H1 R' H'∧z6H i j g (ds.drop n) δ'=some o,⟨ds.length,by simp,bg _,δ,R,rs1,.refl R H1,q⟩,?_⟩
 rintro n m σ' H' ⟨rfl,hn,δ',R',rs',s',q'⟩
 have kp:Keep X.K (fun a=>(B0 a∨∃r,a∈R r)∨H1 a=none) H1 H':=s'.keepB (fun r a z=>.inl (.inr ⟨r,z⟩)) rs1.held
 by_cases hlt:n<ds.length
 ·have hx:ds.drop n=ds[n]::ds.drop (n+1):=bn hlt
  rw[hx]at q'
  unfold z6H at q'
  cases et:twoD ds[n]with
  |none=>rw[et]at q';cases q'
  |some z=>
  rw[et,aA]at q'
  cases eb:g ((δ'.set i (some (.sh z.1))).set j (some (.sh z.2)))with
  |none=>rw[eb]at q';cases q'
  |some ob=>
   rw[eb]at q'
   refine .inr ⟨it.go n H' kp hlt,fun σ2 H2=>n+1≤ds.length∧∃δ2 R2,RS X.K H0 B0 H2 σ2 δ2 R2∧Stp R H1 R2 H2∧z6H i j g (ds.drop (n+1)) δ2=some o,fun σ2 H2 z=>⟨ds.length - (n+1),by omega,rfl,z⟩,fun xv H2 hy=>?_⟩
   obtain⟨s2,d,hd,rd⟩:=it.yld n H' xv H2 kp hy
   have hdi:d=ds[n]:=by
    have:=hd hlt
    rw[ax hlt]at this
    exact(Option.some.inj this).symm
   subst hdi
   have rd':Rep X.K H2 (fun a=>B0 a∨∃r,a∈R' r) ds[n] xv:=rd.anti fun a z=>by
    rcases z with z | ⟨r,z⟩
    ·exact .inl (.inl z)
    ·rcases s'.from' r a z with z | z
     ·exact .inl (.inr z)
     ·exact .inr z
   rw[x1y et]at rd'
   unfold Rep at rd'
   obtain⟨p,vs,rfl,hsq,rvs⟩:=rd'
   unfold Reps at rvs
   obtain⟨va,r1,rfl,ra,rvs⟩:=rvs
   unfold Reps at rvs
   obtain⟨vb,r2,rfl,rb,rvs⟩:=rvs
   unfold Reps at rvs
   subst rvs
   refine⟨p,[va,vb],rfl,hsq,rfl,va,[vb],rfl,vb,[],rfl,rfl,?_⟩
   have rs2:=((rs'.mono s2).setSh (i:=i) ra).setSh (i:=j) rb
   have st2:Stp R H1 R' H2:=s'.trans (.same s2)
   refine⟨_,R',ob,rs2,eb,?_⟩
   cases ob with
   |nx δ2=>
    have q2:z6H i j g (ds.drop (n+1)) δ2=some o:=q'
    exact fun σ3 H3 R3 rs3 s3=>⟨hlt,δ2,R3,rs3,st2.trans s3,q2⟩
   |ct δ2=>
    have q2:z6H i j g (ds.drop (n+1)) δ2=some o:=q'
    exact fun σ3 H3 R3 rs3 s3=>⟨hlt,δ2,R3,rs3,st2.trans s3,q2⟩
   |bk δ2=>
    cases q'
    exact fun σ3 H3 R3 rs3 s3=>k σ3 H3 R3 rs3 ((Stp.same s1).trans (st2.trans s3))
   |rt d=>
    cases q'
    exact k.back ((Stp.same s1).trans st2)
   |rb d δ2=>
    cases q'
    exact k.back ((Stp.same s1).trans st2)
   |ex c δ2=>
    cases q'
    exact k.back ((Stp.same s1).trans st2)
 ·have en:n=ds.length:=by omega
  subst en
  rw[cB]at q'
  cases q'
  exact .inl ⟨it.stop _ H' kp (ao _),k σ' H' R' rs' ((Stp.same s1).trans s')⟩
theorem pg_pair{i j:Nat}{x y:Str}{px py tp:Pos}{x1}(hc:X.calm=true)(h1:PG X (.Name x px) (z2W i))(h2:PG X (.Name y py) (z2W j))
  (hs:(fu [.Name x px,.Name y py] X.env).map (·.2)=fD (.Name x px) X.env::(fu [.Name y py] X.env).map (·.2):=by rfl) (hs2:(fu [.Name y py] X.env).map (·.2)=fD (.Name y py) X.env::(fu [] X.env).map (·.2):=by rfl)
  (hn:(fu [.Name x px,.Name y py] X.env).length=2:=by rfl) (hst:(fu [.Name x px,.Name y py] X.env).findIdx? (·.1)=none:=by rfl):PG X (.Tuple [.Name x px,.Name y py] x1 tp) (gPair X.K i j):=
 x4x hc (z7U h1 (z7U h2 y8H hs2) hs) hn hst
end
def bst(ns:List Int):Nat->Nat
 |0=>0
 |k+1=>if decide (ns.getD (k+1) 0<ns.getD (bst ns k) 0)=true then k+1 else bst ns k
def mnI(ns:List Int):Int:=ns.getD (bst ns (ns.length - 1)) 0
theorem y6J{bt:Nat->Nat->Bool}{ns:List Int}(h:∀i j,bt i j=decide (ns.getD i 0<ns.getD j 0)):∀k,argBest bt k=bst ns k
 |0=>rfl
 |k+1=>by
  unfold argBest bst
  rw[y6J h k,h]
section
variable{X:Cx}
theorem x1K(hc:X.calm=true):z6T X (.builtin "min") (fun xs H Q=>∃(p:Addr) (ns:List Int),xs=[.ref p]∧SqL X.K H p (ns.map V.int)∧ns≠[]∧Q (.int (mnI ns)) H):=by
 intro pins s σ H xs us Q I r h
 obtain⟨p,ns,rfl,hq,hne,q⟩:=h
 obtain⟨u,rfl,ru⟩:=y3O r
 cases ru
 obtain⟨its,rv,pl,hz⟩:=I.list hq
 have hi:=z6F rv
 obtain⟨xs,hx⟩:=hi.allInts.items
 have hl':s.heap.IsList p (intItems xs):=hx ▸ pl.isList
 have e1:ns=xs.toList.map (·.1):=by
  rw[←nums_intItems,←hx]
  exact(show numsOf its.toArray.toList=ns from hi.numsOf).symm
 have hsz:xs.size=ns.length:=by rw[e1];simp
 have hp:0<ns.length:=cL.mpr hne
 refine min_intList (I.ok.hd hc) hl' (by omega) fun v h' tk hv hk=>?_
 have eb:argBest (fun i j=>decide (numAt xs i<numAt xs j)) (xs.size - 1)=bst ns (ns.length - 1):=by
  rw[hsz]
  refine y6J (fun i j=>?_) _
  have en:∀k,numAt xs k=ns.getD k 0:=fun k=>by
   rw[e1]
   unfold numAt
   simp[cV]
  rw[en,en]
 rw[eb]at hv
 obtain⟨t,rfl⟩:=intItems_at hv
 have en:numAt xs (bst ns (ns.length - 1))=mnI ns:=by
  unfold mnI
  rw[e1]
  unfold numAt
  simp[cV]
 exact⟨.int _,H,I.kept hk,⟨t,by rw[en]⟩,q⟩
def x0w:List D->Option D
 |[.lst ds]=>(z1O ds).bind fun ns=>if ns.isEmpty=true then none else some (.int (mnI ns))
 |_=>none
theorem oa_minL{K:aa}:OpA K (fun xs H Q=>∃(p:Addr) (ns:List Int),xs=[.ref p]∧SqL K H p (ns.map V.int)∧ns≠[]∧Q (.int (mnI ns)) H) x0w:=by
 intro H B ds d vs Q hB hr q k
 unfold x0w at q
 split at q
 ·rename_i es
  cases e:z1O es with
  |none=>rw[e]at q;cases q
  |some bs=>
   rw[e,aA]at q
   split at q
   ·cases q
   ·rename_i hn
    cases q
    obtain⟨v,rfl,r⟩:=z6n hr
    unfold Rep at r
    obtain⟨a,xs,rfl,_,h,rs⟩:=r
    rw[z6u e rs]at h
    exact⟨a,bs,rfl,SqL.of h,fun z=>hn (by rw[z];rfl),k _ H (.refl H) rfl⟩
 ·cases q
variable{e:Expr}{f:DE}{p pos:Pos}
theorem pd_minL(hc:X.calm=true)(hg:Gl X "min")(hm:X.mg "min" = none)(h:PD X e f)(he:starEach [e] X.env=[(false,eval e X.env)]:=by rfl):PD X (.Call (.Name "min" p) [e] [] pos) (z0j x0w [f]):=
 z7R (x1K hc) oa_minL hg hm boot_min (z0a h z0c he) (by decide) (by decide) he rfl
end
section
end
def bigL:Nat:=2 ^ 250
def CMulB(i j:Int):Prop:=i.natAbs<bigL∧j.natAbs<bigL
instance{i j:Int}:Decidable (CMulB i j):=by unfold CMulB;infer_instance
section
end
section
structure ItF(J:It)(lo:Int)(n:Nat):Prop where
 go:∀i H',i<n->J.go i H'
 stop:∀i H',n≤i->J.stop i H'
 yld:∀i H' x H2,J.yld i H' x H2->Same H' H2∧x = .int (lo+(i:Int))
end
section
end
end L2
namespace HT
open PySem PySem.Spec PyProof.Rows
section
end
end HT
namespace L2
open PySem PySem.Spec PyProof.Rows
section
end
end L2
namespace PySem
namespace SetTable
def Up(xs:Array Nat):Prop:=xs.toList.Pairwise (· < ·)
theorem up_le{xs:Array Nat}(h:Up xs){i k:Nat}(hi:i<k)(hk:k<xs.size)(d:Nat):xs.getD i d<xs.getD k d:=by
 have h1:i<xs.toList.length:=by simp;omega
 have h2:k<xs.toList.length:=by simpa using hk
 have:=List.pairwise_iff_getElem.mp h i k h1 h2 hi
 rw[bS,bS,aL (show i<xs.size by omega),aL hk]
 simpa using this
theorem y5e{xs:Array Nat}(h:Up xs)(j:Nat):∀(f lo hi:Nat),hi - lo≤f->lo≤hi->hi≤xs.size->(∀i,i<lo->xs.getD i j<j)->(∀i,hi≤i->i<xs.size->j≤xs.getD i j) →
  (∀i,i<below.go xs j f lo hi->xs.getD i j<j)∧(∀i,below.go xs j f lo hi≤i->i<xs.size->j≤xs.getD i j)∧below.go xs j f lo hi≤xs.size
 |0,lo,hi,h1,h2,h3,h4,h5=>by
  unfold below.go
  have e:lo=hi:=by omega
  subst e
  exact⟨h4,h5,h3⟩
 |f+1,lo,hi,h1,h2,h3,h4,h5=>by
  unfold below.go
  by_cases hl:lo<hi
  ·rw[if_pos hl]
   have hm1:lo≤(lo+hi) / 2:=by omega
   have hm2:(lo+hi) / 2<hi:=by omega
   generalize (lo+hi) / 2=mid at hm1 hm2
   show _∧_∧_
   by_cases hx:xs.getD mid j<j
   ·simp only[hx,if_true]
    refine y5e h j f (mid+1) hi (by omega) (by omega) h3 (fun i hi'=>?_) h5
    rcases dD i mid with z | z
    ·exact eJ (up_le h z (by omega) j) hx
    ·have:i=mid:=by omega
     rw[this];exact hx
   ·simp only[hx,if_false]
    refine y5e h j f lo mid (by omega) hm1 (by omega) h4 fun i h6 h7=>?_
    rcases dD mid i with z | z
    ·have:=up_le h z h7 j
     omega
    ·have:i=mid:=by omega
     rw[this];omega
  ·rw[if_neg hl]
   have e:lo=hi:=by omega
   subst e
   exact⟨h4,h5,h3⟩
theorem below_spec{xs:Array Nat}(h:Up xs)(j:Nat):(∀i,i<below xs j->xs.getD i j<j)∧(∀i,below xs j≤i->i<xs.size->j≤xs.getD i j)∧below xs j≤xs.size:=
 y5e h j xs.size 0 xs.size (by omega) (bg _) (ao _) (fun i hi=>absurd hi (by omega)) fun i h1 h2=>absurd h2 (by omega)
def NL(t:SetTable)(j:Nat):Prop:=t.place[below t.place j]?≠some j
theorem insert_up{xs:Array Nat}(h:Up xs){j:Nat}(hn:xs[below xs j]?≠some j):Up (insertAt xs (below xs j) j):=by
 obtain⟨a,b,c⟩:=below_spec h j
 unfold Up
 rw[toList_insertAt]
 generalize below xs j=p at *
 have gt:∀i (hi:i<xs.toList.length),xs.getD i j=xs.toList[i]:=fun i hi=>by
  rw[bS,aL (by simpa using hi)]
  simp
 have low:∀x∈xs.toList.take p,x<j:=fun x hx=>by
  obtain⟨i,hi,rfl⟩:=cG.mp hx
  rw[bW]at hi
  rw[List.getElem_take,←gt i (by omega)]
  exact a i (by omega)
 have high:∀x∈xs.toList.drop p,j<x:=fun x hx=>by
  obtain⟨i,hi,rfl⟩:=cG.mp hx
  rw[cU]at hi
  rw[List.getElem_drop,←gt (p+i) (by omega)]
  have h1:=b (p+i) (by omega) (by simp at hi;omega)
  by_cases hi0:i=0
  ·subst hi0
   have h2:xs[p]? = some (xs.getD p j):=by
    rw[bS,aL (by simp at hi;omega)]
    rfl
   have h3:xs.getD p j≠j:=fun z=>hn (by rw[h2,z])
   rw[Nat.add_zero]at h1 ⊢
   omega
  ·have h2:=up_le h (show p<p+i by omega) (by simp at hi;omega) j
   have h3:=b p (ao _) (by simp at hi;omega)
   omega
 refine c6.mpr ⟨h.sublist (List.take_sublist ..),aP.mpr ⟨high,h.sublist (List.drop_sublist ..)⟩,fun x hx y hy=>?_⟩
 rcases ah.mp hy with z | z
 ·rw[z];exact low x hx
 ·exact eJ (low x hx) (high y z)
theorem x0A{t:SetTable}{j:Nat}(h:∀i,t.slot j≠.live i):NL t j:=fun z=>by
 refine h (below t.place j) ?_
 unfold slot
 show(if(t.place[below t.place j]? == some j)=true then _ else _)=_
 rw[if_pos (by rw[z];simp)]
theorem go_nl{t:SetTable}{ha:Nat->Int}{hh:Int}:∀{f:Nat} {p:Probe} {j:Nat} {d:Option Nat},(∀x,p.dummy=some x->NL t x)->probe.go t ha hh f p=some (.empty j d)->NL t (d.getD j)
 |0,p,j,d,hp,h=>by unfold probe.go at h;cases h
 |f+1,p,j,d,hp,h=>by
  unfold probe.go at h
  have adv:∀q:Probe,(t.advance q).dummy=q.dummy:=fun q=>by
   unfold advance
   split <;> rfl
  cases e:t.slot p.j with
  |empty=>
   rw[e]at h
   cases h
   cases hd:p.dummy with
   |none=>
    refine x0A fun i z=>?_
    have z:t.slot p.j = .live i:=z
    rw[e]at z
    cases z
   |some x=>exact hp x hd
  |dummy=>
   rw[e]at h
   refine go_nl (fun x hx=>?_) h
   rw[adv]at hx
   cases hx
   exact x0A fun i z=>by rw[e]at z;cases z
  |live i=>
   rw[e]at h
   have h:(if(ha i==hh)=true then some (Met.candidate p.j i (t.advance p))else probe.go t ha hh f (t.advance p))=some (.empty j d):=h
   split at h
   ·cases h
   ·exact go_nl (fun x hx=>hp x (by rw[adv]at hx;exact hx)) h
end SetTable
def TI(t:SetTable):Prop:=t.led=true∧(t.plain=true->SetTable.Up t.place)
theorem z4Y{t:SetTable}{n:Nat}(h:TI t):TI (t.standIn n):=⟨h.1,fun z=>by cases z⟩
theorem y1X{t:SetTable}{n:Nat}(h:TI t):TI (t.orStandIn n):=by
 unfold SetTable.orStandIn
 split
 ·exact h
 ·exact z4Y h
theorem x0y{t:SetTable}{es:Array (Int×Value)}{h:Int}{x:Value}(ht:TI t):TI (layNew t es h x).2.1:=by
 unfold layNew
 cases e:t.freeSlot h with
 |none=>exact z4Y ht
 |some z=>
  obtain⟨slot,wd⟩:=z
  have nl:SetTable.NL t slot:=by
   unfold SetTable.freeSlot at e
   split at e
   ·rename_i j d ep
    cases e
    exact SetTable.go_nl (fun x hx=>by cases hx) ep
   ·cases e
  show TI ((t.put slot).1.orStandIn _)
  refine y1X ⟨ht.1,fun hp=>?_⟩
  exact SetTable.insert_up (ht.2 hp) nl
theorem y4R{f:Nat->Option Nat}:∀l:List Nat,(l.filterMap fun j=>(f j).map fun z=>(j,z)).map (·.1)=l.filter fun j=>(f j).isSome
 |[]=>rfl
 |j::l=>by
  rw[b7,bu]
  cases e:f j with
  |none=>simpa[e] using y4R l
  |some z=>simpa[e] using y4R l
theorem y4w{t:SetTable}{es:Array (Int×Value)}{n:Nat}(ht:TI t):TI (relayAll t es n).2.1:=by
 unfold relayAll
 cases e:t.relaid (es.map (·.1)) n with
 |none=>exact z4Y ht
 |some z=>
  obtain⟨t',order⟩:=z
  show TI (if _ then _ else _:Array (Int×Value)×SetTable×Bool).2.1
  split
  ·unfold SetTable.relaid SetTable.laid at e
   cases ho:SetTable.layClean (SetTable.sizeAbove n - 1) (es.map (·.1))with
   |none=>rw[ho]at e;cases e
   |some ow=>
    rw[ho]at e
    cases e
    refine⟨ht.1,fun _=>?_⟩
    unfold SetTable.Up
    show List.Pairwise _ (((ag _).filterMap fun j=>(ow.getD j none).map fun z=>(j,z)).map (·.1))
    rw[y4R]
    exact List.Pairwise.filter _ bB
  ·exact z4Y ht
theorem x2x:TI (SetTable.fresh 0 0 true):=⟨rfl,fun _=>List.Pairwise.nil⟩
end PySem
namespace PySem
section
variable{prog:dw}{w:fm}{K:Type}[DecidableEq K](knd:KeyKind prog w K)
def Heap.SetW(g:Heap)(a:Addr)(S:K->Bool)(n:Nat):Prop:=
 ∃ob xs ep tb,g.get? a=some ob∧ob.ExactSet∧ob.data = .set xs ep tb∧ElemsOf knd xs.toList∧(∀k,S k=true↔∃e∈xs.toList,knd.is k e.2=true)
  ∧ xs.size<scanBound∧tb.fits xs.size=true∧xs.size=n∧(w.params.followText "set-order" = true∨TI tb)
variable{knd}{A:Around}{E:Value->Shared->Prop}{s:Shared}
theorem z9C{g:Heap}{a:Addr}{ob:Obj}{xs ys:Array (Int×Value)}{ep:Nat}{tb tc:SetTable}{S':K->Bool}(g1:g.get? a=some ob)(g2:ob.ExactSet)(g3:ob.data = .set xs ep tb)
  (k1:ElemsOf knd ys.toList) (k2:∀k,S' k=true↔∃e∈ys.toList,knd.is k e.2=true) (k3:ys.size<scanBound) (k4:tc.fits ys.size=true) (k5:w.params.followText "set-order" = true∨TI tc):
  (g.update a (Obj.putSet ys tc)).get? a=some { ob with data:=.set ys (ep+1) tc }∧(g.update a (Obj.putSet ys tc)).SetW knd a S' ys.size:=by
 obtain⟨e1,_⟩:=SetOf_store (knd:=knd) g1 g2 g3 k1 k2 k3 k4
 exact⟨e1,_,ys,ep+1,tc,e1,g2,rfl,k1,k2,k3,k4,rfl,k5⟩
theorem y5t{gw:Bool->Sem Unit}(hgw:∀(b:Bool) (s₁:Shared) (Q':Unit->Shared->Prop),Q' () s₁->wpAny (model prog w) A (gw b) Q' E s₁)
  {a:Addr} {ob:Obj} {xs ys:Array (Int×Value)} {ep:Nat} {tb tc:SetTable} {S':K->Bool} (g1:s.heap.get? a=some ob) (g2:ob.ExactSet) (g3:ob.data = .set xs ep tb)
  (k1:ElemsOf knd ys.toList) (k2:∀k,S' k=true↔∃e∈ys.toList,knd.is k e.2=true) (k3:ys.size<scanBound) (k4:tc.fits ys.size=true) (k5:w.params.followText "set-order" = true∨TI tc) {wd:Bool} {R:Option Bool->Shared->Prop}
  (fin:∀g',Heap.SameBut a s.heap g'->g'.SetW knd a S' ys.size->R (some true) { s with heap:=g' }):
  wpAny (model prog w) A (do
    storeSet a ys tc
    if(!wd&&tc.tooFull)=true then do
      gw (relayAll tc ys (SetTable.grown ys.size)).2.2
      storeSet a (relayAll tc ys (SetTable.grown ys.size)).1 (relayAll tc ys (SetTable.grown ys.size)).2.1
      pure (some true)
     else pure (some true)) R E s:=by
 refine wpAny_bind (wpAny_storeSet_of g1 g3 ?_ (fits_of_scanBound k3))
 obtain⟨o1,w1⟩:=z9C (knd:=knd) g1 g2 g3 k1 k2 k3 k4 k5
 have sb:=Heap.SameBut.update s.heap a (Obj.putSet ys tc)
 split
 ·have rp:=relayAll_perm tc ys (SetTable.grown ys.size)
  have rf:=relayAll_fits tc ys (SetTable.grown ys.size)
  have rt:w.params.followText "set-order" = true∨TI (relayAll tc ys (SetTable.grown ys.size)).2.1:=k5.imp id y4w
  generalize relayAll tc ys (SetTable.grown ys.size)=Z at rp rf rt ⊢
  obtain⟨zs,td,gv⟩:=Z
  dsimp only at rp rf rt ⊢
  have m1:ElemsOf knd zs.toList:=k1.perm rp
  have m2:∀k',S' k'=true↔∃e∈zs.toList,knd.is k' e.2=true:=fun k'=>(k2 k').trans ⟨fun⟨e,he,q⟩=>⟨e,rp.mem_iff.mpr he,q⟩,fun⟨e,he,q⟩=>⟨e,rp.mem_iff.mp he,q⟩⟩
  have sz:zs.size=ys.size:=by simpa using rp.length_eq
  have m3:zs.size<scanBound:=sz ▸ k3
  refine wpAny_bind (hgw _ _ _ ?_)
  refine wpAny_bind (wpAny_storeSet_of o1 rfl ?_ (fits_of_scanBound m3))
  obtain⟨_,w2⟩:=z9C (knd:=knd) o1 g2 rfl m1 m2 m3 rf rt
  rw[sz]at w2
  exact wpAny_pure (fin _ (sb.trans (Heap.SameBut.update _ a _)) w2)
 ·exact wpAny_pure (fin _ sb w1)
theorem addW{a:Addr}{S:K->Bool}{n:Nat}{k:K}{x:Value}{Q:Bool->Shared->Prop}(kx:knd.is k x=true)(sx:x.scannable=true)(hS:s.heap.SetW knd a S n)(room:n+1<scanBound)
  (fin:∀g',Heap.SameBut a s.heap g'->g'.SetW knd a (fun k'=>S k'||decide (k'=k)) (if S k then n else n+1)->Q (!S k) { s with heap:=g' }):
  wpAny (model prog w) A (setAddHashed a x (knd.hash k)) Q E s:=by
 obtain⟨ob,xs,ep,tb,g1,g2,g3,g4,g5,g6,g7,g8,g9⟩:=hS
 have room':xs.size+1<scanBound:=by omega
 unfold setAddHashed setAddHashedIn
 refine wpAny_holding (wpAny_bind (wpAny_setState_of g1 g3 g7 ?_))
 dsimp only
 rw[byScan_of sx g6 g4]
 simp only[↓reduceIte]
 unfold setAddByScan
 refine wpAny_bind ?_
 refine wpAny_bind (wpAny_rule ?_)
 refine wpAny_bind (wpAny_setScan_of kx g1 g3 g7 g4 ?_)
 cases fi:List.findIdx? (fun e=>knd.is k e.2) xs.toList with
 |some j=>
  dsimp only
  obtain⟨hj,hp,_⟩:=ci.mp fi
  have yes:S k=true:=(g5 k).mpr ⟨xs.toList[j],cA hj,hp⟩
  refine wpAny_pure (wpAny_pure ?_)
  have z:=fin s.heap (Heap.SameBut.refl a s.heap) ⟨ob,xs,ep,tb,g1,g2,g3,g4,fun k'=>by
   rw[dO,decide_eq_true_eq,←g5 k']
   exact⟨fun q=>q.elim id fun e=>e ▸ yes,.inl⟩,g6,g7,by rw[yes];exact g8,g9⟩
  rw[yes]at z
  exact z
 |none=>
  dsimp only
  have no:S k=false:=by
   rw[←aR]
   intro hk
   obtain⟨e,he,hp⟩:=(g5 k).mp hk
   have:=List.findIdx?_eq_none_iff.mp fi e he
   rw[hp]at this
   cases this
  have gw:∀(b:Bool) (s₁:Shared) (Q':Unit->Shared->Prop),Q' () s₁->wpAny (model prog w) A (match b with | true=>rule "set.scan.the-table-gave-way" |false=>pure ()) Q' E s₁:=by
   intro b s₁ Q' hq
   cases b
   ·exact wpAny_pure hq
   ·exact wpAny_rule hq
  have lp:=layNew_perm tb xs (knd.hash k) x
  have lf:=layNew_fits tb xs (knd.hash k) x
  have lt:w.params.followText "set-order" = true∨TI (layNew tb xs (knd.hash k) x).2.1:=g9.imp id x0y
  generalize layNew tb xs (knd.hash k) x=L at lp lf lt ⊢
  obtain⟨ys,tc,wd,gv⟩:=L
  dsimp only at lp lf lt ⊢
  rw[fg]at lp
  have m1:ElemsOf knd ys.toList:=(g4.push kx sx).perm lp
  have m2:∀k',(S k'||decide (k'=k))=true↔∃e∈ys.toList,knd.is k' e.2=true:=mem_push_iff kx g5 lp
  have m0:ys.size=n+1:=by
   have:=lp.length_eq
   simp at this
   omega
  have m3:ys.size<scanBound:=by omega
  refine wpAny_bind (gw _ _ _ ?_)
  have done:∀g',Heap.SameBut a s.heap g'->g'.SetW knd a (fun k'=>S k'||decide (k'=k)) ys.size->Q true { s with heap:=g' }:=fun g' sb z=>by
   have:=fin g' sb
   rw[no]at this
   rw[m0]at z
   exact this z
  split
  ·refine wpAny_bind ?_
   rw[hashByValue_scannable 8 sx]
   refine wpAny_pure ?_
   refine y5t gw g1 g2 g3 m1 m2 m3 ?_ ?_ fun g' sb z=>wpAny_pure (done g' sb z)
   ·split
    ·exact lf
    ·exact SetTable.fits_plain_off lf
   ·split
    ·exact lt
    ·exact lt.imp id fun z=>⟨z.1,fun q=>by cases q⟩
  ·refine wpAny_bind (wpAny_pure ?_)
   simp only[↓reduceIte]
   exact y5t gw g1 g2 g3 m1 m2 m3 lf lt fun g' sb z=>wpAny_pure (done g' sb z)
end
section
variable{prog:dw}{w:fm}{A:Around}{R:Result->Shared->Prop}{I:Addr}{fp wr:List Addr}{G:Array GenState->Array GenState->Prop}{n:Nat}{P:Nat->Value->Prop}{St:Nat->Shared->Prop}
open PyProof.Rows in
theorem updateW(W:WalksS prog w A.in1 I fp wr G n P St)(a:Addr)(af:a∉fp)(val:Nat->Int)(hv:∀i v,P i v->∃t,v = .int (val i) t)(hb:n+1<scanBound):
  ∀(k i:Nat) (s:Shared),n - i=k->i≤n->St i s->s.heap.SetW (intKind prog w) a (fun z=>(firstMet val i).any (· == z)) (firstMet val i).length →
   (∀s',Moved (a::wr) G s s'->s'.heap.SetW (intKind prog w) a (fun z=>(firstMet val n).any (· == z)) (firstMet val n).length->R (.ok (.ret .none)) s') →
   codeAny (model prog w) A (.builtin "set.update.loop" ⟨[.ref a,.ref I],[]⟩) R s:=by
 have aw:a∉wr:=fun z=>af (W.sub _ z)
 have sub:∀b∈wr,b∈a::wr:=fun b z=>ad _ z
 have keep:∀{s s':Shared} {S:Int->Bool} {m:Nat},Moved wr G s s'->s.heap.SetW (intKind prog w) a S m->s'.heap.SetW (intKind prog w) a S m:=fun {s s' S m} mv ⟨ob,xs,ep,tb,g1,g⟩=>⟨ob,xs,ep,tb,mv.heap a _ aw g1,g⟩
 intro k
 induction k with
 |zero=>
  intro i s hk hi st hS fin
  obtain rfl:i=n:=by omega
  refine codeAny_builtin F.entry_set_update_loop ?_
  rw[Around.under_plainId F.plain_set_update_loop _]
  show wpAny _ A.in1 (pyNext (.ref I) >>= _) _ _ s
  refine wpAny_bind (W.done s _ _ st fun s' mv=>?_)
  show wpAny _ A.in1 (ret Value.none) _ _ s'
  exact wpAny_pure (fin s' (mv.mono sub) (keep mv hS))
 |succ k ih=>
  intro i s hk hi st hS fin
  have lt:i<n:=by omega
  refine codeAny_builtin F.entry_set_update_loop ?_
  rw[Around.under_plainId F.plain_set_update_loop _]
  show wpAny _ A.in1 (pyNext (.ref I) >>= _) _ _ s
  refine wpAny_bind (W.item i s _ _ lt st fun v s' hP st' mv=>?_)
  obtain⟨t,rfl⟩:=hv i v hP
  show wpAny _ A.in1 (holding [Value.int (val i) t] (setAdd a (.int (val i) t)) >>= _) _ _ s'
  refine wpAny_bind (wpAny_holding ?_)
  unfold setAdd
  refine wpAny_holding ?_
  refine wpAny_bind ((intKind prog w).pyHash (k:=val i) (intKind_is _ _ _ _) ?_)
  have room:(firstMet val i).length+1<scanBound:=by have:=firstMet_length_le val i;omega
  refine addW (knd:=intKind prog w) (s:={ s' with toks:=s'.toks+1 }) (intKind_is _ _ _ _) rfl (show s'.heap.SetW _ a _ _ from keep mv hS) room fun g' sb w2=>?_
  have w3:g'.SetW (intKind prog w) a (fun z=>(firstMet val (i+1)).any (· == z)) (firstMet val (i+1)).length:=by
   have e1:(fun z=>(firstMet val i).any (· == z)||decide (z=val i))=fun z=>(firstMet val (i+1)).any (· == z):=funext fun z=>by rw[firstMet_succ,step_any]
   have e2:(if((firstMet val i).any (· == val i))=true then(firstMet val i).length else(firstMet val i).length+1)=(firstMet val (i+1)).length:=by rw[firstMet_succ,step_length]
   rw[e1,e2]at w2
   exact w2
  refine wpAny_pure ⟨plainId_quiet F.plain_set_update_loop _,ih (i+1) _ (by omega) lt (W.frame _ s' _ _ st' (cH _) fun b hb o e=>?_) w3 fun s2 mv2 w4=>?_⟩
  ·rw[sb.2 b fun z=>af (z ▸ hb)]
   exact e
  ·refine fin s2 (Moved.trans W.gtrans ((mv.mono sub).then_heap (cH _) fun b o hb e=>?_) mv2) w4
   rw[sb.2 b fun z=>hb (z ▸ ac)]
   exact e
end
end PySem
namespace PySem
section
variable{prog:dw}{w:fm}{A:Around}{E:Value->Shared->Prop}{s:Shared}
open PyProof.Rows in
theorem x3p(a:Value){Q₁:Value->Shared->Prop}
  (h:Q₁ (.ref s.heap.objs.size) { s with heap:=s.heap.push { cls:=.type "set",dict:=none,data:=.set #[] 0 (.fresh 0 0 (!w.params.followText "set-order")) } }):
  codeAny (model prog w) A (.call (.builtin "set.__new__") ⟨[.type "set",a],[]⟩) (wants Q₁ E) s:=by
 refine codeAny_of_tree ?_
 show wpAny _ A.in1 (do checkBuiltinCall "set.__new__" ⟨[.type "set",a],[]⟩;again (.builtin "set.__new__" ⟨[.type "set",a],[]⟩)) _ _ s
 refine wpAny_bind (wpAny_of_eq (F.newCall_set_1 a) (wpAny_pure ⟨plainId_quiet F.plain_set_new _,codeAny_builtin F.entry_set_new ?_⟩))
 rw[Around.under_plainId F.plain_set_new _]
 unfold Builtin.«set.__new__» Builtin.Frozenset.newClass
 have hsub:=sub_set_self
 obtain⟨hp,g,d,tk,os⟩:=s
 dsimp only
 wp_walk
 refine wpAny_askSetting (wpAny_pure ?_)
 dsimp only
 simp only[newObj]
 refine wpAny_bind (wpAny_alloc (wpAny_pure ?_))
 exact wpAny_pure h
set_option maxHeartbeats 3200000 in
open PyProof.Rows in
theorem x1f{l:Addr}{its:Array Value}{ns:List Int}{Q:Value->Shared->Prop}(hh:A.handled=none)(hl:s.heap.IsList l its)(hi:IntsAre its.toList ns)(hb:its.size+1<scanBound)
  (fin:∀(g':Heap) (tk:Nat),g'.SetW (intKind prog w) s.heap.objs.size (fun z=>(firstMet (fun i=>ns.getD i 0) its.size).any (· == z)) (firstMet (fun i=>ns.getD i 0) its.size).length →
   (∀b o,b<s.heap.objs.size->s.heap.get? b=some o->g'.get? b=some o)->Q (.ref s.heap.objs.size) { s with heap:=g',toks:=tk }):
  wpAny (model prog w) A (call (.type "set") [.ref l]) Q E s:=by
 obtain⟨c,tl,m1⟩:=F.called_set.mro
 have m2:=F.called_set.made
 have m3:=F.called_set.sub
 refine wpAny_call (codeAny_of_tree ?_)
 show wpAny _ _ (callAny (.type "set") _) _ _ _
 refine wpAny_pure ⟨Code.quiet_builtin _ (by decide +kernel),codeAny_builtin F.entry_type_call ?_⟩
 rw[Around.under_plain (weight_type_call_type "set" [.ref l] []) rfl]
 have m4:=F.called_set.notType
 have m5:=F.called_set.canCreate
 have m6:=F.typeCall_set_1 (.ref l)
 repeat (any_goals (first | assumption | wp_step))
 obtain⟨ob,hob⟩:∃ob:Obj,ob = { cls:=.type "set",dict:=none,data:=.set #[] 0 (.fresh 0 0 (!w.params.followText "set-order")) }:=⟨_,rfl⟩
 refine codeAny_mono (x3p (.ref l) (E:=E) (Q₁:=fun v s₁=>v = .ref s.heap.objs.size∧s₁ = { s with heap:=s.heap.push ob }) ⟨rfl,by rw[hob]⟩) fun r s₁ hr=>?_
 cases r with
 |error e=>exact hr
 |ok fl=>
  cases fl with
  |ret v=>
   obtain⟨rfl,rfl⟩:=hr
   have p1:(s.heap.push ob).get? s.heap.objs.size=some ob:=Heap.get?_push_size _ (by rw[hob];rfl)
   have p2:Shared.TypeIs { s with heap:=s.heap.push ob } (.ref s.heap.objs.size) "set" := ⟨_,p1,by rw[hob]⟩
   have p3:=F.called_set.init.lookup
   have p4:=F.called_set.init.bind (.ref s.heap.objs.size)
   repeat (any_goals (first | assumption | wp_step))
   refine codeAny_mono (codeAny_call_builtin (R:=wants (fun r s₂=>r = .none∧∃g' tk,s₂ = { s with heap:=g',toks:=tk } ∧
     g'.SetW (intKind prog w) s.heap.objs.size (fun z=>(firstMet (fun i=>ns.getD i 0) its.size).any (· == z)) (firstMet (fun i=>ns.getD i 0) its.size).length ∧
     (∀b o,b<s.heap.objs.size->s.heap.get? b=some o->g'.get? b=some o)) E) F.called_set.init.plain F.entry_set_init (check_set_init_1 p2 ?_)) fun r₂ s₂ hr₂=>?_
   ·obtain⟨ol,q1,q2,nl,q3⟩:=hl
    obtain⟨ocls,odict,odata,oslots⟩:=ol
    simp only at q2 q3
    subst q2;subst q3
    have q4:(s.heap.push ob).get? l=some { cls:=.type "list",dict:=odict,data:=.seq its nl,slots:=oslots }:=Heap.get?_push_of_some _ q1
    have q5:=F.sub_list_set
    have q6:=F.sub_list_frozenset
    have q7:(Value.type "list" == Value.type "dict")=false:=by decide
    have q8:(s.heap.push ob).IsList l its:=⟨_,q4,rfl,nl,rfl⟩
    unfold Builtin.«set.__init__» noKeywords Builtin.Frozenset.updateFrom
    generalize hPI:pyIter=PI
    rw[hob]at p1 p2 q4 q8 ⊢
    wp_walk
    subst hPI
    refine wpAny_pyIter_list q8 ?_
    refine wpAny_bind (wpAny_runValue ?_)
    have ls:l<s.heap.objs.size:=Heap.lt_size q1
    have hh3:A.in1.in1.in1.handled=none:=by simp[hh]
    rw[←hob]at p1 q8 ⊢
    have ne1:l≠(s.heap.push ob).objs.size:=by
     rw[Heap.size_push]
     exact az (bz ls)
    have af:s.heap.objs.size∉[(s.heap.push ob).objs.size,l]:=fun z=>by
     rw[Heap.size_push]at z
     rcases ah.mp z with z | z
     ·exact absurd z (az (cD _))
     ·exact absurd (ai.mp z) (bP ls)
    refine updateW ((Walks.list hh3 _ l ne1 its).toS) s.heap.objs.size af (fun i=>ns.getD i 0) (fun i v hv=>IntsAre.int_at hi i v (by rw[cq];exact hv)) hb (its.size - 0) 0 _ (by omega) (bg _)
     ⟨⟨_,Heap.get?_push_size _ rfl,rfl,rfl⟩,(q8.push _)⟩ ?h0 ?h1
    case h0=>
     have e1:((s.heap.push ob).push { cls:=.type "list_iterator",data:=.fields #[.ref l,.int 0 0] }).get? s.heap.objs.size=some ob:=Heap.get?_push_of_some _ p1
     refine⟨ob,#[],0,.fresh 0 0 (!w.params.followText "set-order"),e1,by rw[hob];exact⟨rfl,rfl,rfl⟩,by rw[hob],(fun e he=>nomatch he),fun k=>?_,by decide,rfl,rfl,?_⟩
     ·constructor
      ·intro z;cases z
      ·rintro⟨e,he,_⟩;cases he
     ·cases hf:w.params.followText "set-order" with
      |true=>exact .inl rfl
      |false=>exact .inr x2x
    case h1=>
     intro s' mv w1
     obtain⟨g',gs,dr,tk',os'⟩:=s'
     have eg:gs=s.gens:=mv.gens
     have ed:dr=s.drawn:=mv.drawn
     have eo:os'=s.os:=mv.os
     subst eg;subst ed;subst eo
     refine wpAny_pure ?_
     show wpAny _ _ (ret Value.none) _ _ _
     refine wpAny_pure ⟨rfl,g',tk',rfl,w1,fun b o hb e=>?_⟩
     refine mv.heap b o (fun z=>?_) (Heap.get?_push_of_some _ (Heap.get?_push_of_some _ e))
     rcases ah.mp z with z | z
     ·exact absurd z (az hb)
     ·rw[ai,Heap.size_push]at z
      exact absurd z (az (bz hb))
   ·cases r₂ with
    |error e=>exact hr₂
    |ok fl₂=>
     cases fl₂ with
     |ret r=>
      obtain⟨rfl,g',tk,rfl,w1,w2⟩:=hr₂
      repeat (any_goals (first | assumption | wp_step))
      exact fin _ _ w1 w2
     |_=>exact hr₂.elim
  |_=>exact hr.elim
end
end PySem
namespace PySem
theorem y5c:entryFor table "set.__iter__" = some Builtin.«frozenset.__iter__»:=entryFor_alias (id' := "frozenset.__iter__") (by kernel_rfl) rfl (by decide +kernel) (by kernel_rfl)
theorem sl_sit_next:Slot "set_iterator" "__next__" "set_iterator.__next__" :=
 .of (owner := "set_iterator") (n := "__next__") (by rw[typeLookup_type,builtinLookup_eq_fast];kernel_rfl) (by decide +kernel) (by decide +kernel) (by decide +kernel) (by first | exact .inl (by decide +kernel) | exact .inr (by decide +kernel)) (by rw[isSubtype_type];kernel_rfl)
theorem z3r:entryFor table "set_iterator.__next__" = some Builtin.«set_iterator.__next__»:=entryFor_of_tree (by kernel_rfl)
theorem x4W:Manifest.owners.lookup (String.ofList ['r','o','t','a','r','e','t','i','_','t','e','s'].reverse)=some Manifest.sig_set_iterator:=by kernel_rfl
theorem z3x(a:Value):argsOk "set_iterator.__next__" ⟨[a],[]⟩:=by
 unfold argsOk
 rw[signature?_of (id := "set_iterator.__next__") (n:=['_','_','t','x','e','n','_','_']) (o:=['r','o','t','a','r','e','t','i','_','t','e','s']) (by kernel_rfl) x4W]
 kernel_rfl
theorem z7a{α:Type}:∀{l:List α} {i:Nat} (h:i<l.length),(l[i]::l.eraseIdx i).Perm l
 |x::r,0,_=>.refl _
 |x::r,i+1,h=>by
  have hi:i<r.length:=by simpa using h
  exact(List.Perm.swap x (r[i]'hi) (r.eraseIdx i)).trans ((z7a hi).cons x)
section
variable{M:Model}{A:Around}{E:Value->Shared->Prop}{s:Shared}
theorem y7D{src:Source}{n:Nat}{Q:Nat->Shared->Prop}(hn:n≠0)(h:∀i,i<n->∀dr,Q i { s with drawn:=dr }):wpAny M A (choose src n) Q E s:=fun Γ p _=>⟨hn,h _ (Nat.mod_lt _ (Nat.pos_of_ne_zero hn)) _⟩
theorem z8z{α:Type}:∀(n:Nat) (xs:List α) (s:Shared) {Q:List α->Shared->Prop},xs.length=n->(∀ys dr,ys.Perm xs->Q ys { s with drawn:=dr })->wpAny M A (drawOrder n xs) Q E s
 |0,[],s,Q,_,h=>wpAny_pure (h [] s.drawn (.refl _))
 |0,_::_,_,_,hl,_=>by cases hl
 |n+1,[],_,_,hl,_=>by cases hl
 |n+1,x::r,s,Q,hl,h=>by
  unfold drawOrder
  refine wpAny_bind (y7D (by simp) fun i hi dr=>?_)
  obtain⟨y,hy⟩:∃y,(x::r)[i]? = some y:=⟨(x::r)[i],ax hi⟩
  rw[hy]
  refine wpAny_bind (z8z n ((x::r).eraseIdx i) _ (by rw[dU hi];simp at hl ⊢;omega) fun ys dr2 hp=>wpAny_pure (h (y::ys) dr2 ?_))
  obtain⟨hi',rfl⟩:=aU.mp hy
  exact(hp.cons _).trans (z7a hi')
end
theorem y3b{α:Type}(next:Nat->Nat):∀(f k:Nat) (left:List α) (out:Array α),left.length=f->(pickOrder.go next f k left out).toList.Perm (out.toList++left)
 |0,k,left,out,h=>by
  obtain rfl:=bL.mp h
  unfold pickOrder.go
  simp
 |f+1,k,left,out,h=>by
  unfold pickOrder.go
  have hi:next k % left.length<left.length:=Nat.mod_lt _ (by omega)
  rw[ax hi]
  refine(y3b next f (k+1) _ _ (by rw[dU hi];omega)).trans ?_
  rw[fg,aK]
  exact List.Perm.append_left _ (z7a hi)
theorem y7O{α:Type}(next:Nat->Nat)(xs:Array α):(pickOrder next xs).toList.Perm xs.toList:=by
 have:=y3b next xs.size 0 xs.toList #[] (by simp)
 unfold pickOrder
 simpa using this
section
variable{prog:dw}{w:fm}{A:Around}{E:Value->Shared->Prop}{s:Shared}
theorem y9O{a:Addr}{ob:Obj}{xs:Array (Int×Value)}{ep sl i:Nat}{tb:SetTable}{Q:Option (Value×Nat)->Shared->Prop}(g1:s.heap.get? a=some ob)(g3:ob.data = .set xs ep tb)(g7:tb.fits xs.size=true)
  (ht:w.params.followText "set-order" = true) (h:Q (((pickOrder (w.params.setOrder a ep) xs)[i]?).map fun e=>(e.2,sl)) s):wpAny (model prog w) A (setNext a sl i ep) Q E s:=by
 unfold setNext
 refine wpAny_bind (wpAny_setState_of g1 g3 g7 ?_)
 dsimp only
 unfold setsByText
 refine wpAny_bind (wpAny_bind (wpAny_askSetting (wpAny_pure ?_)))
 show wpAny _ _ (if w.params.followText "set-order" = true then _ else _) _ _ s
 rw[if_pos ht,if_neg (by simp)]
 refine wpAny_bind ?_
 unfold setWalk
 refine wpAny_bind (wpAny_setState_of g1 g3 g7 ?_)
 dsimp only
 unfold setsByText
 refine wpAny_bind (wpAny_bind (wpAny_askSetting (wpAny_pure ?_)))
 show wpAny _ _ (if w.params.followText "set-order" = true then _ else _) _ _ s
 rw[if_pos ht]
 exact wpAny_bind (wpAny_askSetting (wpAny_pure (wpAny_pure h)))
def slP(tb:SetTable):Nat->Nat
 |0=>0
 |i+1=>tb.place.getD i 0+1
theorem x4f{tb:SetTable}(hu:SetTable.Up tb.place){i:Nat}(hi:i≤tb.place.size):SetTable.below tb.place (slP tb i)=i:=by
 obtain⟨a,b,c⟩:=SetTable.below_spec hu (slP tb i)
 have gd:∀k d,k<tb.place.size->tb.place.getD k d=tb.place.getD k 0:=fun k d hk=>by simp[hk]
 rcases Nat.lt_trichotomy (SetTable.below tb.place (slP tb i)) i with z | z | z
 ·have h1:=b _ (ao _) (by omega)
  generalize SetTable.below tb.place (slP tb i)=r at h1 z
  rw[gd r _ (by omega)]at h1
  cases i with
  |zero=>omega
  |succ i=>
   have h2:slP tb (i+1)=tb.place.getD i 0+1:=rfl
   rw[h2]at h1
   rcases dD r i with q | q
   ·have:=SetTable.up_le hu q (by omega) 0
    omega
   ·have:r=i:=by omega
    rw[this]at h1
    omega
 ·exact z
 ·have h1:=a i z
  rw[gd i _ (by omega)]at h1
  cases i with
  |zero=>have h2:slP tb 0=0:=rfl;omega
  |succ i=>
   have h2:slP tb (i+1)=tb.place.getD i 0+1:=rfl
   have:=SetTable.up_le hu (show i<i+1 by omega) (by omega) 0
   omega
theorem y7J{a:Addr}{ob:Obj}{xs:Array (Int×Value)}{ep i:Nat}{tb:SetTable}{Q:Option (Value×Nat)->Shared->Prop}(g1:s.heap.get? a=some ob)(g3:ob.data = .set xs ep tb)(g7:tb.fits xs.size=true)
  (ht:w.params.followText "set-order" = false) (hd:(!tb.plain&&decide (xs.size>1))=false) (hled:tb.led=true) (hu:SetTable.Up tb.place) (hi:i≤xs.size) (h:Q ((xs[i]?).map fun e=>(e.2,slP tb (i+1))) s):wpAny (model prog w) A (setNext a (slP tb i) i ep) Q E s:=by
 have hp:tb.place.size=xs.size:=by
  unfold SetTable.fits at g7
  rw[aM]at g7
  exact eq_of_beq g7.1
 unfold setNext
 refine wpAny_bind (wpAny_setState_of g1 g3 g7 ?_)
 dsimp only
 unfold setsByText
 refine wpAny_bind (wpAny_bind (wpAny_askSetting (wpAny_pure ?_)))
 show wpAny _ _ (if w.params.followText "set-order" = true then _ else _) _ _ s
 rw[if_neg (by rw[ht];exact aj)]
 show wpAny _ _ (if(!tb.plain&&decide (xs.size>1))=true then _ else _) _ _ s
 rw[if_neg (by rw[hd];exact aj)]
 refine wpAny_bind ?_
 show wpAny _ _ (if(!tb.led && !xs.isEmpty)=true then _ else _) _ _ s
 rw[if_neg (by rw[hled];exact aj)]
 refine wpAny_pure (wpAny_pure ?_)
 show Q (match xs[SetTable.below tb.place (slP tb i)]?,tb.place[SetTable.below tb.place (slP tb i)]? with | some (_,x),some j=>some (x,j+1) | _,_=>none) s
 rw[x4f hu (by omega)]
 by_cases hlt:i<xs.size
 ·rw[aL hlt]at h ⊢
  rw[aL (show i<tb.place.size by omega)]
  have e:slP tb (i+1)=tb.place[i]+1:=by
   show tb.place.getD i 0+1=_
   simp[show i<tb.place.size by omega]
  rw[e]at h
  exact h
 ·rw[ez (by omega)]at h ⊢
  exact h
end
end PySem
namespace PySem
def Heap.SIt(g:Heap)(I a:Addr)(first:Value)(i n ep:Nat):Prop:=∃ob,g.get? I=some ob∧ob.cls = .type "set_iterator" ∧ ob.data = .fields #[first,.int i 0,.ref a,.int n 0,.int ep 0]
def Heap.SDt(g:Heap)(a:Addr)(xs:Array (Int×Value))(ep:Nat)(tb:SetTable):Prop:=∃ob,g.get? a=some ob∧ob.data = .set xs ep tb
section
variable{prog:dw}{w:fm}{A:Around}{E:Value->Shared->Prop}{s:Shared}
theorem z1N{I a:Addr}{f:Value}{i n ep:Nat}(h:s.heap.SIt I a f i n ep):s.TypeIs (.ref I) "set_iterator" := by
 obtain⟨ob,h1,h2,_⟩:=h
 exact⟨ob,h1,h2⟩
theorem z3j{a:Addr}{xs:Array (Int×Value)}{ep:Nat}{tb:SetTable}{Q:Array (Int×Value)->Shared->Prop}(h:s.heap.SDt a xs ep tb)(hf:tb.fits xs.size=true)(q:Q xs s):wpAny (model prog w) A (setEntries a) Q E s:=by
 obtain⟨ob,g1,g3⟩:=h
 unfold setEntries
 exact wpAny_bind (wpAny_setState_of g1 g3 hf (wpAny_pure q))
theorem x2P{I a:Addr}{sl sl' i ep:Nat}{xs:Array (Int×Value)}{tb:SetTable}{x:Value}{Q:Option Value->Shared->Prop}(hit:s.heap.SIt I a (.int sl 0) i xs.size ep)(hs:s.heap.SDt a xs ep tb)(hf:tb.fits xs.size=true)
  (hn:∀(A':Around) (E':Value->Shared->Prop) (Q':Option (Value×Nat)->Shared->Prop),Q' (some (x,sl')) s->wpAny (model prog w) A' (setNext a sl i ep) Q' E' s)
  (hQ:∀g',g'.SIt I a (.int sl' 0) (i+1) xs.size ep->Heap.SameBut I s.heap g'->Q (some x) { s with heap:=g' }):wpAny (model prog w) A (pyNext (.ref I)) Q E s:=by
 obtain⟨ob,h1,h2,h3⟩:=id hit
 unfold pyNext
 refine wpAny_bind (wpAny_attempt (wpAny_callSpecial?_slot (name:=Str.ofString "__next__") (z1N hit) sl_sit_next (wpAny_call_entry sl_sit_next (z1N hit) z3r ?_ (z3x _))))
 unfold Builtin.«set_iterator.__next__»
 refine wpAny_bind (wpAny_pure ?_)
 refine wpAny_bind (wpAny_fieldsOf h1 h3 ?_)
 dsimp only
 refine wpAny_bind (z3j hs hf ?_)
 rw[if_neg (by simp)]
 refine wpAny_bind (hn _ _ _ ?_)
 dsimp only
 refine wpAny_bind (wpAny_setField h1 h3 (by simp) ?_)
 have k1:=Heap.get?_update_self (Obj.mapFields (·.setIfInBounds 0 (rawInt (sl':Int)))) h1 (Obj.isFreed_of_fields (Obj.data_mapFields h3 _))
 have k3:=Obj.data_mapFields h3 (·.setIfInBounds 0 (rawInt (sl':Int)))
 refine wpAny_bind (wpAny_setField k1 k3 (by simp) ?_)
 have m1:=Heap.get?_update_self (Obj.mapFields (·.setIfInBounds 1 (rawInt ((i:Int)+1)))) k1 (Obj.isFreed_of_fields (Obj.data_mapFields k3 _))
 have m3:=Obj.data_mapFields k3 (·.setIfInBounds 1 (rawInt ((i:Int)+1)))
 refine wpAny_pure ⟨_,rfl,wpAny_pure (hQ _ ⟨_,m1,((Obj.cls_mapFields ..).trans (Obj.cls_mapFields ..)).trans h2,?_⟩ ((Heap.SameBut.update ..).trans (Heap.SameBut.update ..)))⟩
 rw[m3]
 simp[rawInt]
theorem sit_end{I a:Addr}{sl i ep:Nat}{xs:Array (Int×Value)}{tb:SetTable}{Q:Option Value->Shared->Prop}(hh:A.handled=none)(hit:s.heap.SIt I a (.int sl 0) i xs.size ep)(hs:s.heap.SDt a xs ep tb)(hf:tb.fits xs.size=true)
  (hn:∀(A':Around) (E':Value->Shared->Prop) (Q':Option (Value×Nat)->Shared->Prop),Q' none s->wpAny (model prog w) A' (setNext a sl i ep) Q' E' s)
  (hQ:∀g',Heap.ExtBut I s.heap g'->Q none { s with heap:=g' }):wpAny (model prog w) A (pyNext (.ref I)) Q E s:=by
 obtain⟨ob,h1,h2,h3⟩:=id hit
 unfold pyNext
 refine wpAny_bind (wpAny_attempt (wpAny_callSpecial?_slot (name:=Str.ofString "__next__") (z1N hit) sl_sit_next (wpAny_call_entry sl_sit_next (z1N hit) z3r ?_ (z3x _))))
 unfold Builtin.«set_iterator.__next__»
 refine wpAny_bind (wpAny_pure ?_)
 refine wpAny_bind (wpAny_fieldsOf h1 h3 ?_)
 dsimp only
 refine wpAny_bind (z3j hs hf ?_)
 rw[if_neg (by simp)]
 refine wpAny_bind (hn _ _ _ ?_)
 dsimp only
 refine wpAny_bind (wpAny_setField h1 h3 (by simp) ?_)
 refine wpAny_bind ?_
 simp only[newExc,newTuple]
 refine wpAny_bind (wpAny_newObj_type ?_ (by size_fits))
 refine wpAny_bind (m:=firstArgMember _ _) (wpAny_of_eq (a:=Value.none) (by first | rfl | (simp only[firstArgMember];rfl)) ?_)
 refine wpAny_newObj_type ?_ (by size_fits)
 simp only[raiseNew]
 refine wpAny_bind (wpAny_handled ?_)
 rw[show A.in1.handled=none from hh]
 refine wpAny_bind (wpAny_pure (wpAny_throw ?_))
 refine wpAny_bind (wpAny_isInstance (T := "StopIteration") (b:=true) ⟨_,Heap.get?_push_size _ rfl,rfl⟩ isSubtype_stop ?_)
 exact wpAny_pure (hQ _ (((Heap.SameBut.update ..).extBut.push _).push _))
theorem y7m{I a tp:Addr}{i ep p:Nat}{xs:Array (Int×Value)}{tb:SetTable}{ps:Array Value}{x:Int×Value}{Q:Option Value->Shared->Prop}(hit:s.heap.SIt I a (.ref tp) i xs.size ep)(hs:s.heap.SDt a xs ep tb)(hf:tb.fits xs.size=true)
  (ht:∀(A':Around) (E':Value->Shared->Prop) (Q':Option (Array Value)->Shared->Prop),Q' (some ps) s->wpAny (model prog w) A' (seqItems? (.ref tp)) Q' E' s) (hp:ps[i]? = some (.int p 0)) (hx:xs[p]? = some x)
  (hQ:∀g',g'.SIt I a (.ref tp) (i+1) xs.size ep->Heap.SameBut I s.heap g'->Q (some x.2) { s with heap:=g' }):wpAny (model prog w) A (pyNext (.ref I)) Q E s:=by
 obtain⟨ob,h1,h2,h3⟩:=id hit
 obtain⟨oa,g1,g3⟩:=id hs
 unfold pyNext
 refine wpAny_bind (wpAny_attempt (wpAny_callSpecial?_slot (name:=Str.ofString "__next__") (z1N hit) sl_sit_next (wpAny_call_entry sl_sit_next (z1N hit) z3r ?_ (z3x _))))
 unfold Builtin.«set_iterator.__next__»
 refine wpAny_bind (wpAny_pure ?_)
 refine wpAny_bind (wpAny_fieldsOf h1 h3 ?_)
 dsimp only
 refine wpAny_bind (z3j hs hf ?_)
 rw[if_neg (by simp)]
 refine wpAny_bind (ht _ _ _ ?_)
 dsimp only
 rw[bV,hp]
 dsimp only
 refine wpAny_bind ?_
 unfold setNextDrawn
 refine wpAny_bind (wpAny_setState_of g1 g3 hf ?_)
 dsimp only
 rw[if_neg (by simp),bV,hx]
 refine wpAny_pure ?_
 refine wpAny_bind (wpAny_setField h1 h3 (by simp) ?_)
 have k1:=Heap.get?_update_self (Obj.mapFields (·.setIfInBounds 1 (rawInt ((i:Int)+1)))) h1 (Obj.isFreed_of_fields (Obj.data_mapFields h3 _))
 have k3:=Obj.data_mapFields h3 (·.setIfInBounds 1 (rawInt ((i:Int)+1)))
 refine wpAny_pure ⟨_,rfl,wpAny_pure (hQ _ ⟨_,k1,(Obj.cls_mapFields ..).trans h2,?_⟩ (Heap.SameBut.update ..))⟩
 rw[k3]
 simp[rawInt]
theorem y8V{I a tp:Addr}{i ep:Nat}{xs:Array (Int×Value)}{tb:SetTable}{ps:Array Value}{Q:Option Value->Shared->Prop}(hh:A.handled=none)(hit:s.heap.SIt I a (.ref tp) i xs.size ep)(hs:s.heap.SDt a xs ep tb)(hf:tb.fits xs.size=true)
  (ht:∀(A':Around) (E':Value->Shared->Prop) (Q':Option (Array Value)->Shared->Prop),Q' (some ps) s->wpAny (model prog w) A' (seqItems? (.ref tp)) Q' E' s) (hp:ps[i]? = none)
  (hQ:∀g',Heap.ExtBut I s.heap g'->Q none { s with heap:=g' }):wpAny (model prog w) A (pyNext (.ref I)) Q E s:=by
 obtain⟨ob,h1,h2,h3⟩:=id hit
 unfold pyNext
 refine wpAny_bind (wpAny_attempt (wpAny_callSpecial?_slot (name:=Str.ofString "__next__") (z1N hit) sl_sit_next (wpAny_call_entry sl_sit_next (z1N hit) z3r ?_ (z3x _))))
 unfold Builtin.«set_iterator.__next__»
 refine wpAny_bind (wpAny_pure ?_)
 refine wpAny_bind (wpAny_fieldsOf h1 h3 ?_)
 dsimp only
 refine wpAny_bind (z3j hs hf ?_)
 rw[if_neg (by simp)]
 refine wpAny_bind (ht _ _ _ ?_)
 dsimp only
 rw[bV,hp]
 dsimp only
 refine wpAny_bind (wpAny_setField h1 h3 (by simp) ?_)
 have k1:=Heap.get?_update_self (Obj.mapFields (·.setIfInBounds 0 (rawInt 0))) h1 (Obj.isFreed_of_fields (Obj.data_mapFields h3 _))
 have k3:=Obj.data_mapFields h3 (·.setIfInBounds 0 (rawInt 0))
 refine wpAny_bind (wpAny_setField k1 k3 (by simp) ?_)
 refine wpAny_bind ?_
 simp only[newExc,newTuple]
 refine wpAny_bind (wpAny_newObj_type ?_ (by size_fits))
 refine wpAny_bind (m:=firstArgMember _ _) (wpAny_of_eq (a:=Value.none) (by first | rfl | (simp only[firstArgMember];rfl)) ?_)
 refine wpAny_newObj_type ?_ (by size_fits)
 simp only[raiseNew]
 refine wpAny_bind (wpAny_handled ?_)
 rw[show A.in1.handled=none from hh]
 refine wpAny_bind (wpAny_pure (wpAny_throw ?_))
 refine wpAny_bind (wpAny_isInstance (T := "StopIteration") (b:=true) ⟨_,Heap.get?_push_size _ rfl,rfl⟩ isSubtype_stop ?_)
 exact wpAny_pure (hQ _ ((((Heap.SameBut.update ..).trans (Heap.SameBut.update ..)).extBut.push _).push _))
end
end PySem
namespace PySem
theorem z8w:Slot "set_iterator" "__iter__" "set_iterator.__iter__" :=
 .of (owner := "set_iterator") (n := "__iter__") (by rw[typeLookup_type,builtinLookup_eq_fast];kernel_rfl) (by decide +kernel) (by decide +kernel) (by decide +kernel) (by first | exact .inl (by decide +kernel) | exact .inr (by decide +kernel)) (by rw[isSubtype_type];kernel_rfl)
theorem y4b:entryFor table "set_iterator.__iter__" = some Builtin.«dict_keyiterator.__iter__»:=entryFor_alias (id' := "dict_keyiterator.__iter__") (by kernel_rfl) rfl (by decide +kernel) (by kernel_rfl)
theorem y4L(a:Value):argsOk "set_iterator.__iter__" ⟨[a],[]⟩:=by
 unfold argsOk
 rw[signature?_of (id := "set_iterator.__iter__") (n:=['_','_','r','e','t','i','_','_']) (o:=['r','o','t','a','r','e','t','i','_','t','e','s']) (by kernel_rfl) x4W]
 kernel_rfl
section
variable{prog:dw}{w:fm}{A:Around}{E:Value->Shared->Prop}{s:Shared}
theorem y6Q{I a:Addr}{f:Value}{i n ep:Nat}{Q:Value->Shared->Prop}(h:s.heap.SIt I a f i n ep)(q:Q (.ref I) s):wpAny (model prog w) A (pyIter (.ref I)) Q E s:=by
 refine wpAny_pyIter_slot (z1N h) z8w (wpAny_call_entry z8w (z1N h) y4b ?_ (y4L _))
 exact wpAny_pure ⟨_,rfl, "set_iterator",_,z1N h,sl_sit_next.lookup,q⟩
theorem x4C{g g':Heap}{I a:Addr}{f:Value}{i n ep:Nat}(h:g.SIt I a f i n ep)(k:∀o,g.get? I=some o->g'.get? I=some o):g'.SIt I a f i n ep:=by
 obtain⟨ob,h1,h2⟩:=h
 exact⟨ob,k _ h1,h2⟩
theorem z9y{g g':Heap}{a:Addr}{xs:Array (Int×Value)}{ep:Nat}{tb:SetTable}(h:g.SDt a xs ep tb)(k:∀o,g.get? a=some o->g'.get? a=some o):g'.SDt a xs ep tb:=by
 obtain⟨ob,h1,h2⟩:=h
 exact⟨ob,k _ h1,h2⟩
theorem Walks.setA(hh:A.handled=none)(I a:Addr)(ne:a≠I){xs:Array (Int×Value)}{ep:Nat}{tb:SetTable}(hf:tb.fits xs.size=true)(sl:Nat->Nat)(vs:List Value)(hl:vs.length=xs.size)
  (hn:∀i,i≤xs.size->∀(s:Shared),s.heap.SDt a xs ep tb->∀(A':Around) (E':Value->Shared->Prop) (Q':Option (Value×Nat)->Shared->Prop),Q' ((vs[i]?).map fun v=>(v,sl (i+1))) s->wpAny (model prog w) A' (setNext a (sl i) i ep) Q' E' s):
  Walks prog w A I [I,a] [I] xs.size (fun i v=>vs[i]? = some v) (fun i g=>g.SIt I a (.int (sl i) 0) i xs.size ep∧g.SDt a xs ep tb) where
 sub:=fun b hb=>by simp at hb;simp[hb]
 frame:=fun _ _ _ st k=>⟨x4C st.1 fun o e=>k I (by simp) o e,z9y st.2 fun o e=>k a (by simp) o e⟩
 item:=fun i s Q E hi st hQ=>by
  obtain⟨v,hv⟩:∃v,vs[i]? = some v:=⟨vs[i],ax (by omega)⟩
  refine x2P st.1 st.2 hf (fun A' E' Q' q=>hn i (by omega) s st.2 A' E' Q' (by rw[hv];exact q)) fun g' k1 k2=>?_
  exact hQ v g' s.toks hv ⟨k1,z9y st.2 fun o e=>k2.extBut a o ne e⟩ fun b o hb e=>k2.extBut b o (fun h=>hb (by simp[h])) e
 done:=fun s Q E st hQ=>sit_end hh st.1 st.2 hf (fun A' E' Q' q=>hn xs.size (ao _) s st.2 A' E' Q' (by rw[br (by omega)];exact q)) fun g' k=>hQ g' s.toks fun b o hb e=>k b o (fun h=>hb (by simp[h])) e
 self:=fun _ _ _ _ st q=>y6Q st.1 q
theorem Walks.setB(hh:A.handled=none)(I a tp:Addr)(ne:a≠I)(ne2:tp≠I){xs:Array (Int×Value)}{ep:Nat}{tb:SetTable}(hf:tb.fits xs.size=true)(ps:List Nat)(hl:ps.length=xs.size)(hp:∀p∈ps,p<xs.size):
  Walks prog w A I [I,a,tp] [I] xs.size (fun i v=>(ps.filterMap fun p=>(xs[p]?).map (·.2))[i]? = some v) (fun i g=>g.SIt I a (.ref tp) i xs.size ep∧g.SDt a xs ep tb∧∃ob n,g.get? tp=some ob∧ob.data = .seq (ps.map fun(p:Nat)=>Value.int p 0).toArray n) where
 sub:=fun b hb=>by simp at hb;simp[hb]
 frame:=fun _ _ _ st k=>⟨x4C st.1 fun o e=>k I (by simp) o e,z9y st.2.1 fun o e=>k a (by simp) o e,by
  obtain⟨ob,n,e1,e2⟩:=st.2.2
  exact⟨ob,n,k tp (by simp) _ e1,e2⟩⟩
 item:=fun i s Q E hi st hQ=>by
  obtain⟨ob,n,e1,e2⟩:=st.2.2
  have hi':i<ps.length:=by omega
  have hpi:=hp ps[i] (cA hi')
  refine y7m (p:=ps[i]) (x:=xs[ps[i]]) st.1 st.2.1 hf (fun A' E' Q' q=>wpAny_seqItems e1 e2 q) (by simp[hi']) (aL hpi) fun g' k1 k2=>?_
  refine hQ _ g' s.toks ?_ ⟨k1,z9y st.2.1 fun o e=>k2.extBut a o ne e,ob,n,k2.extBut tp ob ne2 e1,e2⟩ fun b o hb e=>k2.extBut b o (fun h=>hb (by simp[h])) e
  have em:(ps.filterMap fun p=>(xs[p]?).map (·.2))=ps.map fun p=>(xs[p]?.map (·.2)).getD .none:=by
   have gen:∀l:List Nat,(∀p∈l,p<xs.size)->(l.filterMap fun p=>(xs[p]?).map (·.2))=l.map fun p=>(xs[p]?.map (·.2)).getD .none:=fun l=>by
    induction l with
    |nil=>exact fun _=>rfl
    |cons p l ih=>
     intro h
     rw[b7,aF,aL (h p ac),ih fun q hq=>h q (ad _ hq)]
     rfl
   exact gen ps hp
  rw[em,aJ,ax hi',bN,aL hpi]
  rfl
 done:=fun s Q E st hQ=>by
  obtain⟨ob,n,e1,e2⟩:=st.2.2
  exact y8V hh st.1 st.2.1 hf (fun A' E' Q' q=>wpAny_seqItems e1 e2 q) (by simp;omega) fun g' k=>hQ g' s.toks fun b o hb e=>k b o (fun h=>hb (by simp[h])) e
 self:=fun _ _ _ _ st q=>y6Q st.1 q
end
end PySem
namespace PySem
open Sem (wp)
theorem y7E:typeLookup (.type "set") "__len__" = pure (some (.builtin "set.__len__")):=by rw[typeLookup_type,builtinLookup_eq_fast];kernel_rfl
section
variable{K:Type}[DecidableEq K]{prog:dw}{w:fm}{knd:KeyKind prog w K}{A:Around}{E:Value->Shared->Prop}{s:Shared}
theorem z8s{a:Addr}{S:K->Bool}{n:Nat}(h:s.heap.SetW knd a S n):s.TypeIs (.ref a) "set" := by
 obtain⟨ob,xs,ep,tb,g1,g2,_⟩:=h
 exact⟨ob,g1,g2.1⟩
theorem x1E{g g':Heap}{a:Addr}{S:K->Bool}{n:Nat}(h:g.SetW knd a S n)(k:∀o,g.get? a=some o->g'.get? a=some o):g'.SetW knd a S n:=by
 obtain⟨ob,xs,ep,tb,g1,r⟩:=h
 exact⟨ob,xs,ep,tb,k _ g1,r⟩
theorem x3A{a:Addr}{S:K->Bool}{n:Nat}{Q:Value->Shared->Prop}(hS:s.heap.SetW knd a S n)
  (hQ:∀(g:Heap) (dr:Drawn) (I:Addr) (fp:List Addr) (vs:List Value) (St:Nat->Heap->Prop),(∀b o,s.heap.get? b=some o->g.get? b=some o)->s.heap.objs.size≤I->(∀b∈fp,b=a∨s.heap.objs.size≤b) →
   (∀A':Around,A'.handled=none->Walks prog w A' I fp [I] n (fun i v=>vs[i]? = some v) St)->St 0 g->vs.length=n->(∀k,S k=true↔∃v∈vs,knd.is k v=true)->(∀v∈vs,∃k,knd.is k v=true)->Q (.ref I) { s with heap:=g,drawn:=dr }):
  wpAny (model prog w) A (pyIter (.ref a)) Q E s:=by
 have hT:=z8s hS
 obtain⟨ob,xs,ep,tb,g1,g2,g3,g4,g5,g6,g7,g8,g9⟩:=hS
 have hlt:(a:Nat)<s.heap.objs.size:=Heap.lt_size g1
 have sd:s.heap.SDt a xs ep tb:=⟨ob,g1,g3⟩
 have mem:∀vs:List Value,vs.Perm (xs.toList.map (·.2))->vs.length=n∧(∀k,S k=true↔∃v∈vs,knd.is k v=true)∧∀v∈vs,∃k,knd.is k v=true:=fun vs hp=>by
  refine⟨by rw[hp.length_eq];simpa using g8,fun k=>?_,fun v hv=>?_⟩
  ·rw[g5 k]
   constructor
   ·rintro⟨e,he,q⟩
    exact⟨e.2,hp.mem_iff.mpr (List.mem_map_of_mem he),q⟩
   ·rintro⟨v,hv,q⟩
    obtain⟨e,he,rfl⟩:=aN.mp (hp.mem_iff.mp hv)
    exact⟨e,he,q⟩
  ·obtain⟨e,he,rfl⟩:=aN.mp (hp.mem_iff.mp hv)
   obtain⟨⟨k,q,_⟩,_⟩:=g4 e he
   exact⟨k,q⟩
 refine wpAny_pyIter_slot hT F.slot_set_iter (wpAny_call_entry F.slot_set_iter hT y5c ?_ (F.args_set_iter_1 _))
 unfold Builtin.«frozenset.__iter__»
 refine wpAny_bind (m:=Builtin.Frozenset.slot0 "__iter__" _) (wpAny_bind (wpAny_pure (wpAny_pure ?_)))
 refine wpAny_bind (m:=Builtin.Frozenset.sizeOf a) (wpAny_bind (z3j sd g7 (wpAny_pure ?_)))
 refine wpAny_bind ?_
 unfold setDrawn
 refine wpAny_bind (wpAny_setState_of g1 g3 g7 ?_)
 dsimp only
 unfold setsByText
 refine wpAny_bind (wpAny_bind (wpAny_askSetting (wpAny_pure ?_)))
 refine wpAny_pure ?_
 show wpAny _ _ (if(!w.params.followText "set-order" && (!tb.plain&&decide (xs.size>1)))=true then _ else _) _ _ s
 have plainCase:∀(sl:Nat->Nat) (vs:List Value),sl 0=0->vs.Perm (xs.toList.map (·.2)) →
   (∀i,i≤xs.size->∀(s:Shared),s.heap.SDt a xs ep tb->∀(A':Around) (E':Value->Shared->Prop) (Q':Option (Value×Nat)->Shared->Prop),Q' ((vs[i]?).map fun v=>(v,sl (i+1))) s->wpAny (model prog w) A' (setNext a (sl i) i ep) Q' E' s) →
   Q (.ref s.heap.objs.size) { s with heap:=s.heap.push { cls:=.type "set_iterator",data:=.fields #[.int 0 0,.int 0 0,.ref a,.int xs.size 0,.int ep 0] } }:=fun sl vs h0 hp hn=>by
  obtain⟨z1,z2,z3⟩:=mem vs hp
  have ne:a≠s.heap.objs.size:=az hlt
  refine hQ _ s.drawn s.heap.objs.size [s.heap.objs.size,a] vs (fun i g=>g.SIt s.heap.objs.size a (.int (sl i) 0) i xs.size ep∧g.SDt a xs ep tb) (fun b o e=>Heap.get?_push_of_some _ e) (ao _) (fun b hb=>?_) (fun A' hh=>?_) ?_ z1 z2 z3
  ·rcases ah.mp hb with z | z
   ·exact .inr (eK z.symm)
   ·exact .inl (ai.mp z)
  ·have W:=Walks.setA (prog:=prog) (w:=w) (A:=A') hh s.heap.objs.size a ne g7 sl vs (by omega) hn
   rw[g8]at W ⊢
   exact W
  ·refine⟨⟨_,Heap.get?_push_size _ rfl,rfl,?_⟩,z9y sd fun o e=>Heap.get?_push_of_some _ e⟩
   rw[h0]
   rfl
 by_cases ht:w.params.followText "set-order" = true
 ·rw[if_neg (by rw[ht];simp)]
  refine wpAny_bind (wpAny_pure ?_)
  refine wpAny_bind (wpAny_setEpoch_of g1 g3 g7 ?_)
  refine wpAny_bind (wpAny_newObj_type (wpAny_pure ⟨_,rfl, "set_iterator",_,⟨_,Heap.get?_push_size _ rfl,rfl⟩,sl_sit_next.lookup,?_⟩))
  refine plainCase (fun _=>0) ((pickOrder (w.params.setOrder a ep) xs).toList.map (·.2)) rfl ((y7O _ xs).map _) fun i hi s' sd' A' E' Q' q=>?_
  obtain⟨o',e1,e3⟩:=sd'
  refine y9O e1 e3 g7 ht ?_
  rw[aJ,cq,Option.map_map]at q
  exact q
 ·have ht:w.params.followText "set-order" = false:=by simpa using ht
  have ti:TI tb:=g9.resolve_left (by rw[ht];exact aj)
  cases hd:(!tb.plain&&decide (xs.size>1))with
  |false=>
   rw[if_neg (by simp)]
   have hu:SetTable.Up tb.place:=by
    have hp:tb.place.size=xs.size:=by
     unfold SetTable.fits at g7
     rw[aM]at g7
     exact eq_of_beq g7.1
    cases hpl:tb.plain with
    |true=>exact ti.2 hpl
    |false=>
     rw[hpl]at hd
     have h1:¬ xs.size>1:=by simpa using hd
     unfold SetTable.Up
     have h2:tb.place.toList.length≤1:=by simp;omega
     match hl:tb.place.toList with
     |[]=>exact .nil
     |[x]=>exact List.pairwise_singleton _ _
     |_::_::_=>rw[hl]at h2;simp at h2
   refine wpAny_bind (wpAny_pure ?_)
   refine wpAny_bind (wpAny_setEpoch_of g1 g3 g7 ?_)
   refine wpAny_bind (wpAny_newObj_type (wpAny_pure ⟨_,rfl, "set_iterator",_,⟨_,Heap.get?_push_size _ rfl,rfl⟩,sl_sit_next.lookup,?_⟩))
   refine plainCase (slP tb) (xs.toList.map (·.2)) rfl (.refl _) fun i hi s' sd' A' E' Q' q=>?_
   obtain⟨o',e1,e3⟩:=sd'
   refine y7J e1 e3 g7 ht hd ti.1 hu hi ?_
   rw[aJ,cq,Option.map_map]at q
   exact q
  |true=>
   rw[if_pos (by rw[ht];rfl)]
   refine wpAny_bind (z8z xs.size (ag xs.size) s (by simp) fun ys dr hp=>?_)
   refine wpAny_bind (wpAny_newObj_type ?_ ?_)
   ·have e1:({ s with drawn:=dr,heap:=s.heap.push { cls:=.type "tuple",data:=.seq (ys.map fun(i:Nat)=>rawInt i).toArray } }:Shared).heap.get? a=some ob:=Heap.get?_push_of_some _ g1
    refine wpAny_bind (wpAny_setEpoch_of e1 g3 g7 ?_)
    refine wpAny_bind (wpAny_newObj_type (wpAny_pure ⟨_,rfl, "set_iterator",_,⟨_,Heap.get?_push_size _ rfl,rfl⟩,sl_sit_next.lookup,?_⟩))
    obtain⟨gT,eT⟩:∃gT:Heap,gT=s.heap.push { cls:=.type "tuple",data:=.seq (ys.map fun(i:Nat)=>rawInt i).toArray }:=⟨_,rfl⟩
    have sT:gT.objs.size=s.heap.objs.size+1:=by rw[eT];exact Heap.size_push ..
    have oT:gT.get? s.heap.objs.size=some { cls:=.type "tuple",data:=.seq (ys.map fun(i:Nat)=>rawInt i).toArray }:=by rw[eT];exact Heap.get?_push_size _ rfl
    have old:∀b o,s.heap.get? b=some o->gT.get? b=some o:=fun b o e=>by rw[eT];exact Heap.get?_push_of_some _ e
    have hyl:ys.length=xs.size:=by simpa using hp.length_eq
    have hyp:∀p∈ys,p<xs.size:=fun p hp'=>am.mp (hp.mem_iff.mp hp')
    have hvp:(ys.filterMap fun p=>(xs[p]?).map (·.2)).Perm (xs.toList.map (·.2)):=by
     refine(hp.filterMap _).trans ?_
     rw[←filterMap_getElem?_range xs,List.map_filterMap]
    obtain⟨z1,z2,z3⟩:=mem _ hvp
    have ne:a≠gT.objs.size:=az (by rw[sT];exact bz hlt)
    have ne2:s.heap.objs.size≠gT.objs.size:=az (by rw[sT];exact cD _)
    rw[←eT]
    refine hQ _ dr gT.objs.size [gT.objs.size,a,s.heap.objs.size] (ys.filterMap fun p=>(xs[p]?).map (·.2)) (fun i g=>g.SIt gT.objs.size a (.ref s.heap.objs.size) i xs.size ep∧g.SDt a xs ep tb∧∃ob n,g.get? s.heap.objs.size=some ob∧ob.data = .seq (ys.map fun(p:Nat)=>Value.int p 0).toArray n) (fun b o e=>Heap.get?_push_of_some _ (old b o e)) (by rw[sT];exact cH _) (fun b hb=>?_) (fun A' hh=>?_) ?_ z1 z2 z3
    ·simp only[ah,List.not_mem_nil,or_false]at hb
     rcases hb with z | z | z
     ·exact .inr (by rw[z,sT];exact cH _)
     ·exact .inl z
     ·exact .inr (eK z.symm)
    ·have W:=Walks.setB (ep:=ep) (prog:=prog) (w:=w) (A:=A') hh gT.objs.size a s.heap.objs.size ne ne2 g7 ys hyl hyp
     rw[g8]at W ⊢
     exact W
    ·exact⟨⟨_,Heap.get?_push_size _ rfl,rfl,rfl⟩,z9y sd fun o e=>Heap.get?_push_of_some _ (old a o e),_,_,Heap.get?_push_of_some _ oT,rfl⟩
   ·show(ys.map fun(i:Nat)=>rawInt i).toArray.size≤sizeLine
    have hyl:ys.length=xs.size:=by simpa using hp.length_eq
    have:scanBound≤sizeLine:=by rw[sizeLine_eq];decide
    simp
    omega
theorem y4s{a:Addr}{S:K->Bool}{n:Nat}{Q:List Value->Shared->Prop}(hh:A.in1.handled=none)(hS:s.heap.SetW knd a S n)(hn:n≤sizeLine)
  (fin:∀(g:Heap) (dr:Drawn) (tk:Nat) (acc:List Value),(∀b o,s.heap.get? b=some o->g.get? b=some o)->acc.length=n->(∀k,S k=true↔∃v∈acc,knd.is k v=true)->(∀v∈acc,∃k,knd.is k v=true)->Q acc { s with heap:=g,drawn:=dr,toks:=tk }):wpAny (model prog w) A (collect (.ref a)) Q E s:=by
 have hlt:(a:Nat)<s.heap.objs.size:=by
  obtain⟨ob,xs,ep,tb,g1,_⟩:=hS
  exact Heap.lt_size g1
 have hSa:s.heap.objs.size≠a:=fun e=>bj _ (e ▸ hlt)
 unfold collect
 refine wpAny_bind (wpAny_runValue (codeAny_builtin F.entry_proto_collect ?_))
 rw[Around.under_plainId F.plain_proto_collect _]
 show wpAny _ A.in1 (newList [] >>= fun l=>again (.builtin "list.__iadd__" ⟨[l,.ref a],[]⟩)) _ _ s
 refine wpAny_bind (wpAny_newObj_type ?_)
 refine wpAny_pure ⟨plainId_quiet F.plain_list_iadd _,codeAny_builtin F.entry_list_iadd ?_⟩
 rw[Around.under_plainId F.plain_list_iadd _]
 obtain⟨gA,eA⟩:∃gA:Heap,gA=s.heap.push { cls:=.type "list",data:=.seq ([]:List Value).toArray }:=⟨_,rfl⟩
 have sA:gA.objs.size=s.heap.objs.size+1:=by rw[eA];exact Heap.size_push ..
 rw[←eA]
 have w1:gA.SetW knd a S n:=x1E hS fun o e=>by rw[eA];exact Heap.get?_push_of_some _ e
 have t1:({ s with heap:=gA }:Shared).TypeIs (.ref a) "set" := z8s w1
 have f1:Builtin.List.listSameRef (.ref s.heap.objs.size) (.ref a)=false:=by simp[Builtin.List.listSameRef,hSa]
 have oA:gA.get? s.heap.objs.size=some { cls:=.type "list",data:=.seq ([]:List Value).toArray }:=by rw[eA];exact Heap.get?_push_size _ rfl
 show wpAny _ A.in1 (Builtin.List.listExtendWith (.ref s.heap.objs.size) (.ref a) (.ref s.heap.objs.size)) _ _ _
 unfold Builtin.List.listExtendWith
 refine wpAny_bind (wpAny_typeOf t1 ?_)
 rw[if_neg (by rw[f1];decide)]
 refine wpAny_bind (x3A (s:={ s with heap:=gA }) w1 fun gB dr I fp vs St kB hI hfp W0 st0 z1 z2 z3=>?_)
 refine wpAny_bind (wpAny_holding ?_)
 unfold Builtin.List.listLengthHint
 have t2:({ s with heap:=gB,drawn:=dr }:Shared).TypeIs (.ref a) "set" := z8s (x1E w1 fun o e=>kB a o e)
 refine wpAny_bind (wpAny_specialOf t2 y7E ?_)
 (generalize hid:("set.__len__" : String)=id0;(fail_if_success (clear hid id0));wp_delta;rw[show splitId id0=some ("set", "__len__") from by subst hid;decide +kernel];subst hid)
 refine wpAny_bind (wpAny_isInstance (b:=true) t2 (by rw[isSubtype_type];kernel_rfl) ?_)
 show wpAny _ A.in1 (typeOf (Value.ref a) >>= _) _ _ _
 refine wpAny_bind (wpAny_typeOf t2 ?_)
 refine wpAny_pure ?_
 show wpAny _ A.in1 (rule "list.extend.makes-room" >>= fun _=>Builtin.List.listTouch (.ref s.heap.objs.size) >>= fun _=>again (.builtin "list.extend.loop" ⟨[.ref s.heap.objs.size,.ref I,.ref s.heap.objs.size],[]⟩)) _ _ _
 refine wpAny_bind (wpAny_rule ?_)
 have W:=(W0 A.in1 hh).toS
 have oB:gB.get? s.heap.objs.size=some { cls:=.type "list",data:=.seq ([]:List Value).toArray }:=kB _ _ oA
 have hSf:s.heap.objs.size∉fp:=fun z=>by
  rcases hfp _ z with q | q
  ·exact hSa q
  ·rw[sA]at q
   exact absurd q (Nat.not_succ_le_self _)
 refine wpAny_bind ?_
 show wpAny _ A.in1 (updateSeq s.heap.objs.size (·.push .none) >>= fun _=>updateSeq s.heap.objs.size (·.pop)) _ _ _
 refine wpAny_bind (wpAny_updateSeq oB rfl ?_)
 have oC:=Heap.get?_update_self (Obj.mapSeq (·.push Value.none)) oB rfl
 refine wpAny_updateSeq oC rfl ?_
 have oD:=Heap.get?_update_self (Obj.mapSeq (·.pop)) oC rfl
 have oth:∀b o,b≠s.heap.objs.size->gB.get? b=some o->((gB.update s.heap.objs.size (Obj.mapSeq (·.push Value.none))).update s.heap.objs.size (Obj.mapSeq (·.pop))).get? b=some o:=fun b o hb e=>(Heap.get?_update_other _ _ (Ne.symm hb)).trans ((Heap.get?_update_other _ _ (Ne.symm hb)).trans e)
 refine wpAny_pure ⟨plainId_quiet F.plain_extend_loop _,codeAny_extend_loopS W hn _ hSf _ n 0 _ _ _ rfl (bg _) (W.frame 0 ({ s with heap:=gB,drawn:=dr }:Shared) _ s.toks st0 (ao _) fun b hb o e=>oth b o (fun h=>hSf (h ▸ hb)) e) oD (ItemsOf.nil _) fun s' acc c' mv hS' hacc=>?_⟩
 show wpAny _ A (load s.heap.objs.size >>= _) _ _ s'
 refine wpAny_bind (wpAny_load hS' ?_)
 have ea:acc.toList=vs:=by
  apply List.ext_getElem?
  intro i
  by_cases hi:i<n
  ·have hi':i<acc.size:=by rw[hacc.1];exact hi
   have:=hacc.2 i acc[i] (aL hi')
   rw[this,cq,aL hi']
  ·rw[br (by rw[bJ,hacc.1];omega),br (by omega)]
 obtain⟨g',gs,dr',tk',os'⟩:=s'
 have eg:gs=s.gens:=mv.gens
 have eo:os'=s.os:=mv.os
 subst eg;subst eo
 refine wpAny_pure ?_
 refine fin g' dr' tk' acc.toList (fun b o e=>?_) (by rw[ea];exact z1) (by rw[ea];exact z2) (by rw[ea];exact z3)
 have hb:(b:Nat)<s.heap.objs.size:=Heap.lt_size e
 refine mv.heap b o (fun z=>?_) (oth b o (az hb) (kB b o (by rw[eA];exact Heap.get?_push_of_some _ e)))
 rcases ah.mp z with z | z
 ·exact az hb z
 ·rw[ai]at z
  rw[z]at hb
  rw[sA]at hI
  exact absurd (aI hb (bI hI)) (bj _)
end
end PySem
namespace L2
open PySem PySem.Spec PyProof.Rows
def ddI(ns:List Int):List Int:=ns.foldl (fun acc n=>if acc.any (· == n)then acc else acc++[n]) []
theorem x2D(ns:List Int):firstMet (fun i=>ns.getD i 0) ns.length=ddI ns:=by
 unfold firstMet ddI
 have e:(ag ns.length).map (fun i=>ns.getD i 0)=ns:=by
  apply List.ext_getElem
  ·simp
  ·intro i h1 h2
   simp[cV,ax h2]
 rw[e]
 rfl
theorem y0J:∀(ns acc:List Int),acc.Nodup->(ns.foldl (fun acc n=>if acc.any (· == n)then acc else acc++[n]) acc).Nodup∧∀x,x∈ns.foldl (fun acc n=>if acc.any (· == n)then acc else acc++[n]) acc↔x∈acc∨x∈ns
 |[],acc,h=>⟨h,fun x=>by simp⟩
 |n::ns,acc,h=>by
  rw[List.foldl_cons]
  by_cases hn:acc.any (· == n)=true
  ·rw[if_pos hn]
   obtain⟨a,b⟩:=y0J ns acc h
   refine⟨a,fun x=>?_⟩
   rw[b x,ah]
   have:n∈acc:=by simpa using hn
   constructor
   ·rintro (z | z)
    ·exact .inl z
    ·exact .inr (.inr z)
   ·rintro (z | z | z)
    ·exact .inl z
    ·exact .inl (z ▸ this)
    ·exact .inr z
  ·rw[if_neg hn]
   have hn':n∉acc:=by simpa using hn
   obtain⟨a,b⟩:=y0J ns (acc++[n]) (bb.mpr ⟨h,by simp,fun x hx y hy z=>by rw[ai]at hy;subst hy;exact hn' (z ▸ hx)⟩)
   refine⟨a,fun x=>?_⟩
   rw[b x,au,ai,ah,or_assoc]
theorem y1j(ns:List Int):(ddI ns).Nodup:=(y0J ns [] bh).1
theorem dd_mem{ns:List Int}{x:Int}:x∈ddI ns↔x∈ns:=by
 have:=(y0J ns [] bh).2 x
 unfold ddI
 rw[this]
 simp
theorem z8k:∀{l o:List Int},l.Nodup->(∀x∈l,x∈o)->l.length=o.length->l.Perm o
 |[],o,_,_,h=>by
  have:o=[]:=List.eq_nil_of_length_eq_zero (by simpa using h.symm)
  rw[this]
 |x::l,o,nd,sub,h=>by
  have hx:=sub x ac
  have nd':=ay.mp nd
  have p:=List.perm_cons_erase hx
  have hl:(o.erase x).length+1=o.length:=by
   have:=p.length_eq
   simpa using this.symm
  refine((z8k nd'.2 (fun y hy=>?_) (by simp at h;omega)).cons x).trans p.symm
  have hy':=p.mem_iff.mp (sub y (ad _ hy))
  rcases ah.mp hy' with z | z
  ·exact absurd (z ▸ hy) nd'.1
  ·exact z
theorem y1N{prog:dw}{w:fm}:∀{vs:List Value},(∀v∈vs,∃k,(intKind prog w).is k v=true)->∃ms:List Int,IntsAre vs ms∧∀k,k∈ms↔∃v∈vs,(intKind prog w).is k v=true
 |[],_=>⟨[],.nil,fun k=>by simp⟩
 |v::vs,h=>by
  obtain⟨ms,h1,h2⟩:=y1N (prog:=prog) (w:=w) fun u hu=>h u (ad _ hu)
  obtain⟨k,hk⟩:=h v ac
  obtain⟨t,rfl⟩:=Value.isInt_shape (show Value.isInt k v=true from hk)
  refine⟨k::ms,.cons k t h1,fun k'=>?_⟩
  rw[ah,h2 k']
  constructor
  ·rintro (z | ⟨u,hu,q⟩)
   ·exact⟨_,ac,z ▸ hk⟩
   ·exact⟨u,ad _ hu,q⟩
  ·rintro⟨u,hu,q⟩
   rcases ah.mp hu with z | z
   ·subst z
    exact .inl ((intKind prog w).inj _ _ _ q hk)
   ·exact .inr ⟨u,z,q⟩
section
variable{prog:dw}{w:fm}{A:Around}{E:Value->Shared->Prop}{s:Shared}
theorem y5j{a:Addr}{ns:List Int}{Q:Value->Shared->Prop}(hh:A.handled=none)(hS:s.heap.SetW (intKind prog w) a (fun z=>(ddI ns).any (· == z)) (ddI ns).length)(h64:(ddI ns).length<64)
  (h:∀(g1 g':Heap) (dr:Drawn) (tk:Nat) (out:List Value) (e:Nat),(∀b o',s.heap.get? b=some o'->g1.get? b=some o')->(∀b o',g1.get? b=some o'->g'.get? b=some o')->g'.get? g1.objs.size=some { cls:=.type "list",data:=.seq out.toArray e }->IntsAre out (y4c (ddI ns))->Q (.ref g1.objs.size) { s with heap:=g',drawn:=dr,toks:=tk }):
  wpAny (model prog w) A (call (.builtin "sorted") [.ref a]) Q E s:=by
 refine Calls.call_function_entry kind_sorted plain_sorted entry_sorted (args_sorted1 _) ?_
 unfold Builtin.«sorted»
 refine wpAny_bind (m:=checkCount "sorted" 1 1 _) (wpAny_pure ?_)
 refine wpAny_bind (y4s hh hS (by rw[sizeLine_eq];omega) fun g1 dr tk acc k1 z1 z2 z3=>?_)
 obtain⟨ms,i1,i2⟩:=y1N z3
 have hml:ms.length=acc.length:=i1.length.symm
 have pm:ms.Perm (ddI ns):=by
  refine(z8k (y1j ns) (fun x hx=>?_) (by omega)).symm
  rw[i2 x,←z2 x]
  simpa using hx
 refine wpAny_bind (wpAny_newList ?_)
 have oL:(g1.push (seqObj "list" acc.toArray 0)).get? g1.objs.size=some (seqObj "list" acc.toArray 0):=Heap.get?_push_size _ rfl
 show wpAny _ _ _ _ _ { s with heap:=g1.push (seqObj "list" acc.toArray 0),drawn:=dr,toks:=tk }
 refine wpAny_bind (wpAny_holding (wpAny_call_entry slot_list_sort ⟨_,oL,rfl⟩ entry_list_sort (list_sort_tree oL i1 (by omega) fun out ns' a1 a2 a3=>⟨_,rfl,?_⟩) (args_list_sort _)))
 obtain⟨e,he⟩:=sortedHeap_at (out:=out) oL
 have es:=y1a (a2.trans pm) a3
 subst es
 refine wpAny_pure ⟨_,rfl,h g1 _ dr tk out.toList e k1 (fun b o' hb=>?_) (by simpa[seqObj] using he) a1⟩
 have hlt:b<g1.objs.size:=Heap.lt_size hb
 rw[sortedHeap_old (az hlt) (by rw[size_push'];exact bz hlt)]
 exact Heap.get?_push_of_some _ hb
end
section
variable{X:Cx}{e:Expr}{te:TE}{p p' pos pos':Pos}
theorem Inv.draw{pins:List (Addr×Obj)}{σ:List (Option V)}{H:Hp}{s:Shared}(I:Inv X pins σ H s)(dr:Drawn):Inv X pins σ H { s with drawn:=dr }:=⟨I.ok,I.os,I.bare,I.base,I.loc,I.cell,I.free,I.freeC,I.pin,I.hok,I.len⟩
theorem x4l:fy "set" = some (.type "set"):=by kernel_rfl
def tSS(K:aa)(te:TE):TE:=fun σ H Q=>te σ H fun x H1=>∃(q:Addr) (ns:List Int),x = .ref q∧SqL K H1 q (ns.map V.int)∧(ns.length≤1000∧(ddI ns).length<64)∧∀l,H1 l=none->Q (.ref l) (upd H1 l (.lst ((y4c (ddI ns)).map V.int)))
theorem y7s(hc:X.calm=true)(hg:Gl X "sorted")(hm:X.mg "sorted" = none)(hg':Gl X "set")(hm':X.mg "set" = none)(ha:PE X e te)
  (he:starEach [e] X.env=[(false,eval e X.env)]:=by rfl) (he':starEach [.Call (.Name "set" p') [e] [] pos'] X.env=[(false,eval (.Call (.Name "set" p') [e] [] pos') X.env)]:=by rfl):
  PE X (.Call (.Name "sorted" p) [.Call (.Name "set" p') [e] [] pos'] [] pos) (tSS X.K te):=by
 intro pins s σ H Q I h
 refine wpAny_Call_Name_kw (z4G I hg hm boot_sorted ?_)
 refine callWith_builtin1 ?_ he' rfl
 rw[he']
 show wpAny _ _ (spliced [(false,eval (.Call (.Name "set" p') [e] [] pos') X.env)]) _ _ s
 refine Calls.spliced_cons ?_
 refine wpAny_Call_Name_kw (z4G I hg' hm' x4l ?_)
 refine callWith_type1 ?_ he rfl
 rw[he]
 show wpAny _ _ (spliced [(false,eval e X.env)]) _ _ s
 refine Calls.spliced_cons (thn (ha pins s σ H _ I h) fun u s1 ⟨x,H1,I1,r1,q1⟩=>?_)
 refine Calls.spliced_nil ?_
 obtain⟨q,ns,rfl,hq,h64,k⟩:=q1
 cases r1
 obtain⟨its,rv,pl,hz⟩:=I1.list hq
 have hi:=z6F rv
 have hlen:its.length=ns.length:=by have:=rv.length;simpa using this.symm
 refine x1f (I1.ok.hd hc) pl.isList hi (by have:=h64.1;simp;unfold scanBound;omega) fun g' tk w1 w2=>?_
 refine Calls.spliced_nil ?_
 have esz:its.toArray.size=ns.length:=by simpa using hlen
 rw[esz,x2D]at w1
 have I2:Inv X pins σ H1 { s1 with heap:=g',toks:=tk }:=I1.kept fun b o e=>w2 b o (Heap.lt_size e) e
 refine y5j (I2.ok.hd hc) w1 h64.2 fun g1 g2 dr tk' out e k1 k2 ho ho2=>?_
 have I3:Inv X pins σ H1 { s1 with heap:=g1,toks:=tk,drawn:=dr }:=(I2.kept (t':=tk) k1).draw dr
 refine⟨.ref g1.objs.size,_,Inv.laid (s:={ s1 with heap:=g1,toks:=tk,drawn:=dr }) (t':=tk') I3 k2 (ao _) (show ObjOk X.prog X.w _ g2 _ (.lst ((y4c (ddI ns)).map V.int)) from⟨?_,out,e,intsV ho2,ho⟩),rfl,k _ (I3.hok.fresh (ao _))⟩
 have:=(z8L (ddI ns)).length_eq
 have:=h64.2
 rw[aq,sizeLine_eq]
 omega
def y1H:D->Option (List D)
 |.lst ds=>(z1O ds).bind fun ns=>if ns.length≤1000∧(ddI ns).length<64 then some ((y4c (ddI ns)).map .int)else none
 |_=>none
def y6p(f:DE):DS->Option (List D):=fun δ=>(f δ).bind y1H
variable{f:DE}
theorem y8h(hc:X.calm=true)(hg:Gl X "sorted")(hm:X.mg "sorted" = none)(hg':Gl X "set")(hm':X.mg "set" = none)(ha:PD X e f)
  (he:starEach [e] X.env=[(false,eval e X.env)]:=by rfl) (he':starEach [.Call (.Name "set" p') [e] [] pos'] X.env=[(false,eval (.Call (.Name "set" p') [e] [] pos') X.env)]:=by rfl):
  PF X (.Call (.Name "sorted" p) [.Call (.Name "set" p') [e] [] pos'] [] pos) (y6p f):=(y7s hc hg hm hg' hm' ha he he').imp fun σ H Q ⟨B,δ,ds',hB,S,q,k⟩=>by
 unfold y6p at q
 cases e1:f δ with
 |none=>rw[e1]at q;cases q
 |some d=>
 rw[e1,aA]at q
 refine⟨B,δ,d,hB,S,e1,fun v H1 s1 r1=>?_⟩
 unfold y1H at q
 split at q
 ·rename_i es
  cases e2:z1O es with
  |none=>rw[e2]at q;cases q
  |some ns=>
   rw[e2,aA]at q
   split at q
   ·rename_i h64
    cases q
    unfold Rep at r1
    obtain⟨a,xs,rfl,_,h,rs⟩:=r1
    rw[z6u e2 rs]at h
    exact⟨a,ns,rfl,SqL.of h,h64,fun l hl=>k l _ _ (s1.trans (z0q hl)) (s1.free hl) z0r (z2E _)⟩
   ·cases q
 ·cases q
end
section
end
section
end
section
end
section
end
section
end
section
end
section
end
def spM2(K:aa)(F:List D->Option D):Sp:=fun vs H Q _=>∃u v r du d0 ds d A,vs=u::v::r∧Rep K H (fun a=>a∈A) du u∧Tree K H d0 v A∧A.Nodup∧Reps K H (fun a=>a∈A) ds r∧F (du::d0::ds)=some d ∧
 ∀v' H' A',Same (y3P H A) H'->Tree K H' d v' A'->A'.Nodup->(∀a∈A',a∈A∨H a=none)->(∀a,H' a=none->H a=none)->Q v' H'
def y3Y(np nl:Nat)(g:SS->Option Out):List D->Option D:=fun ds=>match ds with
 |du::d0::ds=>if ds.length+2=np then(match g (some (.sh du)::some (.ow d0)::ds.map (fun d=>some (.sh d))++aD nl none)with
  |some (.rt d)=>some d
  |some (.nx _)=>some .non
  |_=>none)else none
 |_=>none
theorem y7l{K:aa}{H:Hp}{du d0:D}{u v:V}{A:List Addr}{ds:List D}{vs:List V}{N:List Str}{nl:Nat}(ru:Rep K H (fun a=>a∈A) du u)(t:Tree K H d0 v A)(nd:A.Nodup)(r:Reps K H (fun a=>a∈A) ds vs)(hN:N.length=ds.length+2+nl):
  RS K (y3P H A) noB H (z5d N (u::v::vs)) (some (.sh du)::some (.ow d0)::ds.map (fun d=>some (.sh d))++aD nl none) (fun r=>if r=1 then A else []):=by
 have hl:=r.length
 have get:∀{i:Nat} {x:SD},(some (SD.sh du)::some (SD.ow d0)::ds.map (fun d=>some (SD.sh d))++aD nl none)[i]? = some (some x)->(i=0∧x = .sh du)∨(i=1∧x = .ow d0)∨∃j d,i=j+2∧ds[j]? = some d∧x = .sh d:=fun {i x} e=>by
  cases i with
  |zero=>simp at e;exact .inl ⟨rfl,e.symm⟩
  |succ i=>
  cases i with
  |zero=>simp at e;exact .inr (.inl ⟨rfl,e.symm⟩)
  |succ j=>
   have e':(ds.map (fun d=>some (SD.sh d))++aD nl none)[j]? = some (some x):=by simpa using e
   by_cases hi:j<ds.length
   ·rw[bd (by simpa using hi),aJ,ax hi]at e'
    cases e'
    exact .inr (.inr ⟨j,ds[j],rfl,ax hi,rfl⟩)
   ·rw[bi (by simpa using hi),ce]at e'
    split at e' <;> cases e'
 have mem:∀r a,a∈(if r=1 then A else [])->r=1∧a∈A:=fun r a z=>by
  split at z
  ·exact⟨by assumption,z⟩
  ·cases z
 refine⟨y7o,(fun _ z=>z.elim),?_,fun r a z=>y5L (mem r a z).2,fun r a z=>t.held d0 a (mem r a z).2,fun r s a z z'=>by rw[(mem r a z).1,(mem s a z').1],fun i d e=>?_,fun i r d e=>?_,fun i d e=>?_⟩
 ·unfold z5d
  simp
  omega
 ·rcases get e with⟨rfl,q⟩ | ⟨_,q⟩ | ⟨j,d',rfl,e1,q⟩
  ·cases q
   refine⟨u,?_,ru.anti fun a z=>?_⟩
   ·unfold z5d
    simp
   ·rcases z with z | ⟨r,z⟩
    ·exact z.elim
    ·exact(mem r a z).2
  ·cases q
  ·cases q
   obtain⟨u',e3,rv⟩:=r.get e1
   refine⟨u',?_,rv.anti fun a z=>?_⟩
   ·unfold z5d
    have hi:j<vs.length:=(aU.mp e3).1
    rw[bd (by simp;omega),aJ]
    simp[e3]
   ·rcases z with z | ⟨r,z⟩
    ·exact z.elim
    ·exact(mem r a z).2
 ·rcases get e with⟨_,q⟩ | ⟨_,q⟩ | ⟨j,d',rfl,e1,q⟩ <;> cases q
 ·rcases get e with⟨_,q⟩ | ⟨rfl,q⟩ | ⟨j,d',rfl,e1,q⟩
  ·cases q
  ·cases q
   refine⟨v,?_,t,nd⟩
   unfold z5d
   simp
  ·cases q
section
variable{P:dw}{w:fm}{K:aa}{mg:Str->Option Value}{base:Heap}
theorem defM2{x qual:Str}{st:Stmt}{f:Addr}{fd:fq}{N ps:List Str}{k np nl:Nat}{g:SS->Option Out}(F:Fun K x qual st f fd)(hm:mg x=some (.ref f))(hb:Binds K fd ps [])(S:FnScope N ps (z0e st))(hnp:ps.length=np)(hN:N.length=np+nl)
  (hbody:∀(cdv:Value) (A:Around) (outer:List Env) (s:Shared) (H H0:Hp) (E:XK),Room k (A.deeper (envOfC qual (z0e st) s.heap.objs.size f cdv)) →
   PSs (y0M CX0 P w K mg base N qual (z0e st) f cdv A outer s H E).nox (z1f st) (tS K H0 noB true noX g)):DefOk P w K mg base (k+1) x (spM2 K (y3Y np nl g)):=by
 refine⟨f,fd,ps,hm,F.kp,hb,F.ok S (fun vs H Q E h=>?_) fun cdv A outer s H vs Q E hr h=>?_⟩
 ·obtain⟨u,v,r,du,d0,ds,d,A,rfl,_,_,_,rr,e,_⟩:=h
  unfold y3Y at e
  simp only at e
  split at e
  ·rename_i hl
   rw[aZ,aZ,←rr.length,hnp]
   omega
  ·cases e
 ·obtain⟨u,v,r,du,d0,ds,d,A',rfl,ru,t,nd,rr,e,kk⟩:=h
  refine⟨_,hbody cdv A outer s H (y3P H A') E hr,?_⟩
  have hl:ds.length+2=np:=by
   unfold y3Y at e
   simp only at e
   split at e
   ·assumption
   ·cases e
  have e':(match g (some (.sh du)::some (.ow d0)::ds.map (fun d=>some (.sh d))++aD nl none)with | some (.rt d)=>some d | some (.nx _)=>some D.non | _=>none)=some d:=by
   unfold y3Y at e
   simp only[if_pos hl]at e
   exact e
  have rs:=y7l (nl:=nl) (N:=N) ru t nd rr (by omega)
  have fr:∀a,y3P H A' a=none->a∈A'∨H a=none:=fun a z=>by
   by_cases h:a∈A'
   ·exact .inl h
   ·rw[z8o h]at z;exact .inr z
  split at e'
  ·rename_i d' eg
   cases e'
   exact⟨_,_,_,rs,eg,fun v H' z th=>by
    obtain⟨A2,t2,nd2,fr2⟩:=z.2.1 rfl
    exact kk v H' A2 z.1 t2 nd2 (fun a ha=>fr a (fr2 a ha)) th⟩
  ·rename_i δ' eg
   cases e'
   exact⟨_,_,_,rs,eg,fun σ' H' R' rs' st'=>kk .non H' [] rs'.keep ⟨rfl,rfl⟩ bh (fun a z=>nomatch z) st'.there⟩
  ·cases e'
end
def z8c(F:List D->Option D)(f0 f1:DE)(fl:List DE):DE:=fun δ=>(f0 δ).bind fun a=>(f1 δ).bind fun b=>(z0n fl δ).bind fun cs=>F (a::b::cs)
section
variable{X:Cx}{k:Nat}{x:Str}{p pos:Pos}{e e':Expr}{es:List Expr}
theorem y2a{F:List D->Option D}{f0 f1:DE}{fl:List DE}(G:DefOk X.prog X.w X.K X.mg X.base k x (spM2 X.K F))(hr:Room k X.A)(hg:Gl X x)(h0:PD X e f0)(h1:PN X e' f1)(ha:PAD X es fl)(hdb:(x==("__debug__" : Str))=false:=by decide)
  (he:starEach (e::e'::es) X.env=(false,eval e X.env)::starEach (e'::es) X.env:=by rfl) (he1:starEach (e'::es) X.env=(false,eval e' X.env)::starEach es X.env:=by rfl) (hpl:(fw pos (starEach (e'::es) X.env)).any (·.1)=false:=by rfl):PN X (.Call (.Name x p) (e::e'::es) [] pos) (z8c F f0 f1 fl):=
 (y1r G hr hg (z1y h0 (z1y h1 ha he1) he) hdb he hpl).imp fun σ H Q ⟨δ,d,S,q,k⟩=>by
  unfold z8c at q
  cases e0:f0 δ with
  |none=>rw[e0]at q;cases q
  |some a=>
  cases e1:f1 δ with
  |none=>rw[e0,e1]at q;cases q
  |some b=>
  cases e2:z0n fl δ with
  |none=>rw[e0,e1,e2]at q;cases q
  |some cs=>
  rw[e0,e1,e2]at q
  have q:F (a::b::cs)=some d:=q
  refine⟨noB,δ,a,.no,S,e0,fun u H1 s1 r1=>⟨δ,b,S.mono s1,e1,fun v H2 A s2 t2 nd2 f2=>?_⟩⟩
  have S2:RepS X.K H2 (fun x=>x∈A) σ δ:=((RepS.wide (C:=fun x=>x∈A) (S.mono s1) f2).anti fun x z=>.inr z).mono s2
  refine⟨fun x=>x∈A,δ,cs,fun x z=>?_,S2,e2,fun vs H3 s3 r3=>?_⟩
  ·obtain⟨o,qo,_⟩:=t2.held b x z
   exact⟨o,qo⟩
  show spM2 X.K F ((u::v::vs)++[]) H3 Q E0
  rw[aH]
  have ru:Rep X.K H3 (fun x=>x∈A) a u:=((Rep.wide (C:=fun x=>x∈A) f2 a r1).anti fun x z=>.inr z).mono (s2.trans s3)
  refine⟨u,v,vs,a,b,cs,d,A,rfl,ru,t2.mono s3,nd2,r3,q,fun v' H' A' s' t' nd' fr' th'=>?_⟩
  refine k v' H' A' (fun x o ex=>?_) t' nd' fun x hx=>?_
  ·refine s' x o ?_
   have ex1:=s1 x o ex
   rw[z8o fun z=>by rw[f2 x z]at ex1;cases ex1]
   exact s3 x o (s2 x o ex1)
  ·rcases fr' x hx with z | z
   ·exact s1.free (f2 x z)
   ·exact s1.free (s2.free (s3.free z))
variable{H0:Hp}{B0:Addr->Prop}{RX:XR}{a:Expr}{pos':Pos}
def ret1(i:Nat):SS->Option Out:=fun δ=>(x1h δ i).map fun d=>.rt (.lst [d])
theorem s_ret1{i:Nat}(ha:PE X a (y7r i))(hs:starEach [a] X.env=(false,eval a X.env)::starEach [] X.env:=by rfl):
  PS X (.Return (some (.List [a] pos')) pos) (tS X.K H0 B0 true RX (ret1 i)):=PS.imp (y1J (y9K (z1y ha pa_nil hs))) fun D σ H ⟨δ,R,o,rs,q,k⟩=>by
 unfold ret1 at q
 cases h1:x1h δ i with
 |none=>rw[h1]at q;cases q
 |some d=>
  rw[h1]at q
  cases q
  obtain⟨v,A,e1,t1,n1,m1⟩:=x4j rs h1
  refine⟨v,e1,by show 1≤sizeLine;rw[sizeLine_eq];omega,fun p hp=>?_⟩
  have sp:=z0q (o:=.lst [v]) hp
  have hold:∀x,x∈A->H x≠none:=fun x hx z=>by
   obtain⟨o,q,_⟩:=t1.held _ x hx
   rw[z]at q;cases q
  refine k (.ref p) _ ⟨rs.keep.trans sp,fun _=>⟨p::A,?_,ay.mpr ⟨fun z=>hold p z hp,n1⟩,fun x hx=>?_⟩,fun z=>by cases z⟩ fun x z=>sp.free z
  ·unfold Tree
   refine⟨p,[v],A,rfl,z0r,?_,rfl⟩
   unfold Trees
   exact⟨v,[],A,[],rfl,t1.mono sp,⟨rfl,rfl⟩,by simp⟩
  ·rcases ah.mp hx with z | z
   ·rw[z];exact rs.keep.free hp
   ·exact rs.new i x (m1 x z)
end
section
end
section
end
section
variable{X:Cx}
@[irreducible] def PSb(X:Cx)(st:Stmt)(t:TS):Prop:=PS X st t
@[irreducible] def PSsb(X:Cx)(st:List Stmt)(t:TS):Prop:=PSs X st t
end
section
end
section
end
section
variable{X:Cx}{H0:Hp}{B0:Addr->Prop}{fr:Bool}{RX:XR}{e:Expr}{f:DE}{pos ap cp:Pos}{x:Str}{px:Pos}
def x1c(i:Nat)(f:DE):SS->Option Out:=fun δ=>(f (z0D δ)).bind fun d=>(match d,δ[i]? with
 |.lst es,some (some (.ow (.lst ds)))=>if z3b es=true∧ds.length+es.length≤sizeLine then some (.nx ((z0S i δ).set i (some (.ow (.lst (ds++es))))))else none
 |_,_=>none)
theorem y8D{i:Nat}(hx:PE X (.Name x px) (y7r i))(he:PD X e f)(hbase:fx (.Name x px) "extend" X.env (eval (.Name x px) X.env)=eval (.Name x px) X.env:=by rfl)
  (hfew:((fw cp (starEach [e] X.env)).all (fun x=>!x.1)&&(backToKw cp (keywordEach [] X.env)).all (fun x=>x.1.isSome)&&decide ([e].length+([]:List fA).length+(if([]:List fA).isEmpty then 0 else 1)<30))=true:=by rfl)
  (hline:(ap.endLine==cp.line)=true:=by rfl) (hs:starEach [e] X.env=(false,eval e X.env)::starEach [] X.env:=by rfl) (hsw:swapsWith (.Call (.Attribute (.Name x px) "extend" ap) [e] [] cp) none pos.line X.env=pure false:=by rfl):
  PS X (.Expr (.Call (.Attribute (.Name x px) "extend" ap) [e] [] cp) pos) (tS X.K H0 B0 fr RX (x1c i f)):=
 PS.imp (z6U (y8Q PySem.F.plainAttrs_list PySem.F.slot_list_extend PySem.F.type_list_extend y2j hx (z1y he pa_nil hs) hbase hfew hline hs rfl) hsw) fun D σ H ⟨δ,R,o,rs,q,k⟩=>by
  unfold x1c at q
  cases e1:f (z0D δ)with
  |none=>rw[e1]at q;cases q
  |some d=>
  rw[e1,aA]at q
  split at q
  case h_2=>cases q
  case h_1 es ds ei=>
  split at q
  case isFalse=>cases q
  case isTrue hl=>
  cases q
  obtain⟨a,xs,A,ev,ha,ts,eR,nd⟩:=rs.top ei
  refine⟨.ref a,ev,.inl ⟨rfl,xs,SqL.of ha⟩,noB,z0D δ,_,.no,rs.all,e1,fun y H2 s2 r2=>?_⟩
  unfold Rep at r2
  obtain⟨b,zs,rfl,_,hb,rz⟩:=r2
  refine⟨a,b,xs,zs,rfl,rfl,s2 _ _ ha,hb,by rw[←ts.length,←rz.length];exact hl.2,?_⟩
  have tz:=rz.immTree es hl.1
  have P:=rs.put0 s2 ei ev eR nd ((ts.mono s2).append tz) (by rw[aH];exact(ay.mp nd).2) fun p hp=>.inl (by rw[aH]at hp;exact hp)
  exact k σ _ _ P.1 P.2
end
section
end
section
end
section
end
section
end
section
end
section
end
section
end
section
end
section
end
section
end
section
end
section
end
section
end
section
end
section
end
section
end
section
end
def SIt(h:Heap)(tp:Bool)(it a:Addr)(i:Nat):Prop:=if tp=true then h.IsTupleIter it a i else h.IsListIter it a i
section
end
structure ZipAt(h:Heap)(tp:Bool)(a b z TI TO i1 i2:Addr)(i:Nat):Prop where
 zip:IsZip h z TI TO .none
 its:IsPair h TI (.ref i1) (.ref i2)
 out:∃u v,IsPair h TO u v
 one:SIt h tp i1 a i
 two:SIt h false i2 b i
section
end
section
end
section
end
section
end
section
end
end L2
namespace PySem
section
set_option maxHeartbeats 3200000 in
open PyProof.Rows in
end
end PySem
namespace L2
open PySem PySem.Spec PyProof.Rows
section
end
section
end
section
end
def spXS(K:aa)(cl:Nat->Value)(m:List D->Option XO):Sp:=fun vs H Q E=>∃B ds o,InB B H∧Reps K H B ds vs∧m ds=some o∧(match o with
 |.val d=>∀v H',Same H H'->Rep K H' B d v->Q v H'
 |.exc c=>∀H',Same H H'->E (cl c) none H')
section
variable{P:dw}{w:fm}{K:aa}{mg:Str->Option Value}{base:Heap}
theorem fnXS{x qual:Str}{st:Stmt}{f:Addr}{fd:fq}{N ps:List Str}{k np nl:Nat}{g:SS->Option Out}{cl:Nat->Value}(F:Fun K x qual st f fd)(S:FnScope N ps (z0e st))(hnp:ps.length=np)(hN:N.length=np+nl)
  (hbody:∀(cdv:Value) (A:Around) (outer:List Env) (s:Shared) (H:Hp) (E:XK) (B:Addr->Prop),Room k (A.deeper (envOfC qual (z0e st) s.heap.objs.size f cdv)) →
   PSs (y0M (CXE P w) P w K mg base N qual (z0e st) f cdv A outer s H E) (z1f st) (tS K H B false (x3S cl E) g)):FnOk P w K mg base (CXE P w) (k+1) f fd ps (spXS K cl (z9e np nl g)):=by
 obtain⟨oc,od,kV,doc,pm,an,cdv,ct,osl,rfl,lk,hcd⟩:=F.ex
 refine fn_of lk hcd S (fun vs H Q E h=>?_) fun A outer s H vs Q E hr h=>?_
 ·obtain⟨B,ds,o,_,r,e,_⟩:=h
  rw[←r.length,z7T e,hnp]
 ·obtain⟨B,ds,o,hB,r,e,kk⟩:=h
  refine⟨_,hbody cdv A outer s H E B hr,?_⟩
  have hl:=z7T e
  unfold z9e at e
  rw[if_pos hl]at e
  have rs:=z7O (nl:=nl) hB r (N:=N) (by omega)
  split at e
  ·rename_i d' eg
   cases e
   exact⟨_,_,_,rs,eg,fun v H' z _=>kk v H' z.1 (z.2.2 rfl)⟩
  ·rename_i δ' eg
   cases e
   exact⟨_,_,_,rs,eg,fun σ' H' R' rs' _=>kk .non H' rs'.keep rfl⟩
  ·rename_i c δ' eg
   cases e
   exact⟨_,_,_,rs,eg,fun σ' H' R' rs' _=>kk H' rs'.keep⟩
  ·cases e
end
section
variable{X:Cx}{k:Nat}{cl:Nat->Value}{RX:XR}{x:Str}{p pos:Pos}{e:Expr}{es:List Expr}
def tXS(K:aa)(RX:XR)(F:DS->Option XO):TE:=fun σ H Q=>∃B δ o,InB B H∧RepS K H B σ δ∧F δ=some o∧(match o with
 |.val d=>∀v H',Same H H'->Rep K H' B d v->Q v H'
 |.exc c=>∀H',Same H H'->RX c σ H')
theorem y6D{m:List D->Option XO}{fl:List DE}(G:DefX X.prog X.w X.K X.mg X.base k x (spXS X.K cl m))(hr:Room k X.A)(hg:Gl X x)(hW:XW X cl RX)(ha:PAD X (e::es) fl)(hdb:(x==("__debug__" : Str))=false:=by decide)
  (he:starEach (e::es) X.env=(false,eval e X.env)::starEach es X.env:=by rfl) (hpl:(fw pos (starEach es X.env)).any (·.1)=false:=by rfl):PE X (.Call (.Name x p) (e::es) [] pos) (tXS X.K RX (z3g m fl)):=
 (y5s G hr hg hW ha hdb he hpl).imp fun σ H Q ⟨B,δ,o,hB,S,q,kk⟩=>by
  unfold z3g at q
  cases e1:z0n fl δ with
  |none=>rw[e1]at q;cases q
  |some ds=>
   rw[e1,aA]at q
   refine⟨B,δ,ds,hB,S,e1,fun vs H1 s1 r1=>⟨B,ds,o,hB.mono s1,r1,q,?_⟩⟩
   cases o with
   |val d=>exact fun v H' s' r=>kk v H' (s1.trans s') r
   |exc c=>exact fun H' s'=>⟨c,rfl,kk H' (s1.trans s')⟩
theorem y1K{m:List D->Option XO}{fl:List DE}(G:DefX X.prog X.w X.K X.mg X.base k x (spXS X.K cl m))(hr:Room k X.A)(hg:Gl X x)(ha:PAD X (e::es) fl)(hdb:(x==("__debug__" : Str))=false:=by decide)
  (he:starEach (e::es) X.env=(false,eval e X.env)::starEach es X.env:=by rfl) (hpl:(fw pos (starEach es X.env)).any (·.1)=false:=by rfl):PD X (.Call (.Name x p) (e::es) [] pos) (z1Q m fl):=
 (y6D (RX:=noX) G hr hg xw_no ha hdb he hpl).imp fun σ H Q ⟨B,δ,d,hB,S,q,kk⟩=>by
  unfold z1Q at q
  cases e1:z3g m fl δ with
  |none=>rw[e1]at q;cases q
  |some o=>
   rw[e1]at q
   cases o with
   |exc c=>cases q
   |val d'=>
    cases q
    exact⟨B,δ,.val d,hB,S,e1,kk⟩
end
section
end
section
end
section
end
section
end
instance{i j:Int}:Decidable (CDivN i j):=by unfold CDivN;infer_instance
section
end
structure MethOk(P:dw)(w:fm)(K:aa)(mg:Str->Option Value)(base:Heap)(k:Nat)(cn m:Str)(sp:Sp):Prop where
 ok:∃(C f:Addr) (fd:fq) (ps:List Str),aE K mainGlobals cn=some (some (.ref C))∧L2.Cls K C∧Meth K C m f∧Binds K fd ps []∧FnOk P w K mg base CX0 k f fd ps sp
section
end
section
end
section
end
section
def bkKs:List Str:=["thing_count", "entries", "earlier", "next_number"]
def bk4{α:Type}(a b c d:α):List (Str×α):=[("thing_count",a),("entries",b),("earlier",c),("next_number",d)]
end
section
variable{K:aa}
def spI(K:aa):Sp:=fun vs H Q _=>∃(a C dx:Addr) (m:Int),vs=[.ref a,.int m]∧H a=some (.ins C dx [])∧y8j K C bkKs=true ∧
 ∀l1 l2 H',H l1=none->H l2=none->l1≠l2->H' a=some (.ins C dx (bk4 (.int m) (.ref l1) (.ref l2) (.int 0)))->H' l1=some (.lst [])->H' l2=some (.lst [])->(∀b o,b≠a->H b=some o->H' b=some o)->(∀b,H' b=none->H b=none)->Q .non H'
end
structure NewOk(P:dw)(w:fm)(K:aa)(mg:Str->Option Value)(base:Heap)(k:Nat)(cn:Str):Prop where
 ok:∃(C fi:Addr) (fd:fq) (ps:List Str),Mk K C fi∧mg cn=some (.ref C)∧aE K mainGlobals cn=some (some (.ref C))∧y8j K C bkKs=true∧Binds K fd ps []∧FnOk P w K mg base CX0 k fi fd ps (spI K)
section
end
section
end
section
end
structure MethX(P:dw)(w:fm)(K:aa)(mg:Str->Option Value)(base:Heap)(k:Nat)(cn m:Str)(sp:Sp):Prop where
 ok:∃(C f:Addr) (fd:fq) (ps:List Str),aE K mainGlobals cn=some (some (.ref C))∧L2.Cls K C∧Meth K C m f∧Binds K fd ps []∧FnOk P w K mg base (CXE P w) k f fd ps sp
section
end
section
end
inductive BO where
 |val (o d:D) | exc (c:Nat) (o:D)
section
end
section
end
inductive BR where
 |val (d:D) (δ:SS) | exc (c:Nat) (δ:SS)
section
end
section
end
section
end
structure RoomH(k:Nat)(A:Around):Prop where
 dp:A.depth+3*k+5<recursionLimit
 un:A.units+16*k+200<cLine
structure FnOkH(P:dw)(w:fm)(K:aa)(mg:Str->Option Value)(base:Heap)(k:Nat)(f:Addr)(fd:fq)(ps:List Str)(sp:Sp):Prop where
 len:∀vs H Q E,sp vs H Q E->vs.length=ps.length
 run:∀(A:Around) (outer:List Env) (s:Shared) (H:Hp) (args:Args) (us:List Value) (vs:List V) (Q:VK) (E:XK),RoomH k A->Env0 P w K mg base A outer s H->BindsTo s fd args (ps.zip us)->Vals vs us->sp vs H Q E →
  codeAny (model P w) A (.call (.ref f) args) (CR CX0 outer P w H s Q E) s
structure DefH(P:dw)(w:fm)(K:aa)(mg:Str->Option Value)(base:Heap)(k:Nat)(x:Str)(sp:Sp):Prop where
 ok:∃(f:Addr) (fd:fq) (ps:List Str),mg x=some (.ref f)∧bC K (.ref f)=true∧Binds K fd ps []∧FnOkH P w K mg base k f fd ps sp
section
end
section
end
section
end
section
end
abbrev F3:=D->List D->D->Option (D×List D×D)
section
end
section
end
def ThrW(h:Heap)(e T:Addr)(cls w:Value):Prop:=∃oe vs oT ts,h.get? e=some oe∧oe.cls=cls∧oe.data = .fields vs∧vs[1]? = some (.ref T)∧T≠e∧h.get? T=some oT∧oT.data = .fields ts∧ts[3]? = some w∧oe.dict=none
structure GoneW(S ch:List Addr)(e:Addr)(cls w:Value)(h h':Heap):Prop where
 keep:∀b o,b∉S->b∉ch->h.get? b=some o->h'.get? b=some o
 slot:∀b o,b∈S->b∉ch->h.get? b=some o->∃sl,h'.get? b=some { o with slots:=sl }
 there:∀b o,h.get? b=some o->∃o',h'.get? b=some o'
 thr:∃T,h.objs.size≤T∧ThrW h' e T cls w
section
variable{M:Model}{A:Around}{E:Value->Shared->Prop}{s:Shared}
theorem y9L{base:Heap}{env:Env}{outer:List Env}{L e:Addr}{oe:Obj}{vs:Array Value}{head:Value}{hadNext:Bool}{Q:Unit->Shared->Prop}
  (hfr:A.frames=some (env::outer)) (hl:s.heap.FunFrames base (env::outer)) (hf:env.frame=some L)
  (he:s.heap.get? e=some oe) (hd:oe.data = .fields vs) (hsz:1<vs.size) (hdn:oe.dict=none)
  (h:∀h',GoneW (frs (env::outer)) [e] e oe.cls (rawInt L) s.heap h'->Q () { s with heap:=h' }):
  wpAny M A (do let a ←frameOf env;let pl ←entryPlaceOf L hadNext;let b ←EntryCells.newEntry head a .none (rawInt L) .none pl;setField (.ref e) 1 b) Q E s:=by
 have hene:e∉frs (env::outer):=fun hm=>by
  obtain⟨_,o,ho,hnf⟩:=hl.mem hm
  rw[he]at ho;injection ho with ho;subst ho;exact hnf vs hd
 refine wpAny_bind (wpAny_frameOf_fun hfr hl hf fun h₁ hs₁=>?_)
 refine wpAny_bind (wpAny_entryPlaceOf fun pl hpl=>?_)
 unfold EntryCells.newEntry newFields
 refine wpAny_bind (wpAny_newObj_type ?_ (hpl.sizeOk5 _ _ _ _ _))
 have he₁:h₁.get? e=some oe:=(hs₁.2.1 e hene).trans he
 generalize hob:({ cls:=.type "traceback",dict:=none,data:=.fields ([head,.ref L,.none,rawInt L,.none]++(if pl.isEmpty then aD 6 Value.none else pl)).toArray }:Obj)=ob
 have hobd:ob.data = .fields ([head,.ref L,.none,rawInt L,.none]++(if pl.isEmpty then aD 6 Value.none else pl)).toArray:=by rw[←hob]
 have hobf:ob.isFreed=false:=by rw[←hob];rfl
 have he₂:=Heap.get?_push_of_some (h:=h₁) ob he₁
 refine wpAny_setField he₂ hd hsz (h _ ?_)
 have hTe:h₁.objs.size≠e:=bP (Heap.lt_size he₁)
 have hd₃:=Obj.data_mapFields hd (·.setIfInBounds 1 (Value.ref h₁.objs.size))
 have he₃:=Heap.get?_update_self (Obj.mapFields (·.setIfInBounds 1 (Value.ref h₁.objs.size))) he₂ (Obj.isFreed_of_fields hd₃)
 have hT₃:=(Heap.get?_update_other (h₁.push ob) (Obj.mapFields (·.setIfInBounds 1 (Value.ref h₁.objs.size))) (Ne.symm hTe)).trans (Heap.get?_push_size h₁ hobf)
 have keep:∀b o,b≠e->h₁.get? b=some o->((h₁.push ob).update e (Obj.mapFields (·.setIfInBounds 1 (Value.ref h₁.objs.size)))).get? b=some o:=fun b o hbe hb=>by
  rw[Heap.get?_update_other _ _ (Ne.symm hbe)]
  exact Heap.get?_push_of_some _ hb
 refine⟨fun b o hb hc e1=>?_,fun b o hb hc e1=>?_,fun b o e1=>?_,h₁.objs.size,?_,?_⟩
 ·exact keep b o (fun z=>hc (by simp[z])) ((hs₁.2.1 b hb).trans e1)
 ·obtain⟨sl,e2⟩:=hs₁.2.2 b o e1
  exact⟨sl,keep b _ (fun z=>hc (by simp[z])) e2⟩
 ·by_cases hb:b=e
  ·exact⟨Obj.mapFields (·.setIfInBounds 1 (Value.ref h₁.objs.size)) oe,by rw[hb];exact he₃⟩
  ·obtain⟨sl,e2⟩:=hs₁.2.2 b o e1
   exact⟨_,keep b _ hb e2⟩
 ·rw[hs₁.1]
  exact ao _
 ·exact⟨_,_,_,_,he₃,Obj.cls_mapFields _ _,hd₃,by simp[hsz],hTe,hT₃,hobd,by simp,y5I hdn⟩
theorem y7c{base:Heap}{env:Env}{outer:List Env}{L e T:Addr}{cls:Value}{Q:Unit->Shared->Prop}
  (hfr:A.frames=some (env::outer)) (hl:s.heap.FunFrames base (env::outer)) (hf:env.frame=some L) (ht:Thr s.heap e T cls)
  (h:∀h',GoneW (frs (env::outer)) [e,T] e cls (rawInt L) s.heap h'->Q () { s with heap:=h' }):wpAny M A (noteFrame (.ref e) env) Q E s:=by
 obtain⟨oe,vs,oT,ts,he,rfl,hd,h1,hTe,hT,hdT,h3,hdn⟩:=ht
 unfold noteFrame
 simp only[hf]
 refine wpAny_bind (wpAny_field he hd h1 ?_)
 rw[if_pos (show(Value.ref T != Value.none)=true from by simp)]
 refine wpAny_bind (wpAny_field hT hdT h3 ?_)
 rw[if_neg (show ¬ ((Value.none==rawInt L)=true) from by simp[rawInt])]
 refine wpAny_bind (wpAny_setField hT hdT (aY.mp h3).1 ?_)
 have other:∀b,b≠T->(s.heap.update T (Obj.mapFields (·.setIfInBounds 3 Value.none))).get? b=s.heap.get? b:=fun b hb=>Heap.get?_update_other _ _ (Ne.symm hb)
 have noRecord:∀b o,s.heap.get? b=some o->(∀vs,o.data≠.fields vs)->b≠T:=fun b o hb hnf q=>by
  rw[q,hT]at hb;injection hb with hb;subst hb;exact hnf ts hdT
 refine y9L hfr (hl.of_keeps fun b o hb hnf=>⟨o,(other b (noRecord b o hb hnf)).trans hb,rfl⟩) hf ((other e (Ne.symm hTe)).trans he) hd (aY.mp h1).1 hdn fun h' G=>h h' ?_
 refine⟨fun b o hb hc e1=>G.keep b o hb (fun z=>hc (ah.mpr (.inl (ai.mp z)))) ((other b fun z=>hc (by simp[z])).trans e1),fun b o hb hc e1=>G.slot b o hb (fun z=>hc (ah.mpr (.inl (ai.mp z)))) ((other b fun z=>hc (by simp[z])).trans e1),fun b o e1=>?_,?_⟩
 ·by_cases hb:b=T
  ·have e2:(s.heap.update T (Obj.mapFields (·.setIfInBounds 3 Value.none))).get? b=some (Obj.mapFields (·.setIfInBounds 3 Value.none) oT):=by
    rw[hb]
    exact Heap.get?_update_self _ hT (Obj.isFreed_of_fields (Obj.data_mapFields hdT _))
   exact G.there b _ e2
  ·exact G.there b o ((other b hb).trans e1)
 ·obtain⟨T',h1,h2⟩:=G.thr
  exact⟨T',by rwa [Heap.size_after_update]at h1,h2⟩
theorem x1V{e T:Addr}{cls w:Value}{fo:Option Addr}{Q:Unit->Shared->Prop}(ht:ThrW s.heap e T cls w)
  (h:∀h',(∀b,b≠T->h'.get? b=s.heap.get? b)->(∀b o,s.heap.get? b=some o->∃o',h'.get? b=some o')->ThrW h' e T cls (fo.elim Value.none fun f=>rawInt f)->Q () { s with heap:=h' }):wpAny M A (setFlight (.ref e) fo) Q E s:=by
 obtain⟨oe,vs,oT,ts,he,hcl,hd,h1,hTe,hT,hdT,h3,hdn⟩:=ht
 unfold setFlight
 refine wpAny_bind (wpAny_field he hd h1 ?_)
 rw[if_pos (show(Value.ref T != Value.none)=true from by simp)]
 have hl3:=(aY.mp h3).1
 have hs:=Heap.get?_update_self (Obj.mapFields (·.setIfInBounds 3 (fo.elim Value.none fun f=>rawInt f))) hT (Obj.isFreed_of_fields (Obj.data_mapFields hdT _))
 have other:∀b,b≠T->(s.heap.update T (Obj.mapFields (·.setIfInBounds 3 (fo.elim Value.none fun f=>rawInt f)))).get? b=s.heap.get? b:=fun b hb=>Heap.get?_update_other _ _ (Ne.symm hb)
 refine wpAny_setField hT hdT hl3 (h _ other (fun b o q=>?_) ⟨oe,vs,_,_,(other e (Ne.symm hTe)).trans he,hcl,hd,h1,hTe,hs,Obj.data_mapFields hdT _,?_,hdn⟩)
 ·by_cases hb:b=T
  ·subst hb;exact⟨_,hs⟩
  ·exact⟨o,(other b hb).trans q⟩
 ·rw[Array.getElem?_setIfInBounds_self_of_lt hl3]
theorem leaveW{base:Heap}{env:Env}{outer:List Env}{L e T:Addr}{cls w:Value}{Q:Unit->Shared->Prop}
  (hfr:A.frames=some (env::outer)) (hl:s.heap.FunFrames base (env::outer)) (hf:env.frame=some L) (ht:ThrW s.heap e T cls w)
  (h:∀h' T',(∀b o,b∉frs (env::outer)->b∉[e,T]->s.heap.get? b=some o->h'.get? b=some o)->(∀b o,b∈frs (env::outer)->b∉[e,T]->s.heap.get? b=some o->∃sl,h'.get? b=some { o with slots:=sl })->(∀b o,s.heap.get? b=some o->∃o',h'.get? b=some o') →
   (T'=T∨s.heap.objs.size≤T')->Thr h' e T' cls->Q () { s with heap:=h' }):wpAny M A (leaving env (.ref e)) Q E s:=by
 have ht0:=ht
 obtain⟨oe,vs,oT,ts,he,rfl,hd,h1,hTe,hT,hdT,h3,hdn⟩:=ht
 refine z6O ?_
 unfold noteFrame
 simp only[hf]
 refine wpAny_bind (wpAny_field he hd h1 ?_)
 rw[if_pos (show(Value.ref T != Value.none)=true from by simp)]
 refine wpAny_bind (wpAny_field hT hdT h3 ?_)
 by_cases hw:(w==rawInt L)=true
 ·rw[if_pos hw]
  refine wpAny_pure (x1V ht0 fun h' k1 k2 t'=>h h' T (fun b o _ hc q=>(k1 b fun z=>hc (by simp[z])).trans q) (fun b o _ hc q=>⟨o.slots,(k1 b fun z=>hc (by simp[z])).trans q⟩) k2 (.inl rfl) t')
 ·rw[if_neg hw]
  refine wpAny_bind (wpAny_setField hT hdT (aY.mp h3).1 ?_)
  have other:∀b,b≠T->(s.heap.update T (Obj.mapFields (·.setIfInBounds 3 Value.none))).get? b=s.heap.get? b:=fun b hb=>Heap.get?_update_other _ _ (Ne.symm hb)
  have noRecord:∀b o,s.heap.get? b=some o->(∀vs,o.data≠.fields vs)->b≠T:=fun b o hb hnf q=>by
   rw[q,hT]at hb;injection hb with hb;subst hb;exact hnf ts hdT
  refine y1n hfr (hl.of_keeps fun b o hb hnf=>⟨o,(other b (noRecord b o hb hnf)).trans hb,rfl⟩) hf ((other e (Ne.symm hTe)).trans he) hd (aY.mp h1).1 hdn fun h' G=>?_
  obtain⟨T',h5,h6⟩:=G.thr
  refine h h' T' (fun b o hb hc e1=>G.keep b o hb (fun z=>hc (ah.mpr (.inl (ai.mp z)))) ((other b fun z=>hc (by simp[z])).trans e1)) (fun b o hb hc e1=>G.slot b o hb (fun z=>hc (ah.mpr (.inl (ai.mp z)))) ((other b fun z=>hc (by simp[z])).trans e1)) (fun b o e1=>?_) (.inr (by rwa [Heap.size_after_update]at h5)) h6
  by_cases hb:b=T
  ·have e2:(s.heap.update T (Obj.mapFields (·.setIfInBounds 3 Value.none))).get? b=some (Obj.mapFields (·.setIfInBounds 3 Value.none) oT):=by
    rw[hb]
    exact Heap.get?_update_self _ hT (Obj.isFreed_of_fields (Obj.data_mapFields hdT _))
   exact G.there b _ e2
  ·exact G.there b o ((other b hb).trans e1)
end
def XL(X:Cx)(cl:Nat->Value)(RX:XR):Prop:=∀(pins:List (Addr×Obj)) (σ:St) (H:Hp) (s:Shared) (ea T:Addr) (c:Nat) (w:Value),Inv X pins σ H s->FpX X pins H ea->FpX X pins H T->ThrW s.heap ea T (cl c) w->RX c σ H->X.xe (.ref ea) s
section
variable{P:dw}{w:fm}{K:aa}{mg:Str->Option Value}{base:Heap}
theorem xl_def{N:List Str}{qual:Str}{scope:fB}{f:Addr}{cd:Value}{A:Around}{outer:List Env}{s:Shared}{H:Hp}{E:XK}{cl:Nat->Value}:XL (y0M (CXE P w) P w K mg base N qual scope f cd A outer s H E) cl (fun c _ H=>E (cl c) none H):=by
 intro pins σ H1 s1 ea T c w' I fe fT th hE
 refine leaveW (base:=base) (outer:=outer) I.ok.frames I.stack rfl th fun h' T' k1 k2 k3 hT' th'=>?_
 have I':=I.gone3 (ch:=[ea,T]) k1 k2 k3 fun b hb=>by
  rcases ah.mp hb with rfl | hb
  ·exact fe
  ·rw[ai.mp hb];exact fT
 have nn:∀b,FpX (y0M (CXE P w) P w K mg base N qual scope f cd A outer s H E) pins H1 b->s.heap.get? b=none:=fun b fb=>by
  rcases fb.2.2.1 with z | z
  ·exact absurd (show b∈([]:List Addr) from z) (by simp)
  ·exact z
 have hT:s.heap.get? T'=none∧H1 T'=none:=by
  rcases hT' with rfl | z
  ·exact⟨nn _ fT,fT.1⟩
  ·exact⟨Heap.get?_none_of_le (aG I.sz z),I.hok.fresh z⟩
 exact⟨ea,T',cl c,H1,rfl,I'.os,I'.bare,I'.base,I'.hok,nn _ fe,hT.1,fe.1,hT.2,th',hE⟩
end
section
variable{X:Cx}{N':List Str}{sc:fB}{pins:List (Addr×Obj)}{σ:St}{H:Hp}{s:Shared}{fp:List Addr}{cl:Nat->Value}{RXc:Nat->Hp->Prop}{use:Option (Value->Sem Unit)}{Q:Value->Shared->Prop}{acc:Value}
theorem xw_comp(hst:X.stack=X.env::X.outer)(hfr:∃L,X.env.frame=some L)(hL:XL X cl (fun c _ H=>RXc c H))(I:Inv X pins σ H s)(hf:∀b∈fp,y2k X pins H b):
  XW (z0A X N' sc s H fp pins (notedBy (model X.prog X.w) X.A (compEnvC sc (cellsFrom (s.heap.objs.size+1) sc.names (z2I X.env.cells sc.names [])) s.heap.objs.size X.env) fun e s'=>compPost (model X.prog X.w) X.A X.xe use Q acc s.heap.objs.size (.error e) s')) cl (fun c _ H=>RXc c H):=by
 intro pins' σ' H' s' ea T c J fe fT th hE
 obtain⟨L,hL0⟩:=hfr
 show wpAny (model X.prog X.w) X.A (noteFrame (.ref ea) X.env) _ _ s'
 have fr:=I.ok.frames
 have stk:s'.heap.FunFrames X.base X.stack:=J.stack
 rw[hst]at fr stk
 refine y7c fr stk hL0 th fun h1 G=>?_
 have J1:=J.gone3 (ch:=[ea,T]) (h':=h1) (by show ∀b o,b∉frs X.stack->_;rw[hst];exact G.keep) (by show ∀b o,b∈frs X.stack->_;rw[hst];exact G.slot) G.there fun b hb=>by
  rcases ah.mp hb with rfl | hb
  ·exact fe
  ·rw[ai.mp hb];exact fT
 have J2:Inv (z0A X N' sc s H fp pins (notedBy (model X.prog X.w) X.A (compEnvC sc (cellsFrom (s.heap.objs.size+1) sc.names (z2I X.env.cells sc.names [])) s.heap.objs.size X.env) fun e s'=>compPost (model X.prog X.w) X.A X.xe use Q acc s.heap.objs.size (.error e) s')) [] σ' H' { s' with heap:=h1 }:=
  ⟨J1.ok,J1.os,J1.bare,J1.base,J1.loc,J1.cell,J1.free,J1.freeC,fun p hp=>J1.pin p (by rw[aH]at hp;exact bc _ hp),J1.hok,J1.len⟩
 have I2:=z6i I hf J2
 obtain⟨T',hT',th'⟩:=G.thr
 obtain⟨m,hn,_⟩:=J2.loc
 refine⟨m,hn,fun h2 hb cenv hcenv=>?_⟩
 have hC:H' s.heap.objs.size=none:=J2.free
 have I3:=y2P I I2 hC hb
 have szJ:s.heap.objs.size<s'.heap.objs.size:=J.lt
 have neC:ea≠s.heap.objs.size:=fe.2.1
 have neT:T'≠s.heap.objs.size:=bP (aI szJ hT')
 have th2:ThrW h2 ea T' (cl c) (rawInt L):=by
  obtain⟨oe,vs,oT,ts,a1,a2,a3,a4,a5,a6,a7,a8,a9⟩:=th'
  exact⟨oe,vs,oT,ts,(hb.2 ea neC).trans a1,a2,a3,a4,a5,(hb.2 T' neT).trans a6,a7,a8,a9⟩
 have fT':FpX X pins H' T':=I.fpX (Heap.get?_none_of_le (aG (ck szJ) hT')) (J.hok.fresh hT')
 have fe':FpX X pins H' ea:=by
  rcases fe.2.2.1 with z | z
  ·obtain⟨_,b2,_,b4,b5,b6⟩:=hf ea z
   exact⟨fe.1,b2,b4.imp id fun q=>Heap.get?_none_of_le q,b5,b6⟩
  ·exact I.fpX z fe.1
 unfold PySem.passOn
 obtain⟨oe,vs,oT,ts,a1,a2,a3,a4,a5,a6,a7,a8,a9⟩:=th2
 refine wpAny_bind (wpAny_field a1 a3 a4 ?_)
 rw[if_neg (show ¬ ((Value.ref T'==Value.none)=true) from by simp)]
 refine wpAny_bind (x1V (s:={ s' with heap:=h2 }) ⟨oe,vs,oT,ts,a1,a2,a3,a4,a5,a6,a7,a8,a9⟩ fun h3 k1 k2 t3=>wpAny_throw ?_)
 have I4:=I3.gone3 (ch:=[T']) (h':=h3) (fun b o _ hc q=>(k1 b fun z=>hc (by simp[z])).trans q) (fun b o _ hc q=>⟨o.slots,(k1 b fun z=>hc (by simp[z])).trans q⟩) k2 fun b hb=>by rw[ai.mp hb];exact fT'
 exact hL pins σ H' _ ea T' c _ I4 fe' fT' t3 hE
end
def altO(g h:SS->Option Out):SS->Option Out:=fun δ=>match g δ with
 |some o=>some o
 |none=>h δ
def exc1(fi:DS->Option (List D))(F:DS->Option XO):SS->Option Out:=fun δ=>(fi (z0D δ)).bind fun xs=>match xs with
 |x::_=>(F (z0D δ++[some x])).bind fun o=>match o with
  |.exc c=>some (.ex c δ)
  |_=>none
 |[]=>none
section
variable{X:Cx}{st:Stmt}{g h:SS->Option Out}{H0:Hp}{B0:Addr->Prop}{fr:Bool}{RX:XR}
theorem s_or(h1:PS X st (tS X.K H0 B0 fr RX g))(h2:PS X st (tS X.K H0 B0 fr RX h)):PS X st (tS X.K H0 B0 fr RX (altO g h)):=fun pins s σ H D I ⟨δ,R,o,rs,q,k⟩=>by
 unfold altO at q
 cases e:g δ with
 |some o'=>
  rw[e]at q
  cases q
  exact h1 pins s σ H D I ⟨δ,R,o,rs,e,k⟩
 |none=>
  rw[e]at q
  exact h2 pins s σ H D I ⟨δ,R,o,rs,q,k⟩
end
section
variable{X:Cx}{N':List Str}{k n:Nat}{sc:fB}{tg iter elt e:Expr}{ifs:List Expr}{pos p px:Pos}{x:Str}{gt:TG}{tc:TT}{te:TE}{wi:TI}{cl:Nat->Value}{RXc:Nat->Hp->Prop}{fi:DS->Option (List D)}{F:DS->Option XO}{H0:Hp}{B0:Addr->Prop}{fr:Bool}
theorem x3c{i:Nat}{y:Str}{py spos:Pos}(hst:X.stack=X.env::X.outer)(hfr:∃L,X.env.frame=some L)(hL:XL X cl (fun c _ H=>RXc c H))(hc:X.calm=true)(S:CompScope X.N X.env.scope.names N' k sc)(hN:X.N.Nodup)(hy:X.N[i]? = some y)(hyl:X.env.scope.names.lookup y=some .local)(hi:PI X tg iter wi)
  (hg:∀s H fp pins E,PG (z0A X N' sc s H fp pins E) tg gt) (ht:∀s H fp pins E,y8q (z0A X N' sc s H fp pins E) ifs tc) (he:∀s H fp pins E,XW (z0A X N' sc s H fp pins E) cl (fun c _ H=>RXc c H)->PE (z0A X N' sc s H fp pins E) elt te)
  (hsw:swapsWith (.ListComp elt [⟨tg,iter,ifs,0⟩] sc pos) (some (.Name y py)) spos.line X.env=pure true:=by rfl) (hs:∀x,foldedSetIterable iter X.env x=pure x:=by intro _;rfl):
  PS X (.Assign [.Name y py] (.ListComp elt [⟨tg,iter,ifs,0⟩] sc pos) spos) (tAsg (y7F wi gt tc te k) (z2W i)):=by
 intro pins s σ H D I h
 rw[exec_Assign_Name_used _ _ _ _ hsw]
 refine wpAny_bind (wpAny_standAt (wpAny_bind ?_))
 show wpAny _ X.A (do let _ ←comprehension (.ListComp elt [⟨tg,iter,ifs,0⟩] sc pos) sc X.env _ (newList []) false (eval iter X.env) (some (fD (.Name y py) X.env))) _ _ s
 refine wpAny_bind (wpAny_mono (wpAny_comprehension_free (use:=some (fD (.Name y py) X.env)) (Q:=fun _ s'=>SP X pins D .next s') rfl hs (z2i fun n hn=>I.ok.has n (S.fr hn)) S.kind S.names'
  (thn (hi pins s σ H _ I h) fun v s1 h1=>thn h1 fun itv s2 h2=>?_)) (fun _ s' hq=>wpAny_pure (wpAny_pure hq)) fun _ _ e=>e)
 obtain⟨it,fp,tn,J,H2,e,I2,T,st2,f2,hW⟩:=h2
 subst e
 refine z6P (PC:=fun s H E=>XW (z0A X N' sc s H fp pins E) cl (fun c _ H=>RXc c H)) (Q:=fun v H'=>D.nx (σ.set i (some v)) H') (RR:=fun acc C=>compPost (model X.prog X.w) X.A X.xe (some (fD (.Name y py) X.env)) (fun _ s'=>SP X pins D .next s') acc C) hc S (fun s H E hw=>⟨hg s H _ _ E,ht s H _ _ E,he s H _ _ E hw⟩)
  (fun D s3 H3 I3 hf3=>xw_comp hst hfr hL I3 hf3) I2 T st2 f2 hW ?_
 intro a s3 H3 σ' H' s' E' I3 f3 J' q
 have J2:=z6i I3 f3 J'
 obtain⟨m,hn,_⟩:=J'.loc
 show wpAny _ X.A (fD (.Name y py) X.env (.ref a)) _ _ _
 refine wpAny_assign_Name (z8J J2 hN hy (.inl hyl) (v:=.ref a) rfl (fun s4 I4 hsb=>?_) (.inr hyl))
 obtain⟨b,hb,hb'⟩:=hsb
 have hne:b≠s3.heap.objs.size:=by
  rcases hb' with z | z
  ·rw[z];exact az I3.lt
  ·obtain⟨v,w'⟩:=I3.cell y b z
   exact az w'.lt
 refine⟨m,hn.sameBut hb (Ne.symm hne),fun h' hb2=>⟨_,H',?_,q⟩⟩
 refine I4.turned (t':=s4.toks) (it:=s3.heap.objs.size) (fun b o hne e=>(hb2.2 b hne).trans e) J'.free (bP I3.lt) (.inr I3.sz) (fun x c e=>?_) fun p hp=>?_
 ·obtain⟨v,q⟩:=I3.cell x c e
  exact az q.lt
 ·exact az (Heap.lt_size (I3.pin p hp).1)
theorem s_asgCE{i:Nat}{y:Str}{py spos:Pos}(hst:X.stack=X.env::X.outer)(hfr:∃L,X.env.frame=some L)(hL:XL X cl (fun c _ H=>RXc c H))(hN:X.N.Nodup)(hy:X.N[i]? = some y)(hyl:X.env.scope.names.lookup y=some .local)(hc:X.calm=true)(S:CompScope X.N X.env.scope.names N' 1 sc)(hn:n=X.N.length)(hi:PID X (.Name x px) iter fi)
  (hg:∀s H fp pins E,PG (z0A X N' sc s H fp pins E) (.Name x px) (z2W n)) (ht:∀s H fp pins E,y8q (z0A X N' sc s H fp pins E) ifs (tT X.K z6h)) (he:∀s H fp pins E,XW (z0A X N' sc s H fp pins E) cl (fun c _ H=>RXc c H)->PE (z0A X N' sc s H fp pins E) elt (tXS X.K (fun c _ H=>RXc c H) F))
  (hsw:swapsWith (.ListComp elt [⟨.Name x px,iter,ifs,0⟩] sc pos) (some (.Name y py)) spos.line X.env=pure true:=by rfl) (hs:∀x,foldedSetIterable iter X.env x=pure x:=by intro _;rfl):
  PS X (.Assign [.Name y py] (.ListComp elt [⟨.Name x px,iter,ifs,0⟩] sc pos) spos) (tS X.K H0 B0 fr (fun c _ H=>RXc c H) (exc1 fi F)):=by
 intro pins s σ H D I ⟨δ,R,o,rs,q,kk⟩
 refine x3c hst hfr hL hc S hN hy hyl hi hg ht he hsw hs pins s σ H D I ?_
 have hσ:σ.length=n:=by rw[hn,I.len]
 unfold exc1 at q
 cases e1:fi (z0D δ)with
 |none=>rw[e1]at q;cases q
 |some xs=>
 rw[e1,aA]at q
 cases xs with
 |nil=>cases q
 |cons d0 r=>
 have q:((F (z0D δ++[some d0])).bind fun o=>match o with | .exc c=>some (Out.ex c δ) | _=>none)=some o:=q
 cases e2:F (z0D δ++[some d0])with
 |none=>rw[e2]at q;cases q
 |some xo=>
 rw[e2,aA]at q
 cases xo with
 |val d=>cases q
 |exc c=>
 cases q
 refine⟨noB,z0D δ,d0::r,.no,rs.all,e1,fun J H1 s1 itw=>fun Da hD=>?_⟩
 have it:=itw (fun a=>H1 a=none) fun a ha=>ha
 refine⟨fun i m σ' H'=>i=0∧(∃w,σ'=σ++[w])∧Same H1 H',⟨0,rfl,⟨none,rfl⟩,z0q hD⟩,?_⟩
 rintro i m σ' H' ⟨rfl,⟨w,rfl⟩,sm⟩
 have kp:Keep X.K (fun a=>noB a∨H1 a=none) H1 H':=.same sm
 refine .inr ⟨it.go 0 H' kp (Nat.succ_pos _),fun _ _=>False,fun _ _ z=>z.elim,fun xv H2 hy=>?_⟩
 obtain⟨s2,d,hd,rd⟩:=it.yld 0 H' xv H2 kp hy
 have hd0:some d0=some d:=hd (Nat.succ_pos _)
 cases hd0
 show tT X.K z6h ((σ++[w]).set n (some xv)) H2 _
 rw[←hσ,z7X]
 have S2:RepS X.K H2 noB (σ++[some xv]) (z0D δ++[some d0]):=(((rs.all.mono s1).mono sm).mono s2).snoc (rd.anti fun a z=>z.elim)
 refine⟨noB,z0D δ++[some d0],true,.no,S2,rfl,fun H3 s3=>iteT ?_⟩
 have st:=((s1.trans sm).trans s2).trans s3
 exact⟨noB,z0D δ++[some d0],.exc c,.no,S2.mono s3,e2,fun H4 s4=>kk σ H4 R (rs.mono (st.trans s4)) (.same (st.trans s4))⟩
end
section
end
section
end
section
end
section
end
section
end
section
variable{X:Cx}{H0:Hp}{B0:Addr->Prop}{fr:Bool}{RX:XR}
theorem sb{st:Stmt}{g:SS->Option Out}(h:PS X st (tS X.K H0 B0 fr RX g)):PSb X st (tS X.K H0 B0 fr RX g):=by
 unfold PSb
 exact h
end
section
end
def FnG(K:aa)(x:Str)(st:Stmt):Prop:=∃f fd,aE K mainGlobals x=some (some (.ref f))∧Fun K x x st f fd
def FnB(K:aa)(mg:Str->Option Value)(x:Str)(st:Stmt)(ps:List Str):Prop:=∃f fd,Fun K x x st f fd∧mg x=some (.ref f)∧Binds K fd ps []
section
variable{K:aa}{x:Str}{st:Stmt}{h:Heap}{mg:Str->Option Value}
theorem x2h{ps:List Str}(X:K.In h)(G:h.Ns mainGlobals mg)(F:FnG K x st)(hb:∀(kV doc pm:Value) (an:Option Addr) (cdv ct:Value) (us:List Value),us.length=ps.length->bindArgs (bq x x (z2h st) (z1f st) (z0e st) .none kV doc pm an cdv ct) ⟨us,[]⟩=pure (ps.zip us)):FnB K mg x st ps:=
 let⟨f,fd,a,F⟩:=F
 ⟨f,fd,F,dQ X G a,F.binds hb⟩
theorem fg1{p0:Str}(X:K.In h)(G:h.Ns mainGlobals mg)(F:FnG K x st)(hb:∀(kV doc pm:Value) (an:Option Addr) (cdv ct u0:Value),bindArgs (bq x x (z2h st) (z1f st) (z0e st) .none kV doc pm an cdv ct) ⟨[u0],[]⟩=pure ([p0].zip [u0]):=by intros;rfl):FnB K mg x st [p0]:=
 x2h X G F fun _ _ _ _ _ _ us hl=>match us,hl with | [_],_=>hb _ _ _ _ _ _ _
theorem fg2{p0 p1:Str}(X:K.In h)(G:h.Ns mainGlobals mg)(F:FnG K x st)(hb:∀(kV doc pm:Value) (an:Option Addr) (cdv ct u0 u1:Value),bindArgs (bq x x (z2h st) (z1f st) (z0e st) .none kV doc pm an cdv ct) ⟨[u0,u1],[]⟩=pure ([p0,p1].zip [u0,u1]):=by intros;rfl):FnB K mg x st [p0,p1]:=
 x2h X G F fun _ _ _ _ _ _ us hl=>match us,hl with | [_,_],_=>hb _ _ _ _ _ _ _ _
theorem fg3{p0 p1 p2:Str}(X:K.In h)(G:h.Ns mainGlobals mg)(F:FnG K x st)(hb:∀(kV doc pm:Value) (an:Option Addr) (cdv ct u0 u1 u2:Value),bindArgs (bq x x (z2h st) (z1f st) (z0e st) .none kV doc pm an cdv ct) ⟨[u0,u1,u2],[]⟩=pure ([p0,p1,p2].zip [u0,u1,u2]):=by intros;rfl):FnB K mg x st [p0,p1,p2]:=
 x2h X G F fun _ _ _ _ _ _ us hl=>match us,hl with | [_,_,_],_=>hb _ _ _ _ _ _ _ _ _
theorem fg4{p0 p1 p2 p3:Str}(X:K.In h)(G:h.Ns mainGlobals mg)(F:FnG K x st)(hb:∀(kV doc pm:Value) (an:Option Addr) (cdv ct u0 u1 u2 u3:Value),bindArgs (bq x x (z2h st) (z1f st) (z0e st) .none kV doc pm an cdv ct) ⟨[u0,u1,u2,u3],[]⟩=pure ([p0,p1,p2,p3].zip [u0,u1,u2,u3]):=by intros;rfl):FnB K mg x st [p0,p1,p2,p3]:=
 x2h X G F fun _ _ _ _ _ _ us hl=>match us,hl with | [_,_,_,_],_=>hb _ _ _ _ _ _ _ _ _ _
theorem fg5{p0 p1 p2 p3 p4:Str}(X:K.In h)(G:h.Ns mainGlobals mg)(F:FnG K x st)(hb:∀(kV doc pm:Value) (an:Option Addr) (cdv ct u0 u1 u2 u3 u4:Value),bindArgs (bq x x (z2h st) (z1f st) (z0e st) .none kV doc pm an cdv ct) ⟨[u0,u1,u2,u3,u4],[]⟩=pure ([p0,p1,p2,p3,p4].zip [u0,u1,u2,u3,u4]):=by intros;rfl):FnB K mg x st [p0,p1,p2,p3,p4]:=
 x2h X G F fun _ _ _ _ _ _ us hl=>match us,hl with | [_,_,_,_,_],_=>hb _ _ _ _ _ _ _ _ _ _ _
theorem FnB.on{ps:List Str}{C:Prop}(B:FnB K mg x st ps)(k:∀{f:Addr} {fd:fq},Fun K x x st f fd->mg x=some (.ref f)->Binds K fd ps []->C):C:=
 let⟨_,_,F,m,b⟩:=B
 k F m b
theorem z0B{N P:List Str}{sc:fB}(h:N.Nodup∧(∀x∈P,sc.names.lookup x=some .local∨sc.names.lookup x=some .cell)∧∀y∈sc.names,y.2≠.free:=by decide +kernel)(h1:sc.kind = .function:=by rfl)(h2:sc.isCoroutine=false:=by rfl)(h3:sc.isGenerator=false:=by rfl)(h4:N.take P.length=P:=by rfl):FnScope N P sc:=
 ⟨h1,h2,h3,h.1,h4,h.2.1,h.2.2⟩
end
section
end
end L2
namespace L2
open PySem
theorem x0p{np nl:Nat}{g:SS->Option Out}{ds:List D}{d:D}(hl:ds.length=np)(e:g (ds.map (fun d=>some (.sh d))++aD nl none)=some (.rt d)):z1A np nl g ds=some d:=by
 unfold z1A
 rw[if_pos hl,e]
theorem z4P{n:Nat}(h:n≤1000000):n≤sizeLine:=by rw[PySem.sizeLine_eq];omega
def bD(b:Bool):D:=.bl b
def z9z(r:List Bool):D:=.lst (r.map bD)
def z0E(T:List (List Bool)):D:=.lst (T.map z9z)
theorem x0N{ds:List D}{k:Nat}{d:D}(h:ds[k]? = some d):ixD (.lst ds) (.int (k:Int))=some d:=z5x h
theorem y3l:∀bs:List Bool,y0H (bs.map bD)=some bs
 |[]=>rfl
 |b::bs=>by
  show(y0H (bs.map bD)).map (b :: ·)=_
  rw[y3l bs]
  rfl
theorem z5p:∀r:List Bool,z3b (r.map bD)=true
 |[]=>rfl
 |b::r=>by
  show(true&&z3b (r.map bD))=true
  rw[z5p r]
  rfl
theorem row_ix{r:List Bool}{k:Nat}(h:k<r.length):ixD (z9z r) (.int (k:Int))=some (.bl r[k]):=x0N (by rw[aJ,ax h];rfl)
theorem tab_ix{T:List (List Bool)}{k:Nat}(h:k<T.length):ixD (z0E T) (.int (k:Int))=some (z9z T[k]):=x0N (by rw[aJ,ax h];rfl)
theorem ixN_nat{n k:Nat}(h:k<n):ixN n (k:Int)=some k:=by
 unfold ixN
 rw[if_pos (by omega),if_pos (by omega)]
 simp
def Sq(n:Nat)(T:List (List Bool)):Prop:=T.length=n∧∀r∈T,r.length=n
theorem Sq.row{n:Nat}{T:List (List Bool)}(h:Sq n T){k:Nat}(hk:k<T.length):T[k].length=n:=h.2 _ (cA hk)
def hol{α:Type}(x:Option α)(Q:α->Prop):Prop:=∃a,x=some a∧Q a
section
variable{α:Type}{Q:α->Prop}
theorem z0b{a:α}:hol (some a) Q=Q a:=propext ⟨fun⟨_,e,q⟩=>by cases e;exact q,fun q=>⟨a,rfl,q⟩⟩
theorem hol_is{x:Option α}{a:α}:hol x (fun b=>b=a)↔x=some a:=⟨fun⟨_,e,q⟩=>q ▸ e,fun e=>⟨a,e,rfl⟩⟩
end
def asB:D->Option Bool
 |.bl b=>some b
 |_=>none
section
variable{Q:D->Prop}{QO:Out->Prop}{δ:DS}{s:SS}{h:DE}
theorem ho_var0{x:Option D}{r:DS}:z0d 0 (x::r)=x:=by cases x <;> rfl
def owA(i:Nat)(s:SS):Option D:=match s[i]? with
 |some (some (.ow d))=>some d
 |_=>none
theorem z0m{np nl:Nat}{b:SS->Option Out}{ds:List D}{d:D}(hl:ds.length=np)(h:hol (b (ds.map (fun d=>some (.sh d))++aD nl none)) fun o=>o = .rt d):z1A np nl b ds=some d:=x0p hl (hol_is.mp h)
theorem z7c{np nl:Nat}{b:SS->Option Out}{ds:List D}(hl:ds.length=np)(h:hol (b (ds.map (fun d=>some (.sh d))++aD nl none)) fun o=>∃d,o = .rt d∧Q d):hol (z1A np nl b ds) Q:=by
 obtain⟨o,e,d,rfl,q⟩:=h
 exact⟨d,x0p hl e,q⟩
theorem y9m{i:Nat}{b:SS->Option Out}{ds:List D}{s:SS}(I:Nat->SS->Prop)(h0:I 0 s)(hs:∀n (h:n<ds.length) δ,I n δ->hol (b (δ.set i (some (.sh ds[n])))) fun o=>match o with | .nx δ'=>I (n+1) δ' | .ct δ'=>I (n+1) δ' | .bk δ'=>QO (.nx δ') | .rt d=>QO (.rt d) | .rb d δ'=>QO (.rb d δ') | .ex c δ'=>QO (.ex c δ'))(he:∀δ,I ds.length δ->QO (.nx δ)):hol (z9D i b ds s) QO:=by
 induction ds generalizing s I with
 |nil=>exact⟨_,rfl,he _ h0⟩
 |cons x r ih=>
  obtain⟨o,e,q⟩:=hs 0 (by simp) s h0
  have e:b (s.set i (some (.sh x)))=some o:=e
  have step:∀s1,I 1 s1->hol (z9D i b r s1) QO:=fun s1 h1=>ih (fun n=>I (n+1)) h1 (fun n hn δ hI=>by
   have:=hs (n+1) (by simpa using hn) δ hI
   simpa using this) fun δ hI=>he δ (by simpa using hI)
  unfold z9D
  rw[e]
  cases o with
  |nx s1=>exact step s1 q
  |ct s1=>exact step s1 q
  |bk s1=>exact⟨_,rfl,q⟩
  |rt d=>exact⟨_,rfl,q⟩
  |rb d s1=>exact⟨_,rfl,q⟩
  |ex c s1=>exact⟨_,rfl,q⟩
theorem y0k{i:Nat}{b:SS->Option Out}{lo:Int}{m:Nat}{s:SS}(I:Nat->SS->Prop)(h0:I 0 s)(hs:∀n,n<m->∀δ,I n δ->hol (b (δ.set i (some (.sh (.int (lo+(n:Int))))))) fun o=>match o with | .nx δ'=>I (n+1) δ' | .ct δ'=>I (n+1) δ' | .bk δ'=>QO (.nx δ') | .rt d=>QO (.rt d) | .rb d δ'=>QO (.rb d δ') | .ex c δ'=>QO (.ex c δ'))(he:∀δ,I m δ->QO (.nx δ)):hol (z9D i b (z9O lo m) s) QO:=by
 refine y9m I h0 (fun n hn δ hI=>?_) fun δ hI=>he δ (by simpa[z9O] using hI)
 have hn':n<m:=by simpa[z9O] using hn
 have:=hs n hn' δ hI
 simpa[z9O] using this
theorem z1a{α:Type}{enc:α->D}{i:Nat}{b:SS->Option Out}{xs:List α}{s:SS}(I:List α->SS->Prop)(h0:I [] s)(hs:∀pre x post,xs=pre++x::post->∀δ,I pre δ->hol (b (δ.set i (some (.sh (enc x))))) fun o=>match o with | .nx δ'=>I (pre++[x]) δ' | .ct δ'=>I (pre++[x]) δ' | .bk δ'=>QO (.nx δ') | .rt d=>QO (.rt d) | .rb d δ'=>QO (.rb d δ') | .ex c δ'=>QO (.ex c δ'))(he:∀δ,I xs δ->QO (.nx δ)):hol (z9D i b (xs.map enc) s) QO:=by
 refine y9m (fun n δ=>I (xs.take n) δ) (by simpa using h0) (fun n hn δ hI=>?_) fun δ hI=>he δ (by simpa using hI)
 have hn':n<xs.length:=by simpa using hn
 have e:xs=xs.take n++xs[n]::xs.drop (n+1):=by
  rw[←bn hn',cr]
 have:=hs (xs.take n) xs[n] _ e δ hI
 rw[←List.take_succ_eq_append_getElem hn']at this
 rw[List.getElem_map]
 exact this
end
def o2(F:D->D->Option D):Option D->Option D->Option D
 |some x,some y=>F x y
 |_,_=>none
def andO:Option D->Option D->Option D
 |some (.bl true),y=>y
 |some (.bl false),_=>some (.bl false)
 |_,_=>none
def andT:Option Bool->Option Bool->Option Bool
 |some true,y=>y
 |some false,_=>some false
 |_,_=>none
def orT:Option Bool->Option Bool->Option Bool
 |some true,_=>some true
 |some false,y=>y
 |_,_=>none
def iteO{α:Type}:Option Bool->Option α->Option α->Option α
 |some true,x,_=>x
 |some false,_,y=>y
 |_,_,_=>none
def consA:Option D->Option (List D)->Option (List D)
 |some x,some xs=>some (x::xs)
 |_,_=>none
def y5i:Option D->Option D
 |some d=>if d.imm=true then some d else none
 |none=>none
def z7d:Option (List D)->Option (List D)
 |some ds=>if z3b ds=true then some ds else none
 |none=>none
def y4k(x:Option Out)(b:SS->Option Out):Option Out:=match x with
 |some (.nx s)=>b s
 |o=>o
def rng1:Option D->Option (List D)
 |some (.int j)=>if -(2 ^ 62)≤j∧j<2 ^ 62 then some (z9O 0 j.toNat)else none
 |_=>none
def y2S(x:Option D)(lo hi:Option (Option Int)):Option (List D):=match x,lo,hi with
 |some (.lst ds),some l,some h=>some (z7s ds l h)
 |some (.scr ns),some l,some h=>some (z7s (ns.map .int) l h)
 |_,_,_=>none
def partO:Option D->Option (Option Int)
 |some (.int i)=>some (some i)
 |_=>none
def setO(mk:D->SD)(i:Nat)(x:Option D)(s:SS):Option Out:=match x with
 |some d=>some (.nx (s.set i (some (mk d))))
 |none=>none
def rtO:Option D->Option Out
 |some d=>some (.rt d)
 |none=>none
def forX(i:Nat)(ds:Option (List D))(b:SS->Option Out)(s:SS):Option Out:=match ds with
 |some ds=>z9D i b ds s
 |none=>none
def y1D(i:Nat)(x:Option D)(s:SS):Option Out:=match x with
 |some d=>some (.nx ((z0S i s).set i (some (.ow d))))
 |none=>none
def z2k(fc:DS->Option Bool)(fe:DE)(δ:DS):D->Option (Option D):=fun x=>(fc (δ++[some x])).bind fun k=>if k=true then(fe (δ++[some x])).map some else some none
def z2l(xs:Option (List D))(h:D->Option (Option D)):Option (List D):=match xs with
 |some xs=>if xs.length≤sizeLine then z1B h xs else none
 |none=>none
section
variable{f g h:DE}{δ:DS}{s:SS}{F:D->D->Option D}{c e:DS->Option Bool}{a b:SS->Option Out}{i:Nat}
theorem x2f{x:Option D}{r:DS}:z0d 0 (x::r)=x:=ho_var0
theorem x2e{x:Option D}{r:DS}:z0d (i+1) (x::r)=z0d i r:=(rfl)
theorem ev_C{d:D}:dC d δ=some d:=(rfl)
theorem ev_d2:d2 F f g δ=o2 F (f δ) (g δ):=by
 unfold d2 o2
 cases f δ <;> cases g δ <;> rfl
theorem ev_d1{G:D->Option D}:d1 G f δ=(f δ).bind G:=(rfl)
theorem x1S:z0F f δ=(f δ).bind asB:=by
 unfold z0F
 cases f δ with
 |none=>rfl
 |some d=>cases d <;> rfl
theorem y6a:z0z f δ=(f δ).bind z5V:=(rfl)
theorem y9p:z8W c e δ=andT (c δ) (e δ):=by
 unfold z8W
 rcases c δ with _ | _ | _ <;> rfl
theorem x5r:dOrT c e δ=orT (c δ) (e δ):=by
 unfold dOrT
 rcases c δ with _ | _ | _ <;> rfl
theorem y9F:z6m c δ=(c δ).map (!·):=(rfl)
theorem x4M:y9t f g δ=andO (f δ) (g δ):=by
 unfold y9t andO
 rcases f δ with _ | (_ | (_ | _) | _ | _ | _ | _ | _ | _) <;> rfl
theorem ev_if:dIf c f g δ=iteO (c δ) (f δ) (g δ):=by
 unfold dIf
 rcases c δ with _ | _ | _ <;> rfl
theorem y5q:z0n [] δ=some []:=(rfl)
theorem y6h{r:List DE}:z0n (f::r) δ=consA (f δ) (z0n r δ):=by
 show((f δ).bind fun x=>(z0n r δ).bind fun xs=>some (x::xs))=_
 cases f δ <;> cases z0n r δ <;> rfl
theorem y9r{M:List D->Option D}{fl:List DE}:z0j M fl δ=(z0n fl δ).bind M:=(rfl)
theorem y5v{M:List D->Option (List D)}{fl:List DE}:z2H M fl δ=(z0n fl δ).bind M:=(rfl)
theorem x5f{f:DS->Option (List D)}:mkL f δ=(f δ).map .lst:=(rfl)
theorem x4L{f:DS->Option (List D)}:mkT f δ=(f δ).map .tup:=(rfl)
theorem y2g{f:DS->Option (List D)}:z0J f δ=(z7d (f δ)).map .lst:=by
 unfold z0J z7d
 cases f δ with
 |none=>rfl
 |some ds=>
  show(if z3b ds=true then _ else _)=Option.map _ (if z3b ds=true then _ else _)
  split <;> rfl
theorem ev_is{T:String}:dIs T f δ=(f δ).map fun d=>.bl (isF T d):=(rfl)
theorem x4Q:z3W f δ=(f δ).bind y7w:=(rfl)
theorem x2k:z4a f δ=rng1 (f δ):=(rfl)
theorem y9U{fi:DS->Option (List D)}:z1v fi c f δ=z2l (fi δ) (z2k c f δ):=by
 unfold z1v z2l
 cases fi δ <;> rfl
theorem x1k:z3T f δ=partO (f δ):=(rfl)
theorem y1R:z1G δ=some none:=(rfl)
theorem x4D{fl fh:DS->Option (Option Int)}:y1E f fl fh δ=y2S (f δ) (fl δ) (fh δ):=by
 unfold y1E y2S
 rcases f δ with _ | (_ | _ | _ | _ | _ | _ | _ | _) <;> first | rfl | (cases fl δ <;> cases fh δ <;> rfl)
theorem y8U:z0G a b s=y4k (a s) b:=by
 unfold z0G y4k
 rcases a s with _ | (_ | _ | _ | _) <;> rfl
theorem y8y:z0P s=some (.nx s):=(rfl)
theorem y8K:z6B i f s=setO .sh i (f (shV s)) s:=by
 unfold z6B setO
 cases f (shV s) <;> rfl
theorem x1C:z9H i f s=setO .sh i (y5i (f (z0D s))) s:=by
 unfold z9H setO y5i
 cases f (z0D s)with
 |none=>rfl
 |some d=>
  show(if d.imm=true then _ else _)=(match (if d.imm=true then some d else none)with | some d=>some (Out.nx (s.set i (some (SD.sh d)))) | none=>none)
  split <;> rfl
theorem y8w:z7I i f s=setO .ow i (f (z0D s)) s:=by
 unfold z7I setO
 cases f (z0D s) <;> rfl
theorem x0x:z3z f s=rtO (y5i (f (z0D s))):=by
 unfold z3z rtO y5i
 cases f (z0D s)with
 |none=>rfl
 |some d=>
  show(if d.imm=true then _ else _)=(match (if d.imm=true then some d else none)with | some d=>some (Out.rt d) | none=>none)
  split <;> rfl
theorem x0I:z6d f s=rtO (f (z0D s)):=by
 unfold z6d rtO
 cases f (z0D s) <;> rfl
theorem y8X:z9n f s=rtO (f (shV s)):=by
 unfold z9n rtO
 cases f (shV s) <;> rfl
theorem x1Y:y8p i s=rtO (owA i s):=by
 unfold y8p rtO owA
 rcases s[i]? with _ | _ | ⟨x | x | ⟨r,x⟩⟩ <;> rfl
theorem x4A:ifO c a b s=iteO (c (z0D s)) (a s) (b s):=by
 unfold ifO
 rcases c (z0D s)with _ | _ | _ <;> rfl
theorem y9I{fi:DS->Option (List D)}:z6C i fi b s=forX i (fi (shV s)) b s:=by
 unfold z6C forX
 cases fi (shV s) <;> rfl
theorem x5B:frzO i b s=b (x2l i s):=(rfl)
theorem eo_2{x y:D}:o2 F (some x) (some y)=F x y:=(rfl)
theorem x4p{x y:Bool}:andO (some (.bl x)) (some (.bl y))=some (.bl (x&&y)):=by cases x <;> rfl
theorem x0G{y:Option D}:andO (some (.bl false)) y=some (.bl false):=(rfl)
theorem y8u{x y:Bool}:andT (some x) (some y)=some (x&&y):=by cases x <;> rfl
theorem x5F{x y:Bool}:orT (some x) (some y)=some (x||y):=by cases x <;> rfl
theorem y8v{y:Option Bool}:orT (some true) y=some true:=(rfl)
theorem y9e{α:Type}{x y:Option α}:iteO (some true) x y=x:=(rfl)
theorem y8N{α:Type}{x y:Option α}:iteO (some false) x y=y:=(rfl)
theorem y8M{x:D}{xs:List D}:consA (some x) (some xs)=some (x::xs):=(rfl)
theorem eo_nx:y4k (some (.nx s)) b=b s:=(rfl)
theorem eo_rt{d:D}:y4k (some (.rt d)) b=some (.rt d):=(rfl)
theorem x5E{mk:D->SD}{d:D}:setO mk i (some d) s=some (.nx (s.set i (some (mk d)))):=(rfl)
theorem x5e{d:D}:rtO (some d)=some (.rt d):=(rfl)
theorem x4J{ds:List D}:forX i (some ds) b s=z9D i b ds s:=(rfl)
theorem x0a{n:Int}:y5i (some (.int n))=some (.int n):=(rfl)
theorem x0D{n:Bool}:y5i (some (.bl n))=some (.bl n):=(rfl)
theorem x2i{x:Str}:y5i (some (.str x))=some (.str x):=(rfl)
theorem eo_imm{d:D}(h:d.imm=true):y5i (some d)=some d:=if_pos h
theorem z5N{ds:List D}(h:z3b ds=true):z7d (some ds)=some ds:=if_pos h
theorem y9h{n:Int}:partO (some (.int n))=some (some n):=(rfl)
theorem x0q{ns:List Int}{l h:Option Int}:y2S (some (.scr ns)) (some l) (some h)=some (z7s (ns.map .int) l h):=(rfl)
theorem x0l{n:Int}(h:-(2 ^ 62)≤n∧n<2 ^ 62):rng1 (some (.int n))=some (z9O 0 n.toNat):=if_pos h
theorem z4b{xs:List D}{k:D->Option (Option D)}(h:xs.length≤1000000):z2l (some xs) k=z1B k xs:=if_pos (z4P h)
section
variable{m n:Int}{p:Bool}{ds:List D}{ns:List Int}
theorem x5u:y6M (.int m) (.int n)=some (.int (m+n)):=(rfl)
theorem x5x:subI (.int m) (.int n)=some (.int (m - n)):=(rfl)
theorem ea_mul(h:CMul m n):mulI (.int m) (.int n)=some (.int (m*n)):=if_pos h
theorem x5a(h:CDiv m n):divI (.int m) (.int n)=some (.int (m / n)):=if_pos h
theorem z8q(h:0<n):y2c (.int m) (.int n)=some (.int (m % n)):=if_pos h
theorem ea_pow(h:CPow m n):powI (.int m) (.int n)=some (.int (m ^ n.toNat)):=if_pos h
theorem x3M:ltI (.int m) (.int n)=some (.bl (decide (m<n))):=(rfl)
theorem x3q:leI (.int m) (.int n)=some (.bl (decide (m≤n))):=(rfl)
theorem ea_gt:gtI (.int m) (.int n)=some (.bl (decide (n<m))):=(rfl)
theorem x5v:eqD (.int m) (.int n)=some (.bl (decide (m=n))):=(rfl)
theorem x4U:neD (.int m) (.int n)=some (.bl (!decide (m=n))):=(rfl)
theorem x4G:uNeg (.int m)=some (.int (-m)):=(rfl)
theorem x4H:uNot (.bl p)=some (.bl (!p)):=(rfl)
theorem x0H:z5V (.bl p)=some p:=(rfl)
theorem x1b:y7w (.lst ds)=some ds:=(rfl)
theorem y9S:z3V [.lst ds]=some (.int (ds.length:Int)):=(rfl)
theorem x1W:z3V [.scr ns]=some (.int (ns.length:Int)):=(rfl)
theorem x5D:ixD (.lst ds) (.int m)=atI ds m:=(rfl)
theorem x5k:ixD (.tup ds) (.int m)=atI ds m:=(rfl)
theorem x4q:ixD (.scr ns) (.int m)=(atI ns m).map .int:=(rfl)
theorem x0b:isF "bool" (.int m)=false:=(rfl)
theorem x0Z:isF "int" (.int m)=true:=(rfl)
theorem x4E:asB (.bl p)=some p:=(rfl)
end
theorem eb_bs{α β:Type}{a:α}{k:α->Option β}:(some a).bind k=k a:=(rfl)
theorem eb_ms{α β:Type}{a:α}{k:α->β}:(some a).map k=some (k a):=(rfl)
theorem eb_mn{α β:Type}{k:α->β}:(none:Option α).map k=none:=(rfl)
theorem eb_s0{α:Type}{x y:α}{r:List α}:(x::r).set 0 y=y::r:=(rfl)
theorem eb_sS{α:Type}{n:Nat}{x y:α}{r:List α}:(x::r).set (n+1) y=x::r.set n y:=(rfl)
theorem eb_mc{α β:Type}{x:α}{r:List α}{k:α->β}:(x::r).map k=k x::r.map k:=(rfl)
theorem y9a{α β:Type}{k:α->β}:([]:List α).map k=[]:=(rfl)
theorem eb_rS{α:Type}{n:Nat}{x:α}:aD (n+1) x=x::aD n x:=(rfl)
theorem eb_r0{α:Type}{x:α}:aD 0 x=[]:=(rfl)
theorem eb_ca{α:Type}{x:α}{r t:List α}:(x::r)++t=x::(r++t):=(rfl)
theorem eb_na{α:Type}{t:List α}:[]++t=t:=(rfl)
theorem x1i:z0D []=[]:=(rfl)
theorem x0T{x:Option SD}{r:SS}:z0D (x::r)=x.map SD.val::z0D r:=(rfl)
theorem x5C:shV []=[]:=(rfl)
theorem x4v{x:Option SD}{r:SS}:shV (x::r)=shO x::shV r:=(rfl)
theorem x5h{d:D}:shO (some (.sh d))=some d:=(rfl)
theorem y6X:z0S i []=[]:=(rfl)
theorem y6Z{x:Option SD}{r:SS}:z0S i (x::r)=y7N i x::z0S i r:=(rfl)
theorem y2w{d:D}:y7N i (some (.sh d))=some (.sh d):=(rfl)
theorem y2o{d:D}:y7N i (some (.ow d))=some (.ow d):=(rfl)
theorem x4S{d:D}{r:SS}:owA 0 (some (.ow d)::r)=some d:=(rfl)
theorem x5q{x:Option SD}{r:SS}:owA (i+1) (x::r)=owA i r:=(rfl)
end
def y5d:Option (List D)->Option (List D):=z7d
def st0V(o k v:Option D):Option D:=match o,k,v with
 |some (.lst ds),some (.int k),some d=>(ixN ds.length k).map fun j=>.lst (ds.set j d)
 |_,_,_=>none
def m0V(M:List D->List D->Option (List D))(o:Option D)(args:Option (List D)):Option D:=match o,args with
 |some (.lst ds),some args=>(M ds args).map .lst
 |_,_=>none
section
variable{f fk fv:DE}{s:SS}{i:Nat}{M:List D->List D->Option (List D)}{fl:List DE}
theorem x5p{d:D}:y1D i (some d) s=some (.nx ((z0S i s).set i (some (.ow d)))):=(rfl)
theorem z7Y{ds:List D}(h:z3b ds=true):y5d (some ds)=some ds:=if_pos h
def kI:D->Option Int
 |.int k=>some k
 |_=>none
def kL:D->Option (List D)
 |.lst ds=>some ds
 |_=>none
def kW:Option (Option SD)->Option D
 |some (some (.ow d))=>some d
 |_=>none
theorem owA_kW:owA i s=kW s[i]?:=by
 unfold owA kW
 generalize s[i]? = x
 rcases x with _ | _ | ⟨x | x | ⟨r,x⟩⟩ <;> rfl
theorem mt2{β:Type}{k:D}{x:Option (Option SD)}{F:Int->List D->Option β}:(match k,x with | .int k,some (some (.ow (.lst ds)))=>F k ds | _,_=>none)=(kI k).bind fun k=>((kW x).bind kL).bind fun ds=>F k ds:=by
 cases k with
 |int k=>rcases x with _ | _ | ⟨x | x | ⟨r,x⟩⟩ <;> first | rfl | (cases x <;> rfl)
 |_=>rfl
theorem st0V_k{o k v:Option D}:st0V o k v=(o.bind kL).bind fun ds=>(k.bind kI).bind fun k=>v.bind fun d=>(ixN ds.length k).map fun j=>.lst (ds.set j d):=by
 rcases o with _ | o
 ·rfl
 ·cases o with
  |lst ds=>
   rcases k with _ | k
   ·rfl
   ·cases k with
    |int k=>cases v <;> rfl
    |_=>rfl
  |_=>rfl
theorem putO_b{α:Type}{x:Option α}{F:α->Option D}:y1D i (x.bind F) s=x.bind fun a=>y1D i (F a) s:=by cases x <;> rfl
theorem y0V{α β:Type}{x:Option α}:(x.bind fun _=>(none:Option β))=none:=by cases x <;> rfl
theorem x5c:st0 i fk fv s=y1D i (st0V (owA i s) (fk (z0D s)) (y5i (fv (z0D s)))) s:=by
 have e:st0 i fk fv s=(fv (z0D s)).bind fun d=>if d.imm=true then(fk (z0D s)).bind fun dk=>(kI dk).bind fun k=>((kW s[i]?).bind kL).bind fun ds=>(ixN ds.length k).map fun j=>.nx ((z0S i s).set i (some (.ow (.lst (ds.set j d)))))else none:=by
  refine congrArg (Option.bind (fv (z0D s))) (funext fun d=>?_)
  refine congrArg (fun z=>if d.imm=true then z else none) ?_
  refine congrArg (Option.bind (fk (z0D s))) (funext fun dk=>?_)
  exact mt2 (F:=fun k ds=>(ixN ds.length k).map fun j=>Out.nx ((z0S i s).set i (some (.ow (.lst (ds.set j d))))))
 rw[e,st0V_k,owA_kW]
 simp only[putO_b]
 generalize (kW s[i]?).bind kL=x
 rcases fv (z0D s)with _ | d
 ·show none=x.bind fun ds=>((fk (z0D s)).bind kI).bind fun k=>(none:Option Out)
  simp only[y0V]
 ·show(if d.imm=true then(fk (z0D s)).bind fun dk=>_ else none)=x.bind fun ds=>((fk (z0D s)).bind kI).bind fun k=>(if d.imm=true then some d else none).bind fun d=>_
  split
  ·rcases fk (z0D s)with _ | k
   ·simp only[di,y0V]
   ·simp only[aA]
    cases kI k with
    |none=>simp only[di,y0V]
    |some k=>
     simp only[aA]
     cases x with
     |none=>rfl
     |some ds=>
      simp only[aA]
      cases ixN ds.length k <;> rfl
  ·simp only[di,y0V]
theorem ev_m0:m0 i M fl s=y1D i (m0V M (owA i s) (y5d (z0n fl (z0D s)))) s:=by
 unfold m0 owA
 rcases z0n fl (z0D s)with _ | args
 ·rcases s[i]? with _ | _ | ⟨x | x | ⟨r,x⟩⟩ <;> (first | rfl | (cases x <;> rfl))
 ·show(if z3b args=true then _ else _)=y1D i (m0V M _ (if z3b args=true then some args else none)) s
  split
  ·rcases s[i]? with _ | _ | ⟨x | x | ⟨r,x⟩⟩ <;> (first | rfl | (cases x <;> first | rfl | (rename_i ds;show Option.map _ (M ds args)=y1D i (Option.map _ (M ds args)) s;cases M ds args <;> rfl)))
  ·rcases s[i]? with _ | _ | ⟨x | x | ⟨r,x⟩⟩ <;> (first | rfl | (cases x <;> rfl))
theorem y6L:y8b i f s=y1D i (m0V y3z (owA i s) (consA (f (z0D s)) (some []))) s:=by
 unfold y8b owA
 rcases f (z0D s)with _ | d
 ·rcases s[i]? with _ | _ | ⟨x | x | ⟨r,x⟩⟩ <;> (first | rfl | (cases x <;> rfl))
 ·rcases s[i]? with _ | _ | ⟨x | x | ⟨r,x⟩⟩ <;> (first | rfl | (cases x <;> first | rfl | (rename_i ds;show Option.map _ (y3z ds [d])=y1D i (Option.map _ (y3z ds [d])) s;cases y3z ds [d] <;> rfl)))
end
theorem es_v1{d:D}:(SD.sh d).val=d:=(rfl)
theorem es_v2{d:D}:(SD.ow d).val=d:=(rfl)
theorem y6x{bs:List Bool}:allF [.lst (bs.map bD)]=some (.bl (bs.all fun b=>b)):=by
 show(y0H (bs.map bD)).map (fun bs=>D.bl (bs.all fun b=>b))=_
 rw[y3l]
 rfl
theorem z7Z:∀ns:List Int,z1O (ns.map D.int)=some ns
 |[]=>rfl
 |n::ns=>by
  show(z1O (ns.map D.int)).map (n :: ·)=_
  rw[z7Z ns]
  rfl
theorem x5A{ns:List Int}:sumF [.lst (ns.map .int)]=some (.int ns.sum):=by
 show(z1O (ns.map D.int)).map (fun ns=>D.int ns.sum)=_
 rw[z7Z]
 rfl
theorem x3b(ns:List Int)(lo hi:Option Int):∃cs:List Int,z7s (ns.map .int) lo hi=cs.map .int∧cs.length≤ns.length:=by
 refine⟨(ns.drop (HT.sIx ns.length 0 lo)).take (HT.sIx ns.length ns.length hi - HT.sIx ns.length 0 lo),?_,by simp;omega⟩
 unfold z7s
 rw[aq,b8,cS]
theorem pow_lit(n:Nat)(h:n≤1000):powI (.int 10) (.int (n:Int))=some (.int (10 ^ n)):=by
 rw[ea_pow (show CPow 10 (n:Int) from⟨by omega,by omega,by decide⟩),bV]
theorem z5I{T:List (List Bool)}:z3V [z0E T]=some (.int (T.length:Int)):=by
 show some (D.int ((T.map z9z).length:Nat))=_
 rw[aq]
theorem ix_tab{T:List (List Bool)}{k:Nat}(h:k<T.length):ixD (z0E T) (.int (k:Int))=some (z9z T[k]):=tab_ix h
theorem ix_row{r:List Bool}{k:Nat}(h:k<r.length):ixD (z9z r) (.int (k:Int))=some (.bl r[k]):=row_ix h
theorem ins_at{n b:Nat}(h:b≤n):y7e n (b:Int)=b:=by
 unfold y7e
 rw[if_neg (by omega),bV,cZ h]
theorem y8t{x:Int}{n:Nat}(h:0<n):∃a:Nat,x % (n:Int)=(a:Int)∧a<n:=by
 have h1:=Int.emod_nonneg x (show(n:Int)≠0 by omega)
 have h2:=Int.emod_lt_of_pos x (show(0:Int)<n by omega)
 exact⟨(x % (n:Int)).toNat,by omega,by omega⟩
theorem z8V{α:Type}{enc:α->D}{c:DS->Option Bool}{f:DE}{δ:DS}(p:α->Bool)(g:α->D):∀{xs:List α},(∀x∈xs,c (δ++[some (enc x)])=some (p x))->(∀x∈xs,p x=true->f (δ++[some (enc x)])=some (g x))->z1B (z2k c f δ) (xs.map enc)=some ((xs.filter p).map g)
 |[],_,_=>rfl
 |x::r,hc,hf=>by
  have ih:=z8V (xs:=r) p g (fun y hy=>hc y (ad _ hy)) fun y hy=>hf y (ad _ hy)
  rw[aF]
  unfold z1B
  rw[ih]
  unfold z2k
  rw[hc x ac]
  cases hp:p x with
  |true=>
   show((if true=true then(f (δ++[some (enc x)])).map some else some none).bind _)=_
   rw[if_pos rfl,hf x ac hp,cf hp]
   rfl
  |false=>
   rw[cg (by rw[hp];exact aj)]
   rfl
theorem z4X{α:Type}{enc:α->D}{f:DE}{δ:DS}(g:α->D){xs:List α}(hf:∀x∈xs,f (δ++[some (enc x)])=some (g x)):z1B (z2k z6h f δ) (xs.map enc)=some (xs.map g):=by
 rw[z8V (fun _=>true) g (fun _ _=>rfl) fun x hx _=>hf x hx,bZ.mpr fun _ _=>rfl]
def nD(n:Nat):D:=.int (n:Int)
theorem z5C{n:Nat}:z9O 0 n=(ag n).map nD:=by
 unfold z9O nD
 refine c9 fun k _=>?_
 rw[dF]
theorem x5y{α:Type}{xs:List α}{k:Nat}(h:k<xs.length):atI xs (k:Int)=some xs[k]:=z5x (ax h)
theorem ixN_of{n k:Nat}(h:k<n):ixN n (k:Int)=some k:=ixN_nat h
def z9f(o:List Int):D:=.tup (o.map .int)
def z2u(b:Int×List Int):D:=.tup [.int b.1,z9f b.2]
def z1P(bs:List (Int×List Int)):D:=.lst (bs.map z2u)
theorem y1c:∀o:List Int,z3b (o.map D.int)=true
 |[]=>rfl
 |n::o=>by
  show(true&&z3b (o.map D.int))=true
  rw[y1c o]
  rfl
theorem imm_ord(o:List Int):(z9f o).imm=true:=y1c o
theorem imm_bal(b:Int×List Int):(z2u b).imm=true:=by
 show(true&&((z9f b.2).imm&&true))=true
 rw[imm_ord]
 rfl
theorem z4N:∀bs:List (Int×List Int),z3b (bs.map z2u)=true
 |[]=>rfl
 |b::bs=>by
  show((z2u b).imm&&z3b (bs.map z2u))=true
  rw[imm_bal,z4N bs]
  rfl
theorem z8n{b:Int×List Int}:ixD (z2u b) (.int 0)=some (.int b.1):=(rfl)
theorem z5H{b:Int×List Int}:ixD (z2u b) (.int 1)=some (z9f b.2):=(rfl)
theorem z5M{bs:List (Int×List Int)}:y7w (z1P bs)=some (bs.map z2u):=(rfl)
theorem y9v{o:List Int}:y7w (z9f o)=some (o.map .int):=(rfl)
theorem x2c{o:List Int}:z3V [z9f o]=some (.int (o.length:Int)):=by
 show some (D.int ((o.map D.int).length:Nat))=_
 rw[aq]
theorem y6i:∀o:List Int,PyData.canLayAll0 (z9V (o.map D.int))=true
 |[]=>rfl
 |n::o=>by
  show(true&&PyData.canLayAll0 (z9V (o.map D.int)))=true
  rw[y6i o]
  rfl
theorem y5R:∀o:List Int,PyData.depthAll (z9V (o.map D.int))=0
 |[]=>rfl
 |n::o=>by
  show max 0 (PyData.depthAll (z9V (o.map D.int)))=0
  rw[y5R o]
  rfl
theorem z0w{x:Option Out}{b:SS->Option Out}{I:SS->Prop}{Q:Out->Prop}(h:hol x fun o=>∃s,o = .nx s∧I s)(k:∀s,I s->hol (b s) Q):hol (y4k x b) Q:=by
 obtain⟨o,rfl,s,rfl,q⟩:=h
 exact k s q
theorem y6l{bs:List (Int×List Int)}{b:Int×List Int}(hl:bs.length≤1000000):m0V y3z (some (z1P bs)) (some [z2u b])=some (z1P (bs++[b])):=by
 show Option.map _ (if(bs.map z2u).length<sizeLine then some (bs.map z2u++[z2u b])else none)=_
 rw[aq,if_pos (by rw[PySem.sizeLine_eq];omega)]
 unfold z1P
 rw[aS]
 rfl
def x2m(m:Nat):List Int:=(ag m).map fun k=>((k:Nat):Int)
structure Good(m:Nat)(b:Int×List Int):Prop where
 lo:1≤b.1
 hi:b.1≤10 ^ 30
 perm:b.2.Perm (x2m m)
theorem Good.mem{m:Nat}{b:Int×List Int}(h:Good m b){k:Nat}(hk:k<m):((k:Nat):Int)∈b.2:=h.perm.mem_iff.mpr (aN.mpr ⟨k,am.mpr hk,rfl⟩)
def plc(o:List Int)(a:Int):Nat:=o.findIdx fun n=>n==a
def ahd(o:List Int)(a b:Int):Bool:=decide (plc o a<plc o b)
theorem x3B{o:List Int}{a:Int}(h:a∈o):o.findIdx? (fun n=>n==a)=some (plc o a):=by
 unfold plc
 rw[List.findIdx?_eq_some_iff_findIdx_eq]
 exact⟨bH ⟨a,h,by simp⟩,rfl⟩
theorem z6K{o:List Int}{a:Int}(h:a∈o):tixF (z9f o) (.int a)=some (.int (plc o a:Int)):=by
 show(z1O (o.map D.int)).bind _=_
 rw[z7Z,aA,x3B h]
 rfl
theorem x5j{o:List Int}{a:Int}(h:a∈o):plc o a<o.length:=bH ⟨a,h,by simp⟩
theorem y9N{o:List Int}{a:Int}(h:a∈o):o[plc o a]'(x5j h)=a:=by
 have:=eS (p:=fun n=>n==a) (xs:=o) (w:=x5j h)
 exact eq_of_beq this
theorem plc_ne{o:List Int}{a b:Int}(ha:a∈o)(hb:b∈o)(h:a≠b):plc o a≠plc o b:=fun e=>h (by
 have h1:=y9N ha
 have h2:=y9N hb
 rw[←h1,←h2]
 congr 1)
theorem y4f{o:List Int}{a b:Int}(ha:a∈o)(hb:b∈o)(h:a≠b):ahd o b a = !ahd o a b:=by
 have:=plc_ne ha hb h
 unfold ahd
 rw[←decide_not]
 congr 1
 rw[eq_iff_iff]
 omega
def z2g(bs:List (Int×List Int))(a b:Int):Int:=(bs.map fun x=>if ahd x.2 a b=true then x.1 else -x.1).sum
def z3U(bs:List (Int×List Int)):Int:=(bs.map (·.1)).sum
theorem y8A{a b:Int}(hab:a≠b):∀bs:List (Int×List Int),(∀x∈bs,a∈x.2∧b∈x.2)->z3U (bs.filter fun x=>ahd x.2 a b) - z3U (bs.filter fun x=>ahd x.2 b a)=z2g bs a b
 |[],_=>rfl
 |x::bs,h=>by
  have ih:=y8A hab bs fun y hy=>h y (ad _ hy)
  obtain⟨ha,hb⟩:=h x ac
  have hn:=y4f ha hb hab
  unfold z3U z2g at *
  rw[aF,cE,←ih]
  cases hp:ahd x.2 a b with
  |true=>
   rw[hp]at hn
   rw[cf (by simpa using hp),cg (by rw[hn];decide)]
   simp
   omega
  |false=>
   rw[hp]at hn
   rw[cg (by rw[hp];decide),cf (by rw[hn];decide)]
   simp
   omega
theorem y3T{a b:Int}:∀bs:List (Int×List Int),z2g bs a b % 2=z3U bs % 2
 |[]=>rfl
 |x::bs=>by
  have ih:=y3T (a:=a) (b:=b) bs
  unfold z2g z3U at *
  rw[aF,aF,cE,cE]
  split <;> omega
theorem y6V{a b:Int}(hab:a≠b):∀bs:List (Int×List Int),(∀x∈bs,a∈x.2∧b∈x.2)->z2g bs a b+z2g bs b a=0
 |[],_=>rfl
 |x::bs,h=>by
  have ih:=y6V hab bs fun y hy=>h y (ad _ hy)
  obtain⟨ha,hb⟩:=h x ac
  have hn:=y4f ha hb hab
  unfold z2g at *
  rw[aF,aF,cE,cE,hn]
  cases ahd x.2 a b <;> simp <;> omega
def at2(T:List (List Bool))(i j:Nat):Bool:=(T.getD i []).getD j false
def thD(th:List Nat):D:=.lst (th.map nD)
theorem x1H{T:List (List Bool)}{i:Nat}(h:i<T.length):ixD (z0E T) (.int (i:Int))=some (z9z (T.getD i [])):=by
 rw[ix_tab h]
 simp[cV,ax h]
theorem ix_row'{r:List Bool}{j:Nat}(h:j<r.length):ixD (z9z r) (.int (j:Int))=some (.bl (r.getD j false)):=by
 rw[ix_row h]
 simp[cV,ax h]
theorem Sq.len{n:Nat}{T:List (List Bool)}(h:Sq n T){i:Nat}(hi:i<n):(T.getD i []).length=n:=by
 have h1:i<T.length:=by rw[h.1];exact hi
 have:T.getD i []=T[i]:=by simp[cV,ax h1]
 rw[this]
 exact h.row h1
theorem ix2{n:Nat}{T:List (List Bool)}(h:Sq n T){i j:Nat}(hi:i<n)(hj:j<n):o2 ixD (ixD (z0E T) (.int (i:Int))) (some (.int (j:Int)))=some (.bl (at2 T i j)):=by
 rw[x1H (by rw[h.1];exact hi),eo_2,ix_row' (by rw[h.len hi];exact hj)]
 rfl
def y3E(th:List Nat)(f:Nat->Nat->Bool):List (List Bool):=th.map fun i=>th.map fun j=>f i j
theorem y6u{α β:Type}{f:α->β}{xs:List α}{i:Nat}{d:β}(h:i<xs.length):(xs.map f).getD i d=f xs[i]:=by
 simp[cV,h]
theorem sq_grid{th:List Nat}{f:Nat->Nat->Bool}:Sq th.length (y3E th f):=by
 refine⟨by simp[y3E],fun r hr=>?_⟩
 obtain⟨i,_,rfl⟩:=aN.mp hr
 simp
theorem x1j{n:Nat}{f:Nat->Nat->Bool}{i j:Nat}(hi:i<n)(hj:j<n):at2 (y3E (ag n) f) i j=f i j:=by
 unfold at2 y3E
 rw[y6u (by simpa using hi),y6u (by simpa using hj)]
 simp
theorem z2T{th:List Nat}:y7w (thD th)=some (th.map nD):=(rfl)
theorem z3S{th:List Nat}:z3V [thD th]=some (.int (th.length:Int)):=by
 show some (D.int ((th.map nD).length:Nat))=_
 rw[aq]
theorem y2f:∀th:List Nat,z3b (th.map nD)=true
 |[]=>rfl
 |n::th=>by
  show(true&&z3b (th.map nD))=true
  rw[y2f th]
  rfl
theorem okP_th(th:List Nat):okP (thD th)=true:=by
 have e:th.map nD=(th.map fun n=>((n:Nat):Int)).map D.int:=by rw[aV];rfl
 unfold okP thD
 rw[e,aM,decide_eq_true_eq]
 refine⟨y6i _,?_⟩
 show PyData.depthAll (z9V ((th.map fun n=>((n:Nat):Int)).map D.int))+1≤60
 rw[y5R]
 decide
theorem ne_self{d:D}(h:okP d=true):neD d d=some (.bl false):=by
 unfold neD
 rw[h]
 show(if(true&&true)=true then some (D.bl (!PyData.eqv (toP d) (toP d)))else none)=_
 rw[if_pos (show(true&&true)=true from rfl),SeqAt.eqv_refl _ (z0x h).1]
 rfl
theorem app_thV{th:List Nat}{k:Nat}(hl:th.length≤1000000):m0V y3z (some (thD th)) (some [.int (k:Int)])=some (thD (th++[k])):=by
 show Option.map _ (if(th.map nD).length<sizeLine then some (th.map nD++[.int (k:Int)])else none)=_
 rw[aq,if_pos (by rw[PySem.sizeLine_eq];omega)]
 unfold thD
 rw[aS]
 rfl
theorem y9s{o:List Nat}{b v:Nat}(hb:b≤o.length)(hl:o.length≤1000000):m0V insF (some (thD o)) (some [.int (b:Int),.int (v:Int)])=some (thD (o.take b++v::o.drop b)):=by
 show Option.map _ (if(o.map nD).length<sizeLine∧-(2 ^ 63)≤(b:Int)∧(b:Int)<2 ^ 63 then _ else none)=_
 rw[aq,if_pos ⟨by rw[PySem.sizeLine_eq];omega,by omega,by omega⟩,ins_at hb]
 unfold thD
 rw[aS,aF,b8,cS]
 rfl
theorem x2A{o:List Nat}{k:Nat}(hk:1+k≤o.length):y2S (some (thD o)) (some none) (some (some (1+(k:Int))))=some ((o.take (1+k)).map nD):=by
 show some (z7s (o.map nD) none (some (1+(k:Int))))=_
 unfold z7s
 have e1:HT.sIx (o.map nD).length 0 none=0:=rfl
 have e2:HT.sIx (o.map nD).length (o.map nD).length (some (1+(k:Int)))=1+k:=by
  rw[aq]
  show(if(1+(k:Int))<0 then((1+(k:Int))+(o.length:Int)).toNat else min (1+(k:Int)).toNat o.length)=1+k
  rw[if_neg (by omega)]
  omega
 rw[e1,e2,dW,eG,b8]
theorem y6e{fi:DS->Option (List D)}{c:DS->Option Bool}{f:DE}{δ:DS}:z7z fi c f δ=z2l (fi δ) (two (z4c c f δ)):=by
 unfold z7z z2l
 cases fi δ <;> rfl
theorem x0P{f:DE}{δ:DS}:y4r f δ=(f δ).bind y4T:=(rfl)
def z5f(k:Nat):List Bool->List Nat
 |[]=>[]
 |b::r=>if b=true then k::z5f (k+1) r else z5f (k+1) r
theorem x0i:∀{r:List Bool} {k:Nat},z5f k r=(cc k r.length).filter fun i=>r.getD (i - k) false
 |[],_=>rfl
 |b::r,k=>by
  have ih:=x0i (r:=r) (k:=k+1)
  unfold z5f
  rw[aZ,List.range'_succ]
  have e:(cc (k+1) r.length).filter (fun i=>(b::r).getD (i - k) false)=(cc (k+1) r.length).filter fun i=>r.getD (i - (k+1)) false:=by
   apply cR
   intro i hi
   have:=(List.mem_range'_1.mp hi).1
   have e:i - k=(i - (k+1))+1:=by omega
   rw[e]
   rfl
  cases b with
  |true=>
   rw[cf (by simp),e,ih]
   rfl
  |false=>
   rw[cg (by simp),e,ih]
   rfl
theorem z8G:∀{ds:List D} {k:Nat},(z0t k ds).length=ds.length
 |[],_=>rfl
 |d::r,k=>by show(z0t (k+1) r).length+1=r.length+1;rw[z8G]
def chO(F G:D->D->Option D)(x y z:Option D):Option D:=match x,y with
 |some x,some y=>match F x y with
  |some (.bl true)=>z.bind fun z=>G y z
  |some (.bl false)=>some (.bl false)
  |_=>none
 |_,_=>none
theorem y6j{F G:D->D->Option D}{f g h:DE}{δ:DS}:z9R F G f g h δ=chO F G (f δ) (g δ) (h δ):=by
 unfold z9R chO
 cases f δ <;> cases g δ <;> rfl
theorem y6U{F G:D->D->Option D}{x y z:D}{b c:Bool}(h1:F x y=some (.bl b))(h2:G y z=some (.bl c)):chO F G (some x) (some y) (some z)=some (.bl (b&&c)):=by
 show(match F x y with
  |some (.bl true)=>(some z).bind fun z=>G y z
  |some (.bl false)=>some (.bl false)
  |_=>none)=_
 rw[h1]
 cases b with
 |true=>exact h2
 |false=>rfl
def inO:Option D->Option D->Option Bool
 |some x,some y=>inK x y
 |_,_=>none
theorem x0O{f g:DE}{δ:DS}:x2n f g δ=inO (f δ) (g δ):=by
 unfold x2n inO
 cases f δ <;> cases g δ <;> rfl
theorem eo_in{x y:D}:inO (some x) (some y)=inK x y:=(rfl)
theorem x1X{f g:DE}{δ:DS}:x4k f g δ=(x2n f g δ).map (!·):=(rfl)
def y8O(o k v:Option D):Option D:=match o,k,v with
 |some (.dct ks ds),some dk,some d=>(y5m dk).bind fun k=>if z3b ds=true∧ks.length<sizeLine then some (.dct (y2Y ks k) (y3a ks ds k d))else none
 |_,_,_=>none
theorem kU{i:Nat}{s:SS}{dk d:D}{ks:List Key}{ds:List D}:(match y5m dk,(some (some (SD.ow (.dct ks ds))):Option (Option SD))with
   |some k,some (some (.ow (.dct ks ds)))=>if z3b ds=true∧ks.length<sizeLine then some (Out.nx ((z0S i s).set i (some (.ow (.dct (y2Y ks k) (y3a ks ds k d))))))else none
   |_,_=>none)=y1D i (y8O (some (.dct ks ds)) (some dk) (some d)) s:=by
 show _=y1D i ((y5m dk).bind _) s
 cases y5m dk with
 |none=>rfl
 |some k=>
  show(if z3b ds=true∧ks.length<sizeLine then _ else _)=y1D i (if z3b ds=true∧ks.length<sizeLine then _ else _) s
  split <;> rfl
theorem x1P{i:Nat}{fk fv:DE}{s:SS}:dput i fk fv s=y1D i (y8O (owA i s) (fk (z0D s)) (y5i (fv (z0D s)))) s:=by
 unfold dput owA
 rcases fv (z0D s)with _ | d
 ·rcases fk (z0D s)with _ | dk <;> rcases s[i]? with _ | _ | ⟨x | x | ⟨r,x⟩⟩ <;> (first | rfl | (cases x <;> rfl))
 ·show(if d.imm=true then _ else _)=y1D i (y8O _ _ (if d.imm=true then some d else none)) s
  split
  ·rcases fk (z0D s)with _ | dk
   ·rcases s[i]? with _ | _ | ⟨x | x | ⟨r,x⟩⟩ <;> (first | rfl | (cases x <;> rfl))
   ·rw[aA]
    rcases s[i]? with _ | _ | ⟨x | x | ⟨r,x⟩⟩
    ·cases y5m dk <;> rfl
    ·cases y5m dk <;> rfl
    ·cases y5m dk <;> rfl
    ·cases x with
     |dct ks ds=>exact kU
     |_=>(cases y5m dk <;> rfl)
    ·cases y5m dk <;> rfl
  ·rcases fk (z0D s)with _ | dk <;> rcases s[i]? with _ | _ | ⟨x | x | ⟨r,x⟩⟩ <;> (first | rfl | (cases x <;> rfl))
def exO(x:Option D)(s:SS):Option Out:=match x with
 |some _=>some (.nx s)
 |none=>none
theorem y6W{f:DE}{s:SS}:y7U f s=exO (f (z0D s)) s:=by
 unfold y7U exO
 cases f (z0D s) <;> rfl
theorem eo_ex{d:D}{s:SS}:exO (some d) s=some (.nx s):=(rfl)
def catO:Option D->Option D->Option (List D)
 |some x,some y=>catLs x y
 |_,_=>none
theorem x4V{f g:DE}{δ:DS}:y7B f g δ=catO (f δ) (g δ):=by
 unfold y7B catO
 cases f δ <;> cases g δ <;> rfl
theorem eo_cat{ds es:List D}(h:ds.length+es.length≤1000000):catO (some (.lst ds)) (some (.lst es))=some (ds++es):=if_pos (z4P h)
theorem y9g{d:D}{r:SS}:x2l 0 (some (.ow d)::r)=some (.sh d)::r:=(rfl)
theorem x1A{i:Nat}{x:Option SD}{r:SS}:x2l (i+1) (x::r)=x::x2l i r:=by
 unfold x2l
 rw[el]
 rcases r[i]? with _ | _ | ⟨y | y | ⟨q,y⟩⟩ <;> rfl
def z8u(p:List Int):D:=.dct (p.map Sum.inl) (p.map fun _=>.bl true)
theorem y9E{p:List Int}{x:Int}(h:x∉p):inK (.int x) (z8u p)=some false:=by
 show some (y3m (p.map Sum.inl) (.inl x))=_
 congr 1
 unfold y3m
 rw[cN,dv]
 intro y hy z
 have:(Sum.inl y:Key)=Sum.inl x:=of_decide_eq_true z
 cases this
 exact h hy
theorem y2A:∀p:List Int,z3b (p.map fun _=>D.bl true)=true
 |[]=>rfl
 |_::p=>by
  show(true&&z3b (p.map fun _=>D.bl true))=true
  rw[y2A p]
  rfl
theorem y6R{p:List Int}{x:Int}(h:x∉p)(hl:p.length≤1000000):y8O (some (z8u p)) (some (.int x)) (some (.bl true))=some (z8u (p++[x])):=by
 show(if z3b (p.map fun _=>D.bl true)=true∧(p.map (Sum.inl:Int->Key)).length<sizeLine then _ else _)=_
 rw[if_pos ⟨y2A p,by rw[aq,PySem.sizeLine_eq];omega⟩]
 have hh:y3m (p.map Sum.inl) (.inl x)=false:=by
  have:=y9E h
  exact Option.some.inj this
 unfold y2Y y3a z8u
 rw[hh,if_neg aj,if_neg aj,aS,aS]
 rfl
def z6l(m:Nat)(bs:List (Int×List Int)):List (List Bool):=y3E (ag m) fun i j=>!decide (i=j)&&decide (0<z2g bs i j)
theorem x3T{m:Nat}{x:Int}(h:x∈x2m m):0≤x∧x<(m:Int):=by
 obtain⟨k,hk,rfl⟩:=aN.mp h
 have:=am.mp hk
 omega
theorem y7H{m:Nat}:(x2m m).Nodup:=by
 unfold x2m
 rw[dS,bw]
 refine List.Pairwise.imp ?_ (dS.mp bK)
 intro a b h z
 exact h (by omega)
theorem Good.len{m:Nat}{b:Int×List Int}(h:Good m b):b.2.length=m:=by
 have:=h.perm.length_eq
 simpa[x2m] using this
end L2
namespace Prg
open PySem L2
def extV(o x:Option D):Option D:=match x,o with
 |some (.lst es),some (.lst ds)=>if ds.length+es.length≤sizeLine then some (.lst (ds++es))else none
 |_,_=>none
theorem y6G{i:Nat}{f:DE}{s:SS}:x0d i f s=y1D i (extV (owA i s) (f (z0D s))) s:=by
 unfold x0d owA
 rcases f (z0D s)with _ | d
 ·rcases s[i]? with _ | _ | ⟨x | x | ⟨r,x⟩⟩ <;> (first | rfl | (cases x <;> rfl))
 ·rcases s[i]? with _ | _ | ⟨x | x | ⟨r,x⟩⟩ <;> cases d <;> (first | rfl | (cases x <;> first | rfl | skip))
  rename_i es ds
  show(if ds.length+es.length≤sizeLine then some _ else none)=y1D i (if ds.length+es.length≤sizeLine then some _ else none) s
  split <;> rfl
theorem eo_ext{ds es:List D}(h:ds.length+es.length≤1000000):extV (some (.lst ds)) (some (.lst es))=some (.lst (ds++es)):=if_pos (z4P h)
theorem y9f{f:DE}{δ:DS}:y8T f δ=(f δ).map fun d=>!isN d:=(rfl)
theorem y4Q{ds:List D}:revF [.lst ds]=some ds.reverse:=(rfl)
theorem y5w:∀ns:List Int,z1O (ns.map .int)=some ns
 |[]=>rfl
 |n::ns=>by
  rw[aF]
  unfold z1O
  rw[y5w ns]
  rfl
def sm(f:Nat->Nat):Nat->Nat
 |0=>0
 |n+1=>sm f n+f n
end Prg
namespace L2
open PySem
theorem y1z{α:Type}{enc:α->D}{c:DS->Option Bool}{f:DE}{δ:DS}(p:α->Bool)(g:α->D){xs:List α}(hl:xs.length≤1000)(hc:∀x∈xs,c (δ++[some (enc x)])=some (p x))(hf:∀x∈xs,p x=true->f (δ++[some (enc x)])=some (g x)):z2l (some (xs.map enc)) (z2k c f δ)=some ((xs.filter p).map g):=by
 rw[z4b (by rw[aq];omega)]
 exact z8V p g hc hf
theorem z5h{α:Type}{enc:α->D}{f:DE}{δ:DS}(g:α->D){xs:List α}(hl:xs.length≤1000)(hf:∀x∈xs,f (δ++[some (enc x)])=some (g x)):z2l (some (xs.map enc)) (z2k z6h f δ)=some (xs.map g):=by
 rw[z4b (by rw[aq];omega)]
 exact z4X g hf
theorem z2r{m:Nat}(h:m≤1000000):rng1 (some (.int (m:Int)))=some (z9O 0 m):=by rw[x0l (by omega)];rfl
theorem x0W{a:Nat}{th:List Nat}:y9H (.int (a:Int)) (thD th)=some (th.contains a):=by
 unfold thD y9H
 show(if(okP (.int (a:Int))&&okP (.lst (th.map nD)))=true then _ else none)=_
 rw[show okP (.lst (th.map nD))=true from okP_th th,show okP (.int (a:Int))=true from rfl]
 show some ((th.map nD).any fun y=>PyData.eqv (toP y) (toP (.int (a:Int))))=_
 congr 1
 rw[cN,b9]
 congr 1
 funext x
 show decide ((x:Int)=(a:Int))=(a==x)
 by_cases h:x=a
 ·subst h;simp
 ·have:¬ a=x:=fun e=>h e.symm
  have h2:¬ (x:Int)=(a:Int):=by omega
  simp[this,h2]
theorem x4K{a:Nat}{th:List Nat}:inD (.int (a:Int)) (thD th)=some (.bl (th.contains a)):=by
 unfold inD
 rw[x0W]
 rfl
theorem z5o{a:Nat}{th:List Nat}:y3B (.int (a:Int)) (thD th)=some (.bl (!th.contains a)):=by
 unfold y3B
 rw[x0W]
 rfl
theorem ix0{c:Nat}{r:List Nat}:ixD (thD (c::r)) (.int 0)=some (.int (c:Int)):=x5y (k:=0) (xs:=(c::r).map nD) (by simp)
theorem tru_th{th:List Nat}:z5V (thD th)=some (!th.isEmpty):=by cases th <;> rfl
theorem y6P{α:Type}{enc:α->D}{c:DS->Option Bool}{f:DE}{δ:DS}(p:Nat->α->Bool)(g:Nat->α->D):∀{xs:List α} {k:Nat},(∀i (h:i<xs.length),c (δ++[some (.int ((k+i:Nat):Int)),some (enc xs[i])])=some (p (k+i) xs[i]))->(∀i (h:i<xs.length),p (k+i) xs[i]=true->f (δ++[some (.int ((k+i:Nat):Int)),some (enc xs[i])])=some (g (k+i) xs[i])) →
  z1B (two (z4c c f δ)) (z0t k (xs.map enc))=some (((xs.zipIdx k).filter fun z=>p z.2 z.1).map fun z=>g z.2 z.1)
 |[],_,_,_=>rfl
 |x::r,k,hc,hf=>by
  have ih:=y6P (xs:=r) (k:=k+1) p g (fun i h=>by
   have:=hc (i+1) (by simpa using h)
   have e:k+1+i=k+(i+1):=by omega
   rw[e]
   simpa using this) fun i h hp=>by
   have e:k+1+i=k+(i+1):=by omega
   rw[e]at hp ⊢
   have:=hf (i+1) (by simpa using h) (by simpa using hp)
   simpa using this
  show z1B _ (.tup [.int (k:Nat),enc x]::z0t (k+1) (r.map enc))=_
  unfold z1B
  rw[ih]
  have h0:=hc 0 (by simp)
  have h1:=hf 0 (by simp)
  simp only[Nat.add_zero,List.getElem_cons_zero]at h0 h1
  have e:two (z4c c f δ) (.tup [.int (k:Nat),enc x])=some (if p k x=true then some (g k x)else none):=by
   show z4c c f δ (.int (k:Nat)) (enc x)=_
   unfold z4c
   rw[h0]
   cases hp:p k x with
   |true=>
    have:=h1 hp
    show(if true=true then(f (δ++[some (.int (k:Nat)),some (enc x)])).map some else some none)=_
    rw[if_pos rfl,this]
    rfl
   |false=>rfl
  rw[e,List.zipIdx_cons,bu]
  show some (x2u _ _)=_
  cases hp:p k x with
  |true=>rfl
  |false=>rfl
theorem x5w{α:Type}{enc:α->D}{c:DS->Option Bool}{f:DE}{δ:DS}(p:Nat->α->Bool)(g:Nat->α->D){xs:List α}(hl:xs.length≤1000)(hc:∀i (h:i<xs.length),c (δ++[some (.int (i:Int)),some (enc xs[i])])=some (p i xs[i]))(hf:∀i (h:i<xs.length),p i xs[i]=true->f (δ++[some (.int (i:Int)),some (enc xs[i])])=some (g i xs[i])):
  z2l (some (z0t 0 (xs.map enc))) (two (z4c c f δ))=some ((xs.zipIdx.filter fun z=>p z.2 z.1).map fun z=>g z.2 z.1):=by
 rw[z4b (by rw[z8G,aq];omega)]
 refine y6P p g (fun i h=>?_) fun i h hp=>?_
 ·rw[Nat.zero_add];exact hc i h
 ·rw[Nat.zero_add]at hp ⊢;exact hf i h hp
theorem cx2_all{α:Type}{enc:α->D}{f:DE}{δ:DS}(g:Nat->α->D){xs:List α}(hl:xs.length≤1000)(hf:∀i (h:i<xs.length),f (δ++[some (.int (i:Int)),some (enc xs[i])])=some (g i xs[i])):
  z2l (some (z0t 0 (xs.map enc))) (two (z4c z6h f δ))=some (xs.zipIdx.map fun z=>g z.2 z.1):=by
 rw[x5w (fun _ _=>true) g hl (fun _ _=>rfl) fun i h _=>hf i h,bZ.mpr fun _ _=>rfl]
theorem x2a{th:List Nat}:y4T (thD th)=some (z0t 0 (th.map nD)):=(rfl)
theorem y1d{o:List Nat}{k:Nat}:y2S (some (thD o)) (some (some ((k:Int)+1))) (some none)=some ((o.drop (k+1)).map nD):=by
 show some (z7s (o.map nD) (some ((k:Int)+1)) none)=_
 unfold z7s
 have e1:HT.sIx (o.map nD).length (o.map nD).length none=(o.map nD).length:=rfl
 have e2:HT.sIx (o.map nD).length 0 (some ((k:Int)+1))=min (k+1) (o.map nD).length:=by
  show(if((k:Int)+1)<0 then(((k:Int)+1)+((o.map nD).length:Int)).toNat else min ((k:Int)+1).toNat (o.map nD).length)=_
  rw[if_neg (by omega)]
  congr 1
 rw[e1,e2,cS]
 congr 1
 by_cases h:k+1≤(o.map nD).length
 ·rw[cZ h,bA (by simp)]
 ·rw[dI (by omega),bO (as:=o.map nD) (ao _),ee,bO (by omega)]
theorem z5j{a b:List Nat}(h:a.length+b.length≤1000000):catO (some (thD a)) (some (thD b))=some ((a++b).map nD):=by
 show catO (some (.lst (a.map nD))) (some (.lst (b.map nD)))=_
 rw[eo_cat (by rw[aq,aq];exact h),aS]
theorem y0b(o:List Nat):D.lst (o.map nD)=thD o:=(rfl)
theorem th_one{j:Nat}:D.lst [.int (j:Int)]=thD [j]:=(rfl)
theorem z2A(o:List Nat):z7d (some (o.map nD))=some (o.map nD):=z5N (y2f o)
theorem z2p:z7d (some [])=some []:=(rfl)
theorem x1e:D.lst []=thD []:=(rfl)
def movX(x:Option D)(i j:Nat)(s:SS):Option Out:=match x with
 |some d=>some (.nx (((z0S j s).set j none).set i (some (.ow d))))
 |none=>none
theorem x4w{i j:Nat}{s:SS}:movO i j s=movX (owA j s) i j s:=by
 unfold movO owA movX
 generalize s[j]? = z
 rcases z with _ | _ | x
 ·rfl
 ·rfl
 ·cases x <;> rfl
theorem x4T{d:D}{i j:Nat}{s:SS}:movX (some d) i j s=some (.nx (((z0S j s).set j none).set i (some (.ow d)))):=(rfl)
theorem z4f{c:DS->Option Bool}{b:SS->Option Out}{QO:Out->Prop}(I:Nat->SS->Prop):∀{n:Nat} {s:SS},I n s->(∀n δ,I n δ->∃k,c (z0D δ)=some k∧(k=false->QO (.nx δ))∧(k=true->∃n',n=n'+1∧hol (b δ) fun o=>match o with | .nx δ'=>I n' δ' | .ct δ'=>I n' δ' | .bk δ'=>QO (.nx δ') | .rt d=>QO (.rt d) | .rb d δ'=>QO (.rb d δ') | .ex e δ'=>QO (.ex e δ')))->∀{f:Nat},n<f->hol (z4d c b f s) QO
 |n,s,h0,hs,0,hf=>absurd hf (by omega)
 |n,s,h0,hs,f+1,hf=>by
  obtain⟨k,ec,h1,h2⟩:=hs n s h0
  unfold z4d
  rw[ec]
  cases k with
  |false=>exact⟨_,rfl,h1 rfl⟩
  |true=>
   obtain⟨n',rfl,o,eb,q⟩:=h2 rfl
   show hol ((b s).bind _) QO
   rw[eb]
   cases o with
   |nx s1=>exact z4f I q hs (by omega)
   |ct s1=>exact z4f I q hs (by omega)
   |bk s1=>exact⟨_,rfl,q⟩
   |rt d=>exact⟨_,rfl,q⟩
   |rb d s1=>exact⟨_,rfl,q⟩
   |ex e s1=>exact⟨_,rfl,q⟩
theorem tru_nil:z5V (thD [])=some false:=(rfl)
theorem x0f{f:DE}{δ:DS}:y8n f δ=(f δ).bind revS:=(rfl)
theorem y4K{th:List Nat}:revS (thD th)=some (th.reverse.map nD):=by
 show some (th.map nD).reverse=_
 rw[List.map_reverse]
theorem y5z{th:List Nat}(h:th≠[]):ixD (thD th) (.int (-1))=some (.int ((th.getLast h:Nat):Int)):=by
 have hl:0<th.length:=cL.mpr h
 show atI (th.map nD) (-1)=_
 unfold atI
 have e:ixN (th.map nD).length (-1)=some (th.length - 1):=by
  rw[aq]
  unfold ixN
  simp
  omega
 rw[e,List.getLast_eq_getElem]
 show(th.map nD)[th.length - 1]? = _
 rw[ax (by simp;omega),List.getElem_map]
 rfl
theorem y5Z{o:List Nat}:y2S (some (thD o)) (some (some 1)) (some none)=some ((o.drop 1).map nD):=y1d (k:=0)
theorem x3Y{o:List Nat}:y2S (some (thD o)) (some none) (some (some (-1)))=some (o.dropLast.map nD):=by
 show some (z7s (o.map nD) none (some (-1)))=_
 unfold z7s
 have e1:HT.sIx (o.map nD).length 0 none=0:=rfl
 have e2:HT.sIx (o.map nD).length (o.map nD).length (some (-1))=o.length - 1:=by
  rw[aq]
  show(if(-1:Int)<0 then((-1:Int)+(o.length:Int)).toNat else min (-1:Int).toNat o.length)=_
  rw[if_pos (by decide)]
  omega
 rw[e1,e2,dW,eG,List.dropLast_eq_take,b8]
theorem y1Z{o:List Nat}{k:Nat}:y2S (some (thD o)) (some (some (k:Int))) (some none)=some ((o.drop k).map nD):=by
 show some (z7s (o.map nD) (some (k:Int)) none)=_
 unfold z7s
 have e1:HT.sIx (o.map nD).length (o.map nD).length none=(o.map nD).length:=rfl
 have e2:HT.sIx (o.map nD).length 0 (some (k:Int))=min k (o.map nD).length:=by
  show(if(k:Int)<0 then((k:Int)+((o.map nD).length:Int)).toNat else min (k:Int).toNat (o.map nD).length)=_
  rw[if_neg (by omega)]
  congr 1
 rw[e1,e2,cS]
 congr 1
 by_cases h:k≤(o.map nD).length
 ·rw[cZ h,bA (by simp)]
 ·rw[dI (by omega),bO (as:=o.map nD) (ao _),ee,bO (by omega)]
theorem z2Y{np nl:Nat}{b:SS->Option Out}{ds:List D}{d:D}(hl:ds.length=np)(h:hol (b (ds.map (fun d=>some (.sh d))++aD nl none)) fun o=>o = .rt d):z9e np nl b ds=some (.val d):=by
 unfold z9e
 rw[if_pos hl,hol_is.mp h]
theorem x0s{np nl:Nat}{b:SS->Option Out}{ds:List D}(hl:ds.length=np)(h:hol (b (ds.map (fun d=>some (.sh d))++aD nl none)) fun o=>∃s,o = .nx s):z9e np nl b ds=some (.val .non):=by
 obtain⟨_,e,s,rfl⟩:=h
 unfold z9e
 rw[if_pos hl,e]
theorem runX_ex{np nl:Nat}{b:SS->Option Out}{ds:List D}{c:Nat}(hl:ds.length=np)(h:hol (b (ds.map (fun d=>some (.sh d))++aD nl none)) fun o=>∃s,o = .ex c s):z9e np nl b ds=some (.exc c):=by
 obtain⟨_,e,s,rfl⟩:=h
 unfold z9e
 rw[if_pos hl,e]
def rsX(c:Nat)(x:Option D)(s:SS):Option Out:=match x with
 |some _=>some (.ex c s)
 |none=>none
theorem y6T{c:Nat}{f:DE}{s:SS}:z3R c f s=rsX c (f (z0D s)) s:=by
 unfold z3R rsX
 generalize f (z0D s)=x
 cases x <;> rfl
theorem y5X{c:Nat}{d:D}{s:SS}:rsX c (some d) s=some (.ex c s):=(rfl)
theorem y6f{m:List D->Option XO}{fl:List DE}{δ:DS}:z3g m fl δ=(z0n fl δ).bind m:=(rfl)
theorem y5M{m:List D->Option XO}{fl:List DE}{δ:DS}:z1Q m fl δ=valO ((z0n fl δ).bind m):=(rfl)
theorem y5x{f g:DE}{δ:DS}:x0F f g δ=o2 mkD1 (f δ) (g δ):=ev_d2
theorem y8G{f g h:DE}{δ:DS}:x2y f g h δ=rngN (f δ) (g δ) (h δ):=(rfl)
theorem y8Y{a b:Int}:mkD1 (.int a) (.int b)=some (.dct [.inl a] [.int b]):=(rfl)
theorem x1D{ds:List D}{i:Int}:ixL (.lst ds) (.int i)=atI ds i:=(rfl)
def forX2(i j:Nat)(xs:Option (List D))(b:SS->Option Out)(s:SS):Option Out:=xs.bind fun ds=>z6H i j b ds s
theorem y6n{i j:Nat}{f:DS->Option (List D)}{g:SS->Option Out}{s:SS}:x3Q i j f g s=forX2 i j (f (shV s)) g s:=(rfl)
theorem y9q{i j:Nat}{ds:List D}{b:SS->Option Out}{s:SS}:forX2 i j (some ds) b s=z6H i j b ds s:=(rfl)
theorem y0g{α:Type}{enc:α->D}{i j:Nat}{b:SS->Option Out}{QO:Out->Prop}{xs:List α}(I:List α->SS->Prop)(hs:∀pre x post,xs=pre++x::post->∀δ,I pre δ->hol (b ((δ.set i (some (.sh (.int ((pre.length:Nat):Int))))).set j (some (.sh (enc x))))) fun o=>match o with | .nx δ'=>I (pre++[x]) δ' | .ct δ'=>I (pre++[x]) δ' | .bk δ'=>QO (.nx δ') | .rt d=>QO (.rt d) | .rb d δ'=>QO (.rb d δ') | .ex c δ'=>QO (.ex c δ'))(he:∀δ,I xs δ->QO (.nx δ)):
  ∀{post pre:List α} {s:SS},xs=pre++post->I pre s->hol (z6H i j b (z0t pre.length (post.map enc)) s) QO
 |[],pre,s,e,h=>⟨_,rfl,he s (by rw[e,aH];exact h)⟩
 |x::post,pre,s,e,h=>by
  obtain⟨o,eo,q⟩:=hs pre x post e s h
  have e2:z0t pre.length ((x::post).map enc) = .tup [.int ((pre.length:Nat):Int),enc x]::z0t (pre++[x]).length (post.map enc):=by
   rw[aF,aC]
   rfl
  rw[e2]
  unfold z6H
  show hol ((b ((s.set i (some (.sh (.int ((pre.length:Nat):Int))))).set j (some (.sh (enc x))))).bind _) QO
  rw[eo]
  have e3:xs=(pre++[x])++post:=by rw[e];simp
  cases o with
  |nx s1=>exact y0g I hs he e3 q
  |ct s1=>exact y0g I hs he e3 q
  |bk s1=>exact⟨_,rfl,q⟩
  |rt d=>exact⟨_,rfl,q⟩
  |rb d s1=>exact⟨_,rfl,q⟩
  |ex c s1=>exact⟨_,rfl,q⟩
theorem y7Q{a:Nat}{r:List Nat}(h:(a::r).Pairwise (· < ·)):x0w [thD (a::r)]=some (.int (a:Int)):=by
 have hp:=aP.mp h
 have hb:∀k,k≤r.length->bst ((a::r).map fun n=>((n:Nat):Int)) k=0:=fun k=>by
  induction k with
  |zero=>exact fun _=>rfl
  |succ k ih=>
   intro hk
   unfold bst
   rw[ih (by omega)]
   refine if_neg ?_
   rw[decide_eq_true_iff,aF]
   show ¬ ((r.map fun n=>((n:Nat):Int)).getD k 0<(a:Int))
   rw[List.getD_eq_getElem?_getD,aJ,ax (by omega)]
   show ¬ (((r[k]'(by omega):Nat):Int)<(a:Int))
   have:=hp.1 _ (cA (show k<r.length by omega))
   omega
 have e:(a::r).map nD=((a::r).map fun n=>((n:Nat):Int)).map D.int:=by rw[aV];rfl
 show((z1O ((a::r).map nD)).bind fun ns=>if ns.isEmpty=true then none else some (D.int (mnI ns)))=_
 have ii:∀ns:List Int,z1O (ns.map D.int)=some ns:=fun ns=>by
  induction ns with
  |nil=>rfl
  |cons n ns ih=>show(z1O (ns.map D.int)).map (fun r=>n::r)=_;rw[ih];rfl
 rw[e,ii,aA,if_neg (by simp)]
 unfold mnI
 rw[aq,aZ,Nat.add_sub_cancel,hb _ (ao _)]
 rfl
theorem x4B{d:D}:valO (some (.val d))=some d:=(rfl)
def xeO(x:Option XO)(s:SS):Option Out:=match x with
 |some (.val _)=>some (.nx s)
 |some (.exc c)=>some (.ex c s)
 |none=>none
theorem y5U{F:DS->Option XO}{s:SS}:y4E F s=xeO (F (z0D s)) s:=by
 unfold y4E xeO
 generalize F (z0D s)=x
 rcases x with _ | _ | _ <;> rfl
theorem x4I{d:D}{s:SS}:xeO (some (.val d)) s=some (.nx s):=(rfl)
theorem x1Z{d:D}{r:SS}:x1h (some (.ow d)::r) 0=some d:=(rfl)
theorem x1v{x:Option SD}{r:SS}{i:Nat}:x1h (x::r) (i+1)=x1h r i:=by
 unfold x1h
 rw[el]
theorem y0d{x:Option Out}{b:SS->Option Out}{I:SS->Prop}{d:D}(h:hol x fun o=>(∃s,o = .nx s∧I s)∨o = .rt d)(k:∀s,I s->hol (b s) fun o=>o = .rt d):hol (y4k x b) fun o=>o = .rt d:=by
 obtain⟨o,rfl,q⟩:=h
 rcases q with⟨s,rfl,q⟩ | rfl
 ·exact k s q
 ·exact⟨_,rfl,rfl⟩
def okN(n:Nat)(d:D):Prop:=(toP d).canLay0=true∧(toP d).depth≤n
def oksN(n:Nat)(ds:List D):Prop:=PyData.canLayAll0 (z9V ds)=true∧PyData.depthAll (z9V ds)≤n
theorem y9o{n:Nat}:∀{ds:List D},(∀d∈ds,okN n d)->oksN n ds
 |[],_=>⟨rfl,bg n⟩
 |d::ds,h=>by
  have h1:=h d ac
  have h2:=y9o fun x hx=>h x (ad _ hx)
  constructor
  ·show(PyData.canLay0 (toP d)&&PyData.canLayAll0 (z9V ds))=true
   rw[h1.1,h2.1]
   rfl
  ·show max (PyData.depth (toP d)) (PyData.depthAll (z9V ds))≤n
   have:=h1.2
   have:=h2.2
   omega
theorem okN_lst{n:Nat}{ds:List D}(h:∀d∈ds,okN n d):okN (n+1) (.lst ds):=by
 have:=y9o h
 exact⟨this.1,Nat.succ_le_succ this.2⟩
theorem y4m{α:Type}{n:Nat}{f:α->D}{xs:List α}(h:∀x∈xs,okN n (f x)):okN (n+1) (.lst (xs.map f)):=okN_lst fun d hd=>by
 obtain⟨x,hx,rfl⟩:=aN.mp hd
 exact h x hx
theorem x1N{i:Int}:okN 0 (.int i):=⟨rfl,ao 0⟩
theorem okN_bl{b:Bool}:okN 0 (.bl b):=⟨rfl,ao 0⟩
theorem x3U(o:List Int):okN 1 (.lst (o.map .int)):=y4m fun _ _=>x1N
theorem okN_row(r:List Bool):okN 1 (z9z r):=y4m fun _ _=>okN_bl
theorem okN_tab(T:List (List Bool)):okN 2 (z0E T):=y4m fun r _=>okN_row r
theorem x4O{n:Nat}{d:D}(h:okN n d)(hn:n≤60):okP d=true:=by
 unfold okP
 rw[aM,decide_eq_true_eq]
 exact⟨h.1,aG h.2 hn⟩
theorem x1w{n:Nat}{d:D}(h:okN n d)(hn:n≤60):neD d d=some (.bl false):=ne_self (x4O h hn)
theorem y0u{α:Type}{enc:α->D}{xs:List α}{x:α}(hl:xs.length≤1000000):m0V y3z (some (.lst (xs.map enc))) (some [enc x])=some (.lst ((xs++[x]).map enc)):=by
 show(if(xs.map enc).length<sizeLine then some (xs.map enc++[enc x])else none).map D.lst=_
 rw[aq,if_pos (by rw[PySem.sizeLine_eq];omega),aS]
 rfl
theorem y2X{x:D}{r:List D}:atI (x::r) 0=some x:=z5x (j:=0) rfl
def y8r(ws:List Int):D:=.lst (ws.map .int)
theorem z9d{ds:List D}{k:Nat}(hk:k≤ds.length):z7s ds none (some (k:Int))=ds.take k:=by
 unfold z7s
 have e1:HT.sIx ds.length 0 none=0:=rfl
 have e2:HT.sIx ds.length ds.length (some (k:Int))=k:=by
  show(if(k:Int)<0 then((k:Int)+(ds.length:Int)).toNat else min (k:Int).toNat ds.length)=k
  rw[if_neg (by omega)]
  omega
 rw[e1,e2,dW,eG]
theorem y1I{ds:List D}{k:Nat}:z7s ds (some (k:Int)) none=ds.drop k:=by
 unfold z7s
 have e1:HT.sIx ds.length 0 (some (k:Int))=min k ds.length:=by
  show(if(k:Int)<0 then((k:Int)+(ds.length:Int)).toNat else min (k:Int).toNat ds.length)=_
  rw[if_neg (by omega),bV]
 have e2:HT.sIx ds.length ds.length none=ds.length:=rfl
 rw[e1,e2]
 by_cases h:k≤ds.length
 ·rw[cZ h]
  exact bA (by rw[cU];exact ao _)
 ·rw[dI (by omega),eE (ao _),eE (by omega),ee]
theorem y6m{f:DE}{δ:DS}:y6p f δ=(f δ).bind y1H:=(rfl)
theorem x5o{x:Int}{ws:List Int}:y9H (.int x) (y8r ws)=some (ws.contains x):=by
 unfold y8r y9H
 show(if(okP (.int x)&&okP (.lst (ws.map .int)))=true then _ else none)=_
 rw[show okP (.lst (ws.map .int))=true from x4O (x3U ws) (by omega),show okP (.int x)=true from rfl]
 show some ((ws.map D.int).any fun y=>PyData.eqv (toP y) (toP (.int x)))=_
 congr 1
 rw[cN,b9]
 congr 1
 funext y
 show decide (y=x)=(x==y)
 by_cases h:y=x
 ·subst h;simp
 ·have:¬ x=y:=fun e=>h e.symm
  simp[h,this]
theorem x3k{x:Int}{ws:List Int}:inD (.int x) (y8r ws)=some (.bl (ws.contains x)):=by
 unfold inD
 rw[x5o]
 rfl
theorem y6z{x:Int}{ws:List Int}:y3B (.int x) (y8r ws)=some (.bl (!ws.contains x)):=by
 unfold y3B
 rw[x5o]
 rfl
def cM2(F:List D->Option D)(a b:Option D)(cs:Option (List D)):Option D:=a.bind fun a=>b.bind fun b=>cs.bind fun cs=>F (a::b::cs)
theorem y3r{F:List D->Option D}{f0 f1:DE}{fl:List DE}{δ:DS}:z8c F f0 f1 fl δ=cM2 F (f0 δ) (f1 δ) (z0n fl δ):=(rfl)
theorem x4s{F:List D->Option D}{a b:D}{cs:List D}:cM2 F (some a) (some b) (some cs)=F (a::b::cs):=(rfl)
def r1O(x:Option D):Option Out:=x.map fun d=>.rt (.lst [d])
theorem x2g{i:Nat}{s:SS}:ret1 i s=r1O (x1h s i):=(rfl)
theorem eo_r1{d:D}:r1O (some d)=some (.rt (.lst [d])):=(rfl)
theorem y6H{np nl:Nat}{b:SS->Option Out}{du d0:D}{ds:List D}{d:D}(hl:ds.length+2=np)(h:hol (b (some (.sh du)::some (.ow d0)::ds.map (fun d=>some (.sh d))++aD nl none)) fun o=>o = .rt d):y3Y np nl b (du::d0::ds)=some d:=by
 obtain⟨o,e,rfl⟩:=h
 show(if ds.length+2=np then _ else none)=some d
 rw[if_pos hl]
 rw[e]
def extDV(o x:Option D):Option D:=match x,o with
 |some (.lst es),some (.lst ds)=>if z3b es=true∧ds.length+es.length≤sizeLine then some (.lst (ds++es))else none
 |_,_=>none
theorem y5u{i:Nat}{f:DE}{s:SS}:x1c i f s=y1D i (extDV (owA i s) (f (z0D s))) s:=by
 unfold x1c owA
 cases f (z0D s)with
 |none=>rcases s[i]? with _ | _ | ⟨x | x | ⟨r,x⟩⟩ <;> rfl
 |some d=>
  cases d <;> rcases s[i]? with _ | _ | ⟨x | x | ⟨r,x⟩⟩ <;> (first | rfl | (cases x <;> (first | rfl | (show(if _ then _ else _)=y1D i (if _ then _ else _) s;split <;> rfl))))
theorem eo_extD{ds es:List D}(hi:z3b es=true)(h:ds.length+es.length≤1000000):extDV (some (.lst ds)) (some (.lst es))=some (.lst (ds++es)):=if_pos ⟨hi,z4P h⟩
section
end
section
end
section
end
end L2
set_option maxHeartbeats 4000000
namespace Prg
open PySem PySem.Spec PyProof.Rows L2
def top(i:Nat):Stmt:=PySem.Challenge.pw_askorder_k48_whole_chair_from_votes.main.body.getD i (.Pass ⟨0,0,0,0⟩)
abbrev z5B:Stmt:=top 9
abbrev y4H:List Str:=["table", "one"]
abbrev z8S:List Str:=["table", "one"]
abbrev z5D:Stmt:=top 10
abbrev y4g:List Str:=["table", "one", "things"]
abbrev z8C:List Str:=["table", "one", "things"]
abbrev z3p:Stmt:=top 11
abbrev y1x:List Str:=["marks"]
abbrev z6o:List Str:=["marks"]
abbrev z6X:Stmt:=top 13
abbrev y7g:List Str:=["value", "many"]
abbrev z9T:List Str:=["value", "many"]
abbrev z1W:Stmt:=top 14
abbrev z7b:List Str:=["order", "many", "told", "thing"]
abbrev z3f:List Str:=["order", "many"]
abbrev y3M:Stmt:=top 15
abbrev kP:List Str:=["votes", "many", "ballot"]
abbrev y3L:List Str:=["votes", "many"]
abbrev y0W:Stmt:=top 16
abbrev x2q:List Str:=["votes"]
abbrev y5H:List Str:=["votes"]
abbrev x1a:Stmt:=top 17
abbrev kX:List Str:=["votes", "one", "other", "ahead", "behind"]
abbrev x5g:List Str:=["votes", "one", "other"]
abbrev z4n:Stmt:=top 18
abbrev y2p:List Str:=["order", "one", "other"]
abbrev z7u:List Str:=["order", "one", "other"]
abbrev z7h:Stmt:=top 19
abbrev y7p:List Str:=["votes", "many"]
abbrev z7n:List Str:=["votes", "many"]
abbrev y0B:Stmt:=top 20
abbrev x3R:List Str:=["votes", "many", "one"]
abbrev y6w:List Str:=["votes", "many", "one"]
abbrev z3I:Stmt:=top 22
abbrev y1o:List Str:=["tree"]
abbrev z5Y:List Str:=["tree"]
abbrev z2S:Stmt:=top 23
abbrev y1U:List Str:=["tree"]
abbrev z4I:List Str:=["tree"]
abbrev z8I:Stmt:=top 24
abbrev x0K:List Str:=["tree", "many"]
abbrev y3e:List Str:=["tree", "many"]
abbrev z5J:Stmt:=top 25
abbrev y4p:List Str:=["tree"]
abbrev z8M:List Str:=["tree"]
abbrev z3v:Stmt:=top 26
abbrev y0C:List Str:=["order", "many"]
abbrev z3A:List Str:=["order", "many"]
abbrev z2x:Stmt:=top 27
abbrev z8F:List Str:=["order"]
abbrev z2F:List Str:=["order"]
abbrev z0U:Stmt:=top 28
abbrev z5c:List Str:=["order"]
abbrev z1z:List Str:=["order"]
abbrev z5T:Stmt:=top 29
abbrev y5f:List Str:=["order", "tree", "thing"]
abbrev z8g:List Str:=["order"]
abbrev z5L:Stmt:=top 31
abbrev y3F:List Str:=["table", "tree"]
abbrev z8h:List Str:=["table", "tree"]
abbrev z8a:Stmt:=top 32
abbrev x2L:List Str:=["table", "tree"]
abbrev y0I:List Str:=["table", "tree"]
abbrev y0S:Stmt:=top 33
abbrev x2o:List Str:=["table", "one", "other"]
abbrev y6C:List Str:=["table", "one", "other"]
abbrev z6W:Stmt:=top 35
abbrev y7x:List Str:=["table", "things"]
abbrev z9I:List Str:=["table", "things"]
abbrev z8N:Stmt:=top 36
abbrev x1p:List Str:=["table", "things"]
abbrev y3o:List Str:=["table", "things"]
abbrev y1C:Stmt:=top 37
abbrev x2r:List Str:=["table", "chain"]
abbrev y6t:List Str:=["table", "chain"]
abbrev z3G:Stmt:=top 39
abbrev y0y:List Str:=["table", "thing", "chains", "chain"]
abbrev z6g:List Str:=["table", "thing"]
abbrev z1X:Stmt:=top 40
abbrev z9m:List Str:=["table", "chain", "further", "chains", "thing"]
abbrev z3a:List Str:=["table", "chain", "further"]
abbrev z8Y:Stmt:=top 42
abbrev x0U:List Str:=["table", "one"]
abbrev y2C:List Str:=["table", "one"]
abbrev z4q:Stmt:=top 43
abbrev y2z:List Str:=["table", "one", "steps", "edge", "further", "here", "other"]
abbrev z7B:List Str:=["table", "one"]
abbrev y4e:Stmt:=top 44
abbrev kQ:List Str:=["table", "counts"]
abbrev x1r:List Str:=["table"]
abbrev z3H:Stmt:=top 45
abbrev y1p:List Str:=["counts", "wanted"]
abbrev z6s:List Str:=["counts", "wanted"]
abbrev z7i:Stmt:=top 46
abbrev y8k:List Str:=["table"]
abbrev z9E:List Str:=["table"]
abbrev z7g:Stmt:=top 47
abbrev y7q:List Str:=["table", "one", "from_the_top", "row", "ring"]
abbrev z6J:List Str:=["table", "one"]
abbrev z4y:Stmt:=top 48
abbrev y3f:List Str:=["circle", "one", "place"]
abbrev z7A:List Str:=["circle", "one"]
abbrev z6V:Stmt:=top 49
abbrev y7k:List Str:=["table", "ring", "circle", "wider"]
abbrev z9B:List Str:=["table", "ring"]
abbrev z8y:Stmt:=top 50
abbrev y8S:List Str:=["table", "circle", "ring", "left", "place", "here", "behind", "between"]
abbrev y1W:List Str:=["table", "circle", "ring"]
abbrev y1h:Stmt:=top 51
abbrev x2z:List Str:=["table", "here", "behind", "left", "one", "other"]
abbrev y5Y:List Str:=["table", "here", "behind", "left"]
abbrev z6E:Stmt:=top 53
abbrev y7X:List Str:=["table", "thing", "top"]
abbrev z9W:List Str:=["table", "thing"]
abbrev z6Q:Stmt:=top 54
abbrev y7G:List Str:=["table", "thing", "paper", "chain", "others"]
abbrev z9N:List Str:=["table", "thing"]
abbrev z8B:Stmt:=top 55
abbrev x1g:List Str:=["table", "thing", "top"]
abbrev y1Y:List Str:=["table", "thing"]
abbrev z5t:Stmt:=top 57
abbrev y3N:List Str:=["table", "kind", "thing"]
abbrev z5R:List Str:=["table", "kind", "thing"]
abbrev z5z:Stmt:=top 58
abbrev y4A:List Str:=["table", "kind", "papers"]
abbrev z5U:List Str:=["table", "kind"]
abbrev z6Y:Stmt:=top 59
abbrev y7A:List Str:=["table", "kind", "wish", "orders", "best"]
abbrev y0f:List Str:=["table", "kind", "wish"]
abbrev z4t:Stmt:=top 61
abbrev y3w:List Str:=["order", "tree", "left", "right", "thing"]
abbrev z7D:List Str:=["order", "tree"]
abbrev z4s:Stmt:=top 62
abbrev y3s:List Str:=["votes", "many", "tree", "sides", "here", "side"]
abbrev z4A:List Str:=["votes", "many", "tree"]
abbrev z5v:Stmt:=top 63
abbrev y4o:List Str:=["votes", "tree", "left"]
abbrev z8t:List Str:=["votes", "tree"]
abbrev z8U:Stmt:=top 64
abbrev x0k:List Str:=["tree", "side"]
abbrev y2I:List Str:=["tree", "side"]
abbrev z5s:Stmt:=top 65
abbrev y4n:List Str:=["votes", "many", "tree", "here", "side"]
abbrev z8p:List Str:=["votes", "many", "tree"]
abbrev z2Z:Stmt:=top 67
abbrev z9q:List Str:=["script", "k"]
abbrev z5g:List Str:=["script", "k"]
abbrev z4o:Stmt:=top 68
abbrev y2L:List Str:=["cell", "many", "order", "k"]
abbrev z7E:List Str:=["cell", "many"]
abbrev z4l:Stmt:=top 69
abbrev y1O:List Str:=["script", "many", "votes", "cell"]
abbrev z7r:List Str:=["script", "many"]
abbrev z4r:Stmt:=top 70
abbrev y3i:List Str:=["table", "order", "standing", "one"]
abbrev z7t:List Str:=["table", "order"]
abbrev z4p:Stmt:=top 71
abbrev y3k:List Str:=["table", "order", "chain", "one"]
abbrev z7x:List Str:=["table", "order"]
abbrev z5w:Stmt:=top 72
abbrev y4C:List Str:=["table", "order", "end", "one"]
abbrev z8O:List Str:=["table", "order"]
abbrev z6Z:Stmt:=top 73
abbrev y7I:List Str:=["table", "kind", "order"]
abbrev z9X:List Str:=["table", "kind", "order"]
abbrev z5l:Stmt:=top 74
abbrev y4t:List Str:=["votes", "one", "other", "more", "ballot"]
abbrev z8H:List Str:=["votes", "one", "other"]
abbrev z4h:Stmt:=top 75
abbrev y1G:List Str:=["votes", "many", "table", "a"]
abbrev z7C:List Str:=["votes", "many"]
abbrev z3F:Stmt:=top 76
abbrev y0P:List Str:=["many", "found", "one", "longer", "order", "at"]
abbrev z6p:List Str:=["many"]
abbrev z7o:Stmt:=top 77
abbrev y8a:List Str:=["votes", "many", "table", "kind", "order"]
abbrev z9Y:List Str:=["votes", "many", "table", "kind", "order"]
abbrev y0G:Stmt:=top 78
abbrev k8:List Str:=["script", "many", "votes", "table", "wish", "orders", "kind", "found", "ends"]
abbrev kg:List Str:=["script"]
theorem nd0:(["table", "one", "things", "other"]:List Str).Nodup:=by decide +kernel
theorem nd1:(["marks", "place", "mark"]:List Str).Nodup:=by decide +kernel
theorem nd2:(["votes", "ballot"]:List Str).Nodup:=by decide +kernel
theorem nd3:(["votes", "one", "other", "ahead", "behind", "ballot"]:List Str).Nodup:=by decide +kernel
theorem nd4:(["votes", "many", "one", "other"]:List Str).Nodup:=by decide +kernel
theorem nd5:(["votes", "many", "one"]:List Str).Nodup:=by decide +kernel
theorem nd6:(["tree", "many", "number"]:List Str).Nodup:=by decide +kernel
theorem nd7:(["table", "things", "place", "one"]:List Str).Nodup:=by decide +kernel
theorem nd8:(["table", "things", "one"]:List Str).Nodup:=by decide +kernel
theorem nd9:(["table", "chain", "further", "chains", "thing", "other"]:List Str).Nodup:=by decide +kernel
theorem nd10:(["table", "thing", "chains", "3", "chain"]:List Str).Nodup:=by decide +kernel
theorem nd11:(["counts", "wanted", "place", "count"]:List Str).Nodup:=by decide +kernel
theorem nd12:(["table", "counts", "count"]:List Str).Nodup:=by decide +kernel
theorem nd13:(["table", "counts", "one"]:List Str).Nodup:=by decide +kernel
theorem nd14:(["table", "circle", "ring", "left", "place", "here", "behind", "between", "thing"]:List Str).Nodup:=by decide +kernel
theorem nd15:(["table", "thing", "paper", "chain", "others", "other"]:List Str).Nodup:=by decide +kernel
theorem nd16:(["table", "kind", "papers", "paper"]:List Str).Nodup:=by decide +kernel
theorem nd17:(["table", "kind", "papers", "thing"]:List Str).Nodup:=by decide +kernel
theorem nd18:(["table", "kind", "wish", "orders", "best", "thing"]:List Str).Nodup:=by decide +kernel
theorem nd19:(["votes", "tree", "left", "ballot"]:List Str).Nodup:=by decide +kernel
theorem nd20:(["script", "many", "votes", "cell", "ballot"]:List Str).Nodup:=by decide +kernel
theorem nd21:(["table", "order", "chain", "one", "other"]:List Str).Nodup:=by decide +kernel
theorem nd22:(["votes", "many", "table", "a", "b"]:List Str).Nodup:=by decide +kernel
theorem nd23:(["script", "many", "votes", "table", "wish", "orders", "kind", "found", "ends", "thing"]:List Str).Nodup:=by decide +kernel
theorem nd24:(["script", "many", "votes", "table", "wish", "orders", "kind", "found", "ends", "order"]:List Str).Nodup:=by decide +kernel
def z5O:SS->Option Out:=(z3z (z0j allF [(mkL (z1v (z3W (z0d 2)) z6h (d2 ixD (d2 ixD (z0d 0) (z0d 1)) (z0d 3))))]))
def z1F:List D->Option D:=z1A 3 0 z5O
def z3u:SS->Option Out:=(z6d (z0J (z7z (y4r (z0d 0)) (z0z (z0d 2)) (z0d 1))))
def z2o:List D->Option D:=z1A 1 0 z3u
def z5u:SS->Option Out:=(z6d (z0j z2o [(d2 ixD (z0d 0) (z0d 1))]))
def z1H:List D->Option D:=z1A 2 0 z5u
def z4M:SS->Option Out:=(z3z (y9t (dIs "int" (z0d 0)) (y9t (d1 uNot (dIs "bool" (z0d 0))) (z9R leI ltI (dC (.int 0)) (z0d 0) (z0d 1)))))
def z1K:List D->Option D:=z1A 2 0 z4M
def z0Z:SS->Option Out:=(z0G (ifO (z0F (d2 neD (z0j z3V [(z0d 0)]) (z0d 1))) (z3z (dC (.bl false))) z0P)
 (z0G (z7I 2 (dC (.dct [] [])))
 (z0G (z6C 3 (z3W (z0d 0)) (z0G (ifO (dOrT (z6m (z0z (z0j z1K [(z0d 3),(z0d 1)]))) (x2n (z0d 3) (z0d 2))) (z3z (dC (.bl false))) z0P)
 (dput 2 (z0d 3) (dC (.bl true)))))
 (z3z (dC (.bl true))))))
def z0y:List D->Option D:=z1A 2 2 z0Z
def y1g:SS->Option Out:=(z3z (z0j sumF [(mkL (z1v (z3W (z0d 0)) z6h (d2 ixD (z0d 1) (dC (.int 0)))))]))
def z2c:List D->Option D:=z1A 1 0 y1g
def y0K:SS->Option Out:=(z0G (z6C 2 (z3W (z0d 0)) (ifO (z6m (z0z (z0j z0y [(d2 ixD (z0d 2) (dC (.int 1))),(z0d 1)]))) (z3R 1 (dC (.str "the order of a ballot does not tell each thing once and nothing else"))) z0P))
 (ifO (z0F (d2 eqD (d2 y2c (z0j z2c [(z0d 0)]) (dC (.int 2))) (dC (.int 0)))) (z3R 2 (dC (.str "the voices of all ballots together are an even number"))) z0P))
def z7p:List D->Option XO:=z9e 2 1 y0K
def z4D:SS->Option Out:=(z3z (d2 ltI (d2 tixF (z0d 0) (z0d 1)) (d2 tixF (z0d 0) (z0d 2))))
def z1k:List D->Option D:=z1A 3 0 z4D
def y8I:SS->Option Out:=(z0G (z7I 3 (z0J (z1v (z3W (z0d 0)) (z0z (z0j z1k [(d2 ixD (z0d 5) (dC (.int 1))),(z0d 1),(z0d 2)])) (z0d 5))))
 (z0G (z7I 4 (z0J (z1v (z3W (z0d 0)) (z0z (z0j z1k [(d2 ixD (z0d 5) (dC (.int 1))),(z0d 2),(z0d 1)])) (z0d 5))))
 (z3z (d2 subI (z0j z2c [(z0d 3)]) (z0j z2c [(z0d 4)])))))
def y2s:List D->Option D:=z1A 3 2 y8I
def y0z:SS->Option Out:=(z6d (z0J (z1v (z4a (z0d 1)) z6h (y9t (d2 neD (z0d 2) (z0d 3)) (d2 gtI (z0j y2s [(z0d 0),(z0d 2),(z0d 3)]) (dC (.int 0)))))))
def z7W:List D->Option D:=z1A 3 0 y0z
def z6N:SS->Option Out:=(z0G (y4E (z3g z7p [(z0d 0),(z0d 1)]))
 (z6d (mkL (z1v (z4a (z0d 1)) z6h (z0j z7W [(z0d 0),(z0d 1),(z0d 2)])))))
def z3d:List D->Option XO:=z9e 2 0 z6N
def z1t:SS->Option Out:=(z3z (dIs "tuple" (z0d 0)))
def z0p:List D->Option D:=z1A 1 0 z1t
def z1J(mR:List D->Option D):SS->Option Out:=(z0G (ifO (z0z (z0j z0p [(z0d 0)])) (z6d (z0J (y7B (z0j mR [(d2 ixD (z0d 0) (dC (.int 0)))]) (z0j mR [(d2 ixD (z0d 0) (dC (.int 1)))])))) z0P)
 (z6d (z0J (z0n [(z0d 0)]))))
def z1c:Nat->List D->Option D
 |0=>z1A 1 0 fun _=>none
 |n+1=>z1A 1 0 (z1J (z1c n))
def z1b:List D->Option D:=z1c 12
def z5X:SS->Option Out:=(z3z (z0j allF [(mkL (z1v (z3W (z0j z1b [(z0d 0)])) z6h (z0j z1K [(z0d 2),(z0d 1)])))]))
def z2B:List D->Option D:=z1A 2 0 z5X
def z5y:SS->Option Out:=(z6d (z0J (y6p (z0j z1b [(z0d 0)]))))
def z1E:List D->Option D:=z1A 1 0 z5y
def z3J:SS->Option Out:=(ifO (dOrT (z0F (d2 eqD (z0d 1) (dC (.int 0)))) (z6m (z0z (z0j z0y [(z0d 0),(z0d 1)])))) (z3R 3 (dC (.str "the order does not tell each thing once and nothing else"))) z0P)
def z0O:List D->Option XO:=z9e 2 0 z3J
def z0V(mR:List D->Option D):SS->Option Out:=(z0G (ifO (z0F (d2 eqD (z0j z3V [(z0d 0)]) (dC (.int 1)))) (z3z (d2 ixD (z0d 0) (dC (.int 0)))) z0P)
 (z3z (mkT (z0n [(z0j mR [(mkL (y7B (mkL (y1E (z0d 0) z1G (z3T (dC (.int 1))))) (mkL (y1E (z0d 0) (z3T (dC (.int 2))) z1G))))]),(z0j mR [(mkL (y1E (z0d 0) (z3T (dC (.int 1))) z1G))])]))))
def z0K:Nat->List D->Option D
 |0=>z1A 1 0 fun _=>none
 |n+1=>z1A 1 0 (z0V (z0K n))
def z0T:List D->Option D:=z0K 12
def z2y:SS->Option Out:=(z0G (y4E (z3g z0O [(z0d 0),(z0j z3V [(z0d 0)])]))
 (z6d (z0j z0T [(z0d 0)])))
def z1p:List D->Option XO:=z9e 1 0 z2y
def z5F:SS->Option Out:=(z0G (y7U (z1Q z0O [(z0d 0),(z0j z3V [(z0d 0)])]))
 (z0G (z9H 1 (d2 ixD (z0d 0) (d1 uNeg (dC (.int 1)))))
 (z0G (z6C 2 (y8n (mkL (y1E (z0d 0) z1G (z3T (d1 uNeg (dC (.int 1))))))) (z9H 1 (mkT (z0n [(z0d 2),(z0d 1)]))))
 (z3z (z0d 1)))))
def z3C:List D->Option D:=z1A 1 2 z5F
def y0m:SS->Option Out:=(z3z (dIf (z0z (d2 ixD (d2 ixD (z0d 0) (z0d 2)) (z0d 1))) (z0d 2) (z0d 1)))
def z6j:List D->Option D:=z1A 3 0 y0m
def z4R(mR:List D->Option D):SS->Option Out:=(z0G (ifO (z6m (z0z (z0j z0p [(z0d 1)]))) (z3z (z0d 1)) z0P)
 (z6d (z0j z6j [(z0d 0),(z0j mR [(z0d 0),(d2 ixD (z0d 1) (dC (.int 0)))]),(z0j mR [(z0d 0),(d2 ixD (z0d 1) (dC (.int 1)))])])))
def z2z:Nat->List D->Option D
 |0=>z1A 2 0 fun _=>none
 |n+1=>z1A 2 0 (z4R (z2z n))
def z6c:List D->Option D:=z2z 12
def z3L:SS->Option Out:=(z0G (ifO (z6m (z0z (z0j z2B [(z0d 1),(z0j z3V [(z0d 0)])]))) (fun _=>none) z0P)
 (z6d (z0j z6c [(z0d 0),(z0d 1)])))
def z1U:List D->Option D:=z1A 2 0 z3L
def z4L:SS->Option Out:=(z0G (ifO (z0F (d2 eqD (z0j z3V [(z0d 1)]) (dC (.int 0)))) (z3z (dC (.bl false))) z0P)
 (z3z (z0j allF [(mkL (z7z (y4r (z0d 1)) z6h (z0j z1F [(z0d 0),(z0d 3),(mkL (y1E (z0d 1) (z3T (d2 y6M (z0d 2) (dC (.int 1)))) z1G))])))])))
def z4Q:List D->Option D:=z1A 2 0 z4L
def z8j:SS->Option Out:=(z6d (z0J (z1v (z4a (z0j z3V [(z0d 0)])) (z0z (z0j z1F [(z0d 0),(z0d 2),(z0d 1)])) (z0d 2))))
def z2D:List D->Option D:=z1A 2 0 z8j
def y0L:SS->Option Out:=(z3z (y9t (z0j z4Q [(z0d 0),(z0d 1)]) (d2 eqD (z0j z3V [(z0j z2D [(z0d 0),(z0d 1)])]) (dC (.int 0)))))
def z6x:List D->Option D:=z1A 2 0 y0L
def z2b(mR:List D->Option D):SS->Option Out:=(z0G (ifO (z6m (z0z (z0d 2))) (ret1 1) z0P)
 (z0G (z7I 3 (z0J (z0n [])))
 (z0G (z6C 4 (z3W (z0d 2)) (x0d 3 (z8c mR (z0d 0) (z0J (y7B (z0d 1) (mkL (z0n [(z0d 4)])))) [(mkL (z1v (z3W (z0d 2)) (z0z (d2 ixD (d2 ixD (z0d 0) (z0d 4)) (z0d 5))) (z0d 5)))])))
 (y8p 3))))
def z1q:Nat->List D->Option D
 |0=>y3Y 3 2 fun _=>none
 |n+1=>y3Y 3 2 (z2b (z1q n))
def z1Y:List D->Option D:=z1q 12
def z3D:SS->Option Out:=(z0G (z6B 2 (z8c z1Y (z0d 0) (z0J (z0n [(z0d 1)])) [(z0j z1H [(z0d 0),(z0d 1)])]))
 (z0G (z6C 3 (z3W (z0d 2)) (ifO (z0z (z0j z6x [(z0d 0),(z0d 3)])) (z9n (mkT (z0n [(dC (.str "chain")),(z0d 3)]))) z0P))
 (z9n (mkT (z0n [(dC (.str "beaten")),(mkL (z1v (z3W (z0d 2)) z6h (mkT (z0n [(z0d 4),(d2 ixD (z0j z2D [(z0d 0),(z0d 4)]) (dC (.int 0)))]))))])))))
def z2t:List D->Option D:=z1A 2 2 z3D
def z4e:SS->Option Out:=(z0G (z7I 2 (x0F (z0d 1) (z0d 1)))
 (z0G (z7I 3 (z0J (z0n [(z0d 1)])))
 (z0G (z4d (z0z (z0d 3)) (z0G (z7I 4 (z0J (z0n [])))
 (z0G (frzO 3 (z6C 5 (z3W (z0d 3)) (z6C 6 (z3W (z0j z1H [(z0d 0),(z0d 5)])) (ifO (x4k (z0d 6) (z0d 2)) (z0G (dput 2 (z0d 6) (z0d 5))
 (m0 4 y3z [(z0d 6)])) z0P))))
 (movO 3 4))) 100)
 (y8p 2))))
def z2R:List D->Option D:=z1A 2 5 z4e
def z8d:SS->Option Out:=(z6d (z0J (z2H y1S [(z0j z2R [(z0d 0),(z0d 1)])])))
def z4J:List D->Option D:=z1A 2 0 z8d
def z3M:SS->Option Out:=(z6d (z0J (z7z (y4r (z0d 0)) (z0F (d2 eqD (z0d 3) (z0d 1))) (z0d 2))))
def z1M:List D->Option D:=z1A 2 0 z3M
def y3D:SS->Option Out:=(z0G (z7I 1 (z0J (z1v (z4a (z0j z3V [(z0d 0)])) z6h (z0j z3V [(z0j z4J [(z0d 0),(z0d 2)])]))))
 (z6d (mkL (z1v (x2y (z0j z3V [(z0d 0)]) (dC (.int 0)) (d1 uNeg (dC (.int 1)))) (z0F (d2 inD (z0d 2) (z0d 1))) (z0j z1M [(z0d 1),(z0d 2)])))))
def z7l:List D->Option D:=z1A 1 1 y3D
def z6M:SS->Option Out:=(z6d (d2 ixL (z0j z7l [(z0d 0)]) (dC (.int 0))))
def z2w:List D->Option D:=z1A 1 0 z6M
def z4H:SS->Option Out:=(z0G (z9H 2 (d2 lixF (z0d 0) (z0d 1)))
 (z6d (z0J (y7B (mkL (y1E (z0d 0) (z3T (z0d 2)) z1G)) (mkL (y1E (z0d 0) z1G (z3T (z0d 2))))))))
def z2M:List D->Option D:=z1A 2 1 z4H
def y0R:SS->Option Out:=(z0G (z6C 4 (z3W (z0d 3)) (ifO (z8W (z0z (d2 ixD (d2 ixD (z0d 0) (z0d 1)) (z0d 4))) (z0z (d2 ixD (d2 ixD (z0d 0) (z0d 4)) (z0d 2)))) (z6d (z0J (z0n [(z0d 4)]))) z0P))
 (z0G (z6C 4 (z3W (z0d 3)) (z6C 5 (z3W (z0d 3)) (ifO (z8W (z0z (d2 ixD (d2 ixD (z0d 0) (z0d 1)) (z0d 4))) (z8W (z0z (d2 ixD (d2 ixD (z0d 0) (z0d 4)) (z0d 5))) (z0z (d2 ixD (d2 ixD (z0d 0) (z0d 5)) (z0d 2))))) (z6d (z0J (z0n [(z0d 4),(z0d 5)]))) z0P)))
 (z6d (z0J (z0n [])))))
def z6a:List D->Option D:=z1A 4 2 y0R
def z8e:SS->Option Out:=(z0G (z6B 3 (mkL (z1v (z3W (z0d 2)) (z0F (d2 y3B (z0d 8) (z0d 1))) (z0d 8))))
 (z0G (x3Q 4 5 (y4r (z0d 1)) (z0G (z9H 6 (d2 ixD (z0d 1) (d2 y2c (d2 y6M (z0d 4) (dC (.int 1))) (z0j z3V [(z0d 1)]))))
 (z0G (z6B 7 (z0j z6a [(z0d 0),(z0d 5),(z0d 6),(z0d 3)]))
 (ifO (z0z (z0d 7)) (z9n (mkL (y7B (mkL (y7B (mkL (y1E (z0d 1) z1G (z3T (d2 y6M (z0d 4) (dC (.int 1)))))) (z0d 7))) (mkL (y1E (z0d 1) (z3T (d2 y6M (z0d 4) (dC (.int 1)))) z1G))))) z0P))))
 (z9n (z0d 1))))
def z3l:List D->Option D:=z1A 3 5 z8e
def z6R:SS->Option Out:=(z0G (z6B 2 (mkL (z0n [(z0j x0w [(z0d 1)])])))
 (z0G (z6B 3 (z0j z3l [(z0d 0),(z0d 2),(z0d 1)]))
 (z0G (z4d (z0F (d2 gtI (z0j z3V [(z0d 3)]) (z0j z3V [(z0d 2)]))) (z0G (z6B 2 (z0d 3))
 (z6B 3 (z0j z3l [(z0d 0),(z0d 2),(z0d 1)]))) 100)
 (z9n (z0d 2)))))
def z2v:List D->Option D:=z1A 2 2 z6R
def z7j:SS->Option Out:=(z0G (z6B 2 (z0j z7l [(z0d 0)]))
 (z0G (ifO (z0F (d2 y3B (z0d 1) (d2 ixD (z0d 2) (dC (.int 0))))) (z3R 5 (dC (.str "the thing does not lie in the top ring"))) z0P)
 (z0G (z7I 3 (z0j z2M [(z0j z2v [(z0d 0),(d2 ixD (z0d 2) (dC (.int 0)))]),(z0d 1)]))
 (z0G (z6C 4 (z3W (mkL (y1E (z0d 2) (z3T (dC (.int 1))) z1G))) (x1c 3 (z0j z2v [(z0d 0),(z0d 4)])))
 (y8p 3)))))
def z1S:List D->Option XO:=z9e 2 3 z7j
def z4S:SS->Option Out:=(z0G (z6B 2 (z0j z2w [(z0d 0)]))
 (z0G (ifO (z0F (d2 y3B (z0d 1) (z0d 2))) (z9n (mkT (z0n [(dC (.str "shut")),(z0d 2)]))) z0P)
 (z9n (mkT (z0n [(dC (.str "order")),(mkL (z2H revF [(z1Q z1S [(z0d 0),(z0d 1)])]))])))))
def z3e:List D->Option D:=z1A 2 1 z4S
def z5a:SS->Option Out:=(z0G (z6B 2 (z0j z2t [(z0d 0),(z0d 1)]))
 (z0G (ifO (z0F (d2 eqD (d2 ixD (z0d 2) (dC (.int 0))) (dC (.str "beaten")))) (z9n (z0d 2)) z0P)
 (z0G (z6B 3 (d2 ixD (z0d 2) (dC (.int 1))))
 (z0G (z6B 4 (mkL (z1v (z4a (z0j z3V [(z0d 0)])) (z0F (d2 y3B (z0d 5) (z0d 3))) (z0d 5))))
 (z9n (mkT (z0n [(dC (.str "order")),(mkL (y7B (z0d 4) (z0d 3))),(z0d 3)])))))))
def z3i:List D->Option D:=z1A 2 3 z5a
def z6f:SS->Option Out:=(z0G (z6B 2 (z0j z2w [(z0d 0)]))
 (z0G (ifO (z0F (d2 y3B (z0d 1) (z0d 2))) (z9n (mkT (z0n [(dC (.str "shut")),(z0d 2)]))) z0P)
 (z9n (mkT (z0n [(dC (.str "order")),(z1Q z1S [(z0d 0),(z0d 1)])])))))
def z4C:List D->Option D:=z1A 2 1 z6f
def z1n:SS->Option Out:=(z0G (ifO (z0F (d2 eqD (z0d 1) (dC (.str "plain")))) (z9n (z0j z3e [(z0d 0),(z0d 2)])) z0P)
 (z0G (ifO (z0F (d2 eqD (z0d 1) (dC (.str "ahead")))) (z9n (z0j z3i [(z0d 0),(z0d 2)])) z0P)
 (z0G (ifO (z0F (d2 eqD (z0d 1) (dC (.str "rest")))) (z9n (z0j z4C [(z0d 0),(z0d 2)])) z0P)
 (z3R 6 (dC (.str "there is no such kind"))))))
def z0M:List D->Option XO:=z9e 3 0 z1n
def z5Q:SS->Option Out:=(z0G (altO (z6B 2 (mkL (z1v (z4a (z0j z3V [(z0d 0)])) z6h (z1Q z0M [(z0d 0),(z0d 1),(z0d 3)])))) (exc1 (z4a (z0j z3V [(z0d 0)])) (z3g z0M [(z0d 0),(z0d 1),(z0d 3)])))
 (z9n (mkL (z1v (z3W (z0d 2)) z6h (dIf (z0F (d2 eqD (d2 ixD (z0d 3) (dC (.int 0))) (dC (.str "order")))) (d2 ixD (z0d 3) (dC (.int 1))) (dC .non))))))
def z3O:List D->Option XO:=z9e 2 1 z5Q
def z6G:SS->Option Out:=(z0G (z6B 3 (z1Q z3O [(z0d 0),(z0d 1)]))
 (z0G (y7U (z1Q z0O [(z0d 2),(z0j z3V [(z0d 0)])]))
 (z0G (z9H 4 (d2 ixD (mkL (z1v (z3W (z0d 2)) (y8T (d2 ixD (z0d 3) (z0d 5))) (z0d 5))) (dC (.int 0))))
 (z9n (mkT (z0n [(z0d 4),(d2 ixD (z0d 3) (z0d 4))]))))))
def z4K:List D->Option D:=z1A 3 2 z6G
def z4E:SS->Option Out:=(z0G (z7I 2 (z0j z1E [(d2 ixD (z0d 1) (dC (.int 0)))]))
 (z0G (z7I 3 (z0j z1E [(d2 ixD (z0d 1) (dC (.int 1)))]))
 (z0G (z6C 4 (z3W (z0d 0)) (z0G (ifO (z8W (z0F (d2 inD (z0d 4) (z0d 2))) (z0F (d2 y3B (z0d 4) (z0d 3)))) (z3z (dC (.str "left"))) z0P)
 (ifO (z8W (z0F (d2 inD (z0d 4) (z0d 3))) (z0F (d2 y3B (z0d 4) (z0d 2)))) (z3z (dC (.str "right"))) z0P)))
 (z3z (dC (.str "left"))))))
def z1L:List D->Option D:=z1A 2 3 z4E
def z5K:SS->Option Out:=(z0G (z7I 2 (z0J (z1v (z3W (z0d 0)) (z0F (d2 eqD (z0j z1L [(d2 ixD (z0d 3) (dC (.int 1))),(z0d 1)]) (dC (.str "left")))) (z0d 3))))
 (z3z (dIf (z0F (d2 gtI (d2 mulI (dC (.int 2)) (z0j z2c [(z0d 2)])) (z0j z2c [(z0d 0)]))) (dC (.str "left")) (dC (.str "right")))))
def z3B:List D->Option D:=z1A 2 1 z5K
def z6v:SS->Option Out:=(z3z (dIf (z0F (d2 eqD (z0d 1) (dC (.str "left")))) (d2 ixD (z0d 0) (dC (.int 0))) (d2 ixD (z0d 0) (dC (.int 1)))))
def z2d:List D->Option D:=z1A 2 0 z6v
def z4v:SS->Option Out:=(z0G (y4E (z3g z7p [(z0d 0),(z0d 1)]))
 (z0G (ifO (z6m (z0z (z0j z2B [(z0d 2),(z0d 1)]))) (z3R 4 (dC (.str "something in the tree is no number of a thing"))) z0P)
 (z0G (z7I 3 (z0J (z0n [])))
 (z0G (z9H 4 (z0d 2))
 (z0G (z4d (z0z (z0j z0p [(z0d 4)])) (z0G (z7I 5 (z0j z3B [(z0d 0),(z0d 4)]))
 (z0G (m0 3 y3z [(z0d 5)])
 (z7I 4 (z0j z2d [(z0d 4),(z0d 5)])))) 20)
 (y8p 3))))))
def z2U:List D->Option XO:=z9e 3 3 z4v
def z5r:SS->Option Out:=(z0G (z9H 3 (z0d 2))
 (z0G (z6C 4 (z3W (z1Q z2U [(z0d 0),(z0d 1),(z0d 2)])) (z7I 3 (z0j z2d [(z0d 3),(z0d 4)])))
 (z3z (z0d 3))))
def z3y:List D->Option D:=z1A 3 2 z5r
def z1Z:SS->Option Out:=(z0G (ifO (z0F (d2 ltI (z0d 1) (z0j z3V [(z0d 0)]))) (z3z (d2 ixD (z0d 0) (z0d 1))) z0P)
 (z3z (dC (.int 0))))
def z0s:List D->Option D:=z1A 2 0 z1Z
def z4x:SS->Option Out:=(z0G (z7I 2 (z0J (z0n [])))
 (z0G (z6C 3 (z4a (z0d 1)) (z0G (m0 2 insF [(d2 y2c (z0d 0) (d2 y6M (z0d 3) (dC (.int 1)))),(z0d 3)])
 (z9H 0 (d2 divI (z0d 0) (d2 y6M (z0d 3) (dC (.int 1)))))))
 (y8p 2)))
def z1o:List D->Option D:=z1A 2 2 z4x
def z4g:SS->Option Out:=(z0G (z7I 2 (z0J (z0n [])))
 (z0G (z6C 3 (z3W (mkL (y1E (z0d 0) (z3T (dC (.int 3))) (z3T (dC (.int 101)))))) (m0 2 y3z [(mkT (z0n [(d2 y6M (dC (.int 1)) (d2 y2c (d2 divI (z0d 3) (dC (.int 40320))) (d2 subI (d2 powI (dC (.int 10)) (dC (.int 30))) (dC (.int 1))))),(z0j tupF [(z0j z1o [(d2 y2c (z0d 3) (dC (.int 40320))),(z0d 1)])])]))]))
 (z0G (ifO (z0F (d2 eqD (z0j z3V [(z0d 2)]) (dC (.int 0)))) (m0 2 y3z [(mkT (z0n [(d2 y6M (dC (.int 1)) (d2 y2c (z0j z0s [(z0d 0),(dC (.int 2))]) (d2 subI (d2 powI (dC (.int 10)) (dC (.int 30))) (dC (.int 1))))),(z0j tupF [(z0j z1o [(z0j z0s [(z0d 0),(dC (.int 1))]),(z0d 1)])])]))]) z0P)
 (z0G (ifO (z0F (d2 eqD (d2 y2c (z0j sumF [(mkL (z1v (z3W (z0d 2)) z6h (d2 ixD (z0d 4) (dC (.int 0)))))]) (dC (.int 2))) (dC (.int 0)))) (st0 2 (dC (.int 0)) (mkT (z0n [(d2 y6M (d2 ixD (d2 ixD (z0d 2) (dC (.int 0))) (dC (.int 0))) (dC (.int 1))),(d2 ixD (d2 ixD (z0d 2) (dC (.int 0))) (dC (.int 1)))]))) z0P)
 (y8p 2)))))
def z2N:List D->Option D:=z1A 2 2 z4g
def z4B:SS->Option Out:=(z0G (z9H 2 (d2 ixD (z0d 1) (dC (.int 0))))
 (z0G (z6C 3 (z3W (mkL (y1E (z0d 1) (z3T (dC (.int 1))) z1G))) (ifO (z0z (d2 ixD (d2 ixD (z0d 0) (z0d 3)) (z0d 2))) (z9H 2 (z0d 3)) z0P))
 (z3z (z0d 2))))
def z2Q:List D->Option D:=z1A 2 2 z4B
def z4i:SS->Option Out:=(z0G (z7I 2 (z0J (z0n [])))
 (z0G (z6C 3 (y8n (z0d 1)) (ifO (z0F (d2 eqD (z0j z3V [(mkL (z1v (z3W (z0d 2)) (z6m (z0z (d2 ixD (d2 ixD (z0d 0) (z0d 3)) (z0d 4)))) (z0d 4)))]) (dC (.int 0)))) (m0 2 insF [(dC (.int 0)),(z0d 3)]) z0P))
 (y8p 2)))
def z2P:List D->Option D:=z1A 2 2 z4i
def z5P:SS->Option Out:=(z0G (z9H 2 (d2 ixD (z0d 1) (d1 uNeg (dC (.int 1)))))
 (z0G (z6C 3 (y8n (z0d 1)) (ifO (z0z (d2 ixD (d2 ixD (z0d 0) (z0d 3)) (z0d 2))) (z9H 2 (z0d 3)) z0P))
 (z3z (z0d 2))))
def z3E:List D->Option D:=z1A 2 2 z5P
def z3k:SS->Option Out:=(z0G (ifO (z0F (d2 eqD (z0d 1) (dC (.str "plain")))) (z6d (z0j z2Q [(z0d 0),(z0d 2)])) z0P)
 (z0G (ifO (z0F (d2 eqD (z0d 1) (dC (.str "ahead")))) (z3z (d2 ixD (z0j z2P [(z0d 0),(z0d 2)]) (dC (.int 0)))) z0P)
 (z6d (z0j z3E [(z0d 0),(z0d 2)]))))
def z1w:List D->Option D:=z1A 3 0 z3k
def z5k:SS->Option Out:=(z0G (z9H 3 (dC (.int 0)))
 (z0G (z6C 4 (z3W (z0d 0)) (ifO (z0F (d2 ltI (d2 tixF (d2 ixD (z0d 4) (dC (.int 1))) (z0d 1)) (d2 tixF (d2 ixD (z0d 4) (dC (.int 1))) (z0d 2)))) (z9H 3 (d2 y6M (z0d 3) (d2 ixD (z0d 4) (dC (.int 0))))) (z9H 3 (d2 subI (z0d 3) (d2 ixD (z0d 4) (dC (.int 0)))))))
 (z3z (z0d 3))))
def z2G:List D->Option D:=z1A 3 2 z5k
def z3Z:SS->Option Out:=(z0G (z7I 2 (z0J (z0n [])))
 (z0G (z6C 3 (z4a (z0d 1)) (y8b 2 (z0J (z1v (z4a (z0d 1)) z6h (y9t (d2 neD (z0d 3) (z0d 4)) (d2 gtI (z0j z2G [(z0d 0),(z0d 3),(z0d 4)]) (dC (.int 0))))))))
 (y8p 2)))
def z2V:List D->Option D:=z1A 2 2 z3Z
def z3K:SS->Option Out:=(z0G (frzO 3 (z6B 1 (mkL (z0n [(z0J (z0n []))]))))
 (z0G (z6C 2 (z4a (z0d 0)) (z0G (z7I 3 (z0J (z0n [])))
 (z0G (z6C 4 (z3W (z0d 1)) (z6C 5 (z4a (d2 y6M (z0j z3V [(z0d 4)]) (dC (.int 1)))) (y8b 3 (z0J (y7B (mkL (y7B (mkL (y1E (z0d 4) z1G (z3T (z0d 5)))) (mkL (z0n [(z0d 2)])))) (mkL (y1E (z0d 4) (z3T (z0d 5)) z1G)))))))
 (frzO 3 (z6B 1 (z0d 3))))))
 (z9n (z0d 1))))
def z2q:List D->Option D:=z1A 1 5 z3K
def z3m:SS->Option Out:=(z0G (ifO (z0F (d2 eqD (z0d 3) (dC (.str "plain")))) (z6d (z0j z3y [(z0d 0),(z0d 1),(z1Q z1p [(z0d 4)])])) z0P)
 (z0G (ifO (z0F (d2 eqD (z0d 3) (dC (.str "ahead")))) (z6d (z0j z1U [(z0d 2),(z1Q z1p [(z0d 4)])])) z0P)
 (z6d (z0j z1U [(z0d 2),(z0j z3C [(z0d 4)])]))))
def z1V:List D->Option D:=z1A 5 0 z3m
def g_law:SS->Option Out:=(z0G (z9H 1 (d2 y6M (dC (.int 1)) (d2 y2c (z0j z0s [(z0d 0),(dC (.int 0))]) (dC (.int 5)))))
 (z0G (z6B 2 (z0j z2N [(z0d 0),(z0d 1)]))
 (z0G (z6B 3 (z0j z2V [(z0d 2),(z0d 1)]))
 (z0G (ifO (z0F (d2 neD (z1Q z3d [(mkL (z2H z9i [(z0d 2)])),(z0d 1)]) (z0d 3))) (z3z (dC (.bl false))) z0P)
 (z0G (z6B 4 (z0j z1o [(z0j z0s [(z0d 0),(dC (.int 2))]),(z0d 1)]))
 (z0G (z6B 5 (z0j z2q [(z0d 1)]))
 (z0G (z6C 6 (z3W (mkL (z0n [(dC (.str "plain")),(dC (.str "ahead")),(dC (.str "rest"))]))) (z0G (z6B 7 (z0j z4K [(z1Q z3d [(mkL (z2H z9i [(z0d 2)])),(z0d 1)]),(z0d 6),(mkL (z2H z9i [(z0d 4)]))]))
 (z0G (ifO (z0F (d2 neD (z0j z1V [(mkL (z2H z9i [(z0d 2)])),(z0d 1),(z0d 3),(z0d 6),(mkL (z2H z9i [(d2 ixD (z0d 7) (dC (.int 1)))]))]) (d2 ixD (z0d 7) (dC (.int 0))))) (z3z (dC (.bl false))) z0P)
 (z0G (z6B 8 (mkL (z1v (z3W (z0d 5)) z6h (z0j z1w [(z0d 3),(z0d 6),(z0d 9)]))))
 (ifO (z0F (d2 neD (d2 ixD (z0d 7) (dC (.int 0))) (d2 ixD (mkL (z1v (z3W (z0d 4)) (z0F (d2 inD (z0d 9) (z0d 8))) (z0d 9))) (dC (.int 0))))) (z3z (dC (.bl false))) z0P)))))
 (z3z (dC (.bl true))))))))))
def y7S:List D->Option D:=z1A 1 8 g_law
structure Txt(mg:Str->Option Value):Prop where
 kh:mg "all" = none
 gp:mg "enumerate" = none
 k9:mg "int" = none
 g0:mg "isinstance" = none
 kY:mg "bool" = none
 fE:mg "len" = none
 kN:mg "sum" = none
 fH:mg "range" = none
 jW:mg "tuple" = none
 j2:mg "sorted" = none
 la:mg "set" = none
 gR:mg "reversed" = none
 lc:mg "min" = none
 ja:mg "list" = none
structure Cls(K:aa)(mg:Str->Option Value)(base:Heap)(cl:Nat->Value):Prop where
 kb:∃C,cl 1 = .ref C∧OwnCls "BadBallot" C y7u "ValueError.__new__" mg base∧aE K mainGlobals "BadBallot" = some (some (.ref C))∧True
 kZ:∃C,cl 2 = .ref C∧OwnCls "Even" C y7u "ValueError.__new__" mg base∧aE K mainGlobals "Even" = some (some (.ref C))∧True
 ki:∃C,cl 3 = .ref C∧OwnCls "BadOrder" C y7u "ValueError.__new__" mg base∧aE K mainGlobals "BadOrder" = some (some (.ref C))∧True
 kE:∃C,cl 4 = .ref C∧OwnCls "BadTree" C y7u "ValueError.__new__" mg base∧aE K mainGlobals "BadTree" = some (some (.ref C))∧True
 kK:∃C,cl 5 = .ref C∧OwnCls "NotTop" C y7u "ValueError.__new__" mg base∧aE K mainGlobals "NotTop" = some (some (.ref C))∧True
 kF:∃C,cl 6 = .ref C∧OwnCls "Unknown" C y7u "ValueError.__new__" mg base∧aE K mainGlobals "Unknown" = some (some (.ref C))∧True
section
variable{P:dw}{w:fm}{K:aa}{mg:Str->Option Value}{base:Heap}{cl:Nat->Value}
theorem y2v:FnScope y4g z8C (z0e z5D):=z0B
theorem y3j(B:FnB K mg "beats_all" z5D z8C)(T:Txt mg):DefOk P w K mg base 1 "beats_all" (spN K z1F):=
 B.on fun F hm hb=>z2J (k:=0) (g:=z5O) F hm hb y2v rfl rfl fun cdv A outer s H E hr=>
  (z0h (z0L (x0X rfl rfl T.kh (z3t (z1T (N':=["table", "one", "things", "other"])  rfl ⟨rfl,rfl,rfl,rfl,rfl⟩ (n:=3) rfl (z0v (z0g 2 (pv 2))) (fun _ _ _ _ _=>z0l (i:=3) nd0 rfl (Or.inl rfl)) (fun _ _ _ _ _=>z0Q) (fun _ _ _ _ _=>(z0u (z0u (z0g 0 (pv 0)) (z0g 1 (pv 1))) (z0g 3 (pv 3)))))))))
theorem z9s:FnScope y1x z6o (z0e z3p):=z0B
theorem z9p(B:FnB K mg "places_true" z3p z6o)(T:Txt mg):DefOk P w K mg base 1 "places_true" (spN K z2o):=
 B.on fun F hm hb=>z2J (k:=0) (g:=z3u) F hm hb z9s rfl rfl fun cdv A outer s H E hr=>
  (z0h (z1h (z6I (y1u (N':=["marks", "place", "mark"])  rfl ⟨rfl,rfl,rfl,rfl,rfl⟩ (n:=1) rfl (z7P rfl T.gp (z0g 0 (pv 0))) (fun _ _ _ _ _=>y9Q rfl (z0l (i:=1) nd1 rfl (Or.inl rfl)) (z0l (i:=2) nd1 rfl (Or.inl rfl))) (fun _ _ _ _ _=>z0W (z0o (z0g 2 (pv 2)))) (fun _ _ _ _ _=>(z0g 1 (pv 1)))))))
theorem y2B:FnScope y4H z8S (z0e z5B):=z0B
theorem y2d(B:FnB K mg "beaten_by" z5B z8S)(T:Txt mg)(gE:DefOk P w K mg base 1 "places_true" (spN K z2o)):DefOk P w K mg base 2 "beaten_by" (spN K z1H):=
 B.on fun F hm hb=>z2J (k:=1) (g:=z5u) F hm hb y2B rfl rfl fun cdv A outer s H E hr=>
  (z0h (z1h (z0i gE (hr.mono (by decide)) rfl (z0a (z0u (z0g 0 (pv 0)) (z0g 1 (pv 1))) z0c))))
theorem y3Z:FnScope y7g z9T (z0e z6X):=z0B
theorem y4y(B:FnB K mg "is_thing" z6X z9T)(T:Txt mg):DefOk P w K mg base 1 "is_thing" (spN K z1K):=
 B.on fun F hm hb=>z2J (k:=0) (g:=z4M) F hm hb y3Z rfl rfl fun cdv A outer s H E hr=>
  (z0h (z0L (y2U (x2v rfl T.k9 rfl T.g0 (z0g 0 (pv 0))) (y2U (pd_not (x0u rfl T.kY rfl T.g0 (z0g 0 (pv 0)))) (y6F (x3h op_le op_lt z4W z4W z0k (z0g 0 (pv 0)) (z0g 1 (pv 1))))))))
theorem fL:FnScope z7b z3f (z0e z1W):=z0B
theorem z6w(B:FnB K mg "tells_each_once" z1W z3f)(T:Txt mg)(fN:DefOk P w K mg base 1 "is_thing" (spN K z1K)):DefOk P w K mg base 2 "tells_each_once" (spN K z0y):=
 B.on fun F hm hb=>z2J (k:=1) (g:=z0Z) F hm hb fL rfl rfl fun cdv A outer s H E hr=>
  (z0f (z3n (x2s hr.units (z1x rfl T.fE (z0g 0 (pv 0))) (z0g 1 (pv 1))) (z0h (z0L y1v)) z0C)
   (z0f (z1C (z0H (i:=2) fL.nd rfl (Or.inl rfl) pn_dnew))
   (z0f (z2s PassesOwn.never rfl (z0v (z0g 0 (pv 0))) (z0l (i:=3) fL.nd rfl (Or.inl rfl)) (z0f (z3n (PW.pt (x5m (z3Y (z0o (z1D (z0i fN (hr.mono (by decide)) rfl (z0a (z0g 3 (pv 3)) (z0a (z0g 1 (pv 1)) z0c)))))) (x0c (pt_din hr.units (z0g 3 (pv 3)) (z0g 2 (pv 2)))))) (z0h (z0L y1v)) z0C)
   (z0h (x5t hr.units (pv 2) (z0g 3 (pv 3)) y1v))))
   (z0h (z0L y1v)))))
theorem y9G:FnScope x2q y5H (z0e y0W):=z0B
theorem y8L(B:FnB K mg "voices" y0W y5H)(T:Txt mg):DefOk P w K mg base 1 "voices" (spN K z2c):=
 B.on fun F hm hb=>z2J (k:=0) (g:=y1g) F hm hb y9G rfl rfl fun cdv A outer s H E hr=>
  (z0h (z0L (x4X rfl rfl T.kN (z3t (z1T (N':=["votes", "ballot"])  rfl ⟨rfl,rfl,rfl,rfl,rfl⟩ (n:=1) rfl (z0v (z0g 0 (pv 0))) (fun _ _ _ _ _=>z0l (i:=1) nd2 rfl (Or.inl rfl)) (fun _ _ _ _ _=>z0Q) (fun _ _ _ _ _=>(z0u (z0g 1 (pv 1)) z0k)))))))
theorem j3:FnScope kP y3L (z0e y3M):=z0B
theorem x2X(B:FnB K mg "asked" y3M y3L)(T:Txt mg)(Z:Cls K mg base cl)(G_tells_each_once:DefOk P w K mg base 2 "tells_each_once" (spN K z0y))(G_voices:DefOk P w K mg base 1 "voices" (spN K z2c)):DefX P w K mg base 3 "asked" (spX K cl z7p):=by
 obtain⟨fS,j4,kc,nn_BadBallot,xb_BadBallot⟩:=Z.kb
 obtain⟨jw,kR,k6,nn_Even,xb_Even⟩:=Z.kZ
 exact B.on fun F hm hb=>⟨_,_,y3L,hm,F.kp,hb,fnX (k:=2) (g:=y0K) F j3 rfl rfl fun cdv A outer s H E hr=>
  (z0f (z2s PassesOwn.leaving rfl (z0v (z0g 0 (pv 0))) (z0l (i:=2) j3.nd rfl (Or.inl rfl)) (z0h (z3n (z3Y (z0o (z1D (z0i G_tells_each_once (hr.mono (by decide)) rfl (z0a (z0u (z0g 2 (pv 2)) z0k) (z0a (z0g 1 (pv 1)) z0c)))))) (z0h (z4O (c:=1) rfl rfl kc (z4U j4) z0N)) z0C)))
   (z0h (z3n (z3w hr.units (z7v (z1D (z0i G_voices (hr.mono (by decide)) rfl (z0a (z0g 0 (pv 0)) z0c))) z0k) z0k) (z0h (z4O (c:=2) rfl rfl k6 (z4U kR) z0N)) z0C)))⟩
theorem y0E:FnScope y2p z7u (z0e z4n):=z0B
theorem y0Z(B:FnB K mg "puts_ahead" z4n z7u)(T:Txt mg):DefOk P w K mg base 1 "puts_ahead" (spN K z1k):=
 B.on fun F hm hb=>z2J (k:=0) (g:=z4D) F hm hb y0E rfl rfl fun cdv A outer s H E hr=>
  (z0h (z0L (pd_lt (z6r (z0g 0 (pv 0)) (z0g 1 (pv 1))) (z6r (z0g 0 (pv 0)) (z0g 2 (pv 2))))))
theorem jX:FnScope kX x5g (z0e x1a):=z0B
theorem kT(B:FnB K mg "lead" x1a x5g)(T:Txt mg)(G_voices:DefOk P w K mg base 1 "voices" (spN K z2c))(f7:DefOk P w K mg base 1 "puts_ahead" (spN K z1k)):DefOk P w K mg base 2 "lead" (spN K y2s):=
 B.on fun F hm hb=>z2J (k:=1) (g:=y8I) F hm hb jX rfl rfl fun cdv A outer s H E hr=>
  (z0f (z1C (PAsg.imp (z9G (i:=3) (N':=["votes", "one", "other", "ahead", "behind", "ballot"]) jX.nd rfl rfl rfl ⟨rfl,rfl,rfl,rfl,rfl⟩ (n:=5) rfl (z0v (z0g 0 (pv 0))) (fun _ _ _ _ _=>z0l (i:=5) nd3 rfl (Or.inl rfl)) (fun _ _ _ _ _=>z0W (z0o (z1D (z0i f7 (hr.mono (by decide)) rfl (z0a (z0u (z0g 5 (pv 5)) z0k) (z0a (z0g 1 (pv 1)) (z0a (z0g 2 (pv 2)) z0c))))))) (fun _ _ _ _ _=>(z0g 5 (pv 5)))) iNF))
   (z0f (z1C (PAsg.imp (z9G (i:=4) (N':=["votes", "one", "other", "ahead", "behind", "ballot"]) jX.nd rfl rfl rfl ⟨rfl,rfl,rfl,rfl,rfl⟩ (n:=5) rfl (z0v (z0g 0 (pv 0))) (fun _ _ _ _ _=>z0l (i:=5) nd3 rfl (Or.inl rfl)) (fun _ _ _ _ _=>z0W (z0o (z1D (z0i f7 (hr.mono (by decide)) rfl (z0a (z0u (z0g 5 (pv 5)) z0k) (z0a (z0g 2 (pv 2)) (z0a (z0g 1 (pv 1)) z0c))))))) (fun _ _ _ _ _=>(z0g 5 (pv 5)))) iNF))
   (z0h (z0L (y5n (z1D (z0i G_voices (hr.mono (by decide)) rfl (z0a (z0g 3 (pv 3)) z0c))) (z1D (z0i G_voices (hr.mono (by decide)) rfl (z0a (z0g 4 (pv 4)) z0c))))))))
theorem x1U:FnScope x3R y6w (z0e y0B):=z0B
theorem x0S(B:FnB K mg "row_of" y0B y6w)(T:Txt mg)(j5:DefOk P w K mg base 2 "lead" (spN K y2s)):DefOk P w K mg base 3 "row_of" (spN K z7W):=
 B.on fun F hm hb=>z2J (k:=2) (g:=y0z) F hm hb x1U rfl rfl fun cdv A outer s H E hr=>
  (z0h (z1h (z6I (z1T (N':=["votes", "many", "one", "other"])  rfl ⟨rfl,rfl,rfl,rfl,rfl⟩ (n:=3) rfl (z2j rfl T.fH (z0g 1 (pv 1))) (fun _ _ _ _ _=>z0l (i:=3) nd4 rfl (Or.inl rfl)) (fun _ _ _ _ _=>z0Q) (fun _ _ _ _ _=>(y2U (pd_ne hr.units (z0g 2 (pv 2)) (z0g 3 (pv 3))) (y6F (pd_gt (z1D (z0i j5 (hr.mono (by decide)) rfl (z0a (z0g 0 (pv 0)) (z0a (z0g 2 (pv 2)) (z0a (z0g 3 (pv 3)) z0c))))) z0k))))))))
theorem y4v:FnScope y7p z7n (z0e z7h):=z0B
theorem y4q(B:FnB K mg "table_of" z7h z7n)(T:Txt mg)(Z:Cls K mg base cl)(gY:DefX P w K mg base 3 "asked" (spX K cl z7p))(jJ:DefOk P w K mg base 3 "row_of" (spN K z7W)):DefX P w K mg base 4 "table_of" (spX K cl z3d):=by
 exact B.on fun F hm hb=>⟨_,_,z7n,hm,F.kp,hb,fnX (k:=3) (g:=z6N) F y4v rfl rfl fun cdv A outer s H E hr=>
  (z0f (y5a (y0Y gY (hr.mono (by decide)) rfl y9k (z0a (z0g 0 (pv 0)) (z0a (z0g 1 (pv 1)) z0c))))
   (z0h (z1h (y0O (N':=["votes", "many", "one"])  rfl ⟨rfl,rfl,rfl,rfl,rfl⟩ (n:=2) rfl (z2j rfl T.fH (z0g 1 (pv 1))) (fun _ _ _ _ _=>z0l (i:=2) nd5 rfl (Or.inl rfl)) (fun _ _ _ _ _=>z0Q) (fun _ _ _ _ _=>(z0i jJ (hr.mono (by decide)) rfl (z0a (z0g 0 (pv 0)) (z0a (z0g 1 (pv 1)) (z0a (z0g 2 (pv 2)) z0c)))))))))⟩
theorem z9h:FnScope y1o z5Y (z0e z3I):=z0B
theorem z9t(B:FnB K mg "is_question" z3I z5Y)(T:Txt mg):DefOk P w K mg base 1 "is_question" (spN K z0p):=
 B.on fun F hm hb=>z2J (k:=0) (g:=z1t) F hm hb z9h rfl rfl fun cdv A outer s H E hr=>
  (z0h (z0L (x3t rfl T.jW rfl T.g0 (z0g 0 (pv 0)))))
theorem z6y:FnScope y1U z4I (z0e z2S):=z0B
theorem z5i(B:FnB K mg "numbers_in" z2S z4I)(T:Txt mg)(G_is_question:DefOk P w K mg base 1 "is_question" (spN K z0p)):∀n:Nat,DefOk P w K mg base (2+n) "numbers_in" (spN K (z1c n))
 |0=>B.on fun F hm hb=>z2J (k:=1) (g:=fun _=>none) F hm hb z6y rfl rfl fun cdv A outer s H E hr=>z7S
 |n+1=>by
  have G_numbers_in:=z5i B T G_is_question n
  exact B.on fun F hm hb=>z2J (k:=2+n) (g:=z1J (z1c n)) F hm hb z6y rfl rfl fun cdv A outer s H E hr=>
  (z0f (z3n (z0o (z1D (z0i G_is_question (hr.mono (by omega)) rfl (z0a (z0g 0 (pv 0)) z0c)))) (z0h (z1h (z6I (z6q (z1D (z0i G_numbers_in (hr.mono (by omega)) rfl (z0a (z0u (z0g 0 (pv 0)) z0k) z0c))) (z1D (z0i G_numbers_in (hr.mono (by omega)) rfl (z0a (z0u (z0g 0 (pv 0)) z0k) z0c))))))) z0C)
   (z0h (z1h (z6I (z1d (z0a (z0g 0 (pv 0)) z0c) (bT rfl))))))
theorem y0U(B:FnB K mg "numbers_in" z2S z4I)(T:Txt mg)(G_is_question:DefOk P w K mg base 1 "is_question" (spN K z0p)):DefOk P w K mg base 14 "numbers_in" (spN K z1b):=z5i B T G_is_question 12
theorem y7a:FnScope x0K y3e (z0e z8I):=z0B
theorem y7T(B:FnB K mg "is_good" z8I y3e)(T:Txt mg)(fN:DefOk P w K mg base 1 "is_thing" (spN K z1K))(G_numbers_in:DefOk P w K mg base 14 "numbers_in" (spN K z1b)):DefOk P w K mg base 15 "is_good" (spN K z2B):=
 B.on fun F hm hb=>z2J (k:=14) (g:=z5X) F hm hb y7a rfl rfl fun cdv A outer s H E hr=>
  (z0h (z0L (x0X rfl rfl T.kh (z1D (y0O (N':=["tree", "many", "number"])  rfl ⟨rfl,rfl,rfl,rfl,rfl⟩ (n:=2) rfl (z0v (z1D (z0i G_numbers_in (hr.mono (by decide)) rfl (z0a (z0g 0 (pv 0)) z0c)))) (fun _ _ _ _ _=>z0l (i:=2) nd6 rfl (Or.inl rfl)) (fun _ _ _ _ _=>z0Q) (fun _ _ _ _ _=>(z0i fN (hr.mono (by decide)) rfl (z0a (z0g 2 (pv 2)) (z0a (z0g 1 (pv 1)) z0c)))))))))
theorem y2t:FnScope y4p z8M (z0e z5J):=z0B
theorem y2D(B:FnB K mg "things_in" z5J z8M)(T:Txt mg)(G_numbers_in:DefOk P w K mg base 14 "numbers_in" (spN K z1b)):DefOk P w K mg base 15 "things_in" (spN K z1E):=
 B.on fun F hm hb=>z2J (k:=14) (g:=z5y) F hm hb y2t rfl rfl fun cdv A outer s H E hr=>
  (z0h (z1h (z6I (y8h rfl rfl T.j2 rfl T.la (z1D (z0i G_numbers_in (hr.mono (by decide)) rfl (z0a (z0g 0 (pv 0)) z0c)))))))
theorem z9k:FnScope y0C z3A (z0e z3v):=z0B
theorem z9j(B:FnB K mg "order_asked" z3v z3A)(T:Txt mg)(Z:Cls K mg base cl)(G_tells_each_once:DefOk P w K mg base 2 "tells_each_once" (spN K z0y)):DefX P w K mg base 3 "order_asked" (spX K cl z0O):=by
 obtain⟨f8,kf,kj,nn_BadOrder,xb_BadOrder⟩:=Z.ki
 exact B.on fun F hm hb=>⟨_,_,z3A,hm,F.kp,hb,fnX (k:=2) (g:=z3J) F z9k rfl rfl fun cdv A outer s H E hr=>
  (z0h (z3n (PW.pt (x5m (z3w hr.units (z0g 1 (pv 1)) z0k) (x0c (z3Y (z0o (z1D (z0i G_tells_each_once (hr.mono (by decide)) rfl (z0a (z0g 0 (pv 0)) (z0a (z0g 1 (pv 1)) z0c))))))))) (z0h (z4O (c:=3) rfl rfl kj (z4U kf) z0N)) z0C))⟩
theorem z2f:FnScope z5c z1z (z0e z0U):=z0B
theorem z1R(B:FnB K mg "standing_questions" z0U z1z)(T:Txt mg):∀n:Nat,DefOk P w K mg base (1+n) "standing_questions" (spN K (z0K n))
 |0=>B.on fun F hm hb=>z2J (k:=0) (g:=fun _=>none) F hm hb z2f rfl rfl fun cdv A outer s H E hr=>z7S
 |n+1=>by
  have G_standing_questions:=z1R B T n
  exact B.on fun F hm hb=>z2J (k:=1+n) (g:=z0V (z0K n)) F hm hb z2f rfl rfl fun cdv A outer s H E hr=>
  (z0f (z3n (z3w hr.units (z1x rfl T.fE (z0g 0 (pv 0))) z0k) (z0h (z0L (z0u (z0g 0 (pv 0)) z0k))) z0C)
   (z0h (z0L (z2L (z0a (z1D (z0i G_standing_questions (hr.mono (by omega)) rfl (z0a (z3t (z6q (z3t (z1g (z0g 0 (pv 0)) z1s (z1e z0k))) (z3t (z1g (z0g 0 (pv 0)) (z1e z0k) z1s)))) z0c))) (z0a (z1D (z0i G_standing_questions (hr.mono (by omega)) rfl (z0a (z3t (z1g (z0g 0 (pv 0)) (z1e z0k) z1s)) z0c))) z0c)) (bT rfl)))))
theorem z4w(B:FnB K mg "standing_questions" z0U z1z)(T:Txt mg):DefOk P w K mg base 13 "standing_questions" (spN K z0T):=z1R B T 12
theorem z7G:FnScope z8F z2F (z0e z2x):=z0B
theorem z7F(B:FnB K mg "standing_tree" z2x z2F)(T:Txt mg)(Z:Cls K mg base cl)(G_order_asked:DefX P w K mg base 3 "order_asked" (spX K cl z0O))(G_standing_questions:DefOk P w K mg base 13 "standing_questions" (spN K z0T)):DefX P w K mg base 14 "standing_tree" (spX K cl z1p):=by
 exact B.on fun F hm hb=>⟨_,_,z2F,hm,F.kp,hb,fnX (k:=13) (g:=z2y) F z7G rfl rfl fun cdv A outer s H E hr=>
  (z0f (y5a (y0Y G_order_asked (hr.mono (by decide)) rfl y9k (z0a (z0g 0 (pv 0)) (z0a (z1x rfl T.fE (z0g 0 (pv 0))) z0c))))
   (z0h (z1h (z0i G_standing_questions (hr.mono (by decide)) rfl (z0a (z0g 0 (pv 0)) z0c)))))⟩
theorem f9:FnScope y5f z8g (z0e z5T):=z0B
theorem y2u(B:FnB K mg "rest_tree" z5T z8g)(T:Txt mg)(Z:Cls K mg base cl)(G_order_asked:DefX P w K mg base 3 "order_asked" (spX K cl z0O)):DefOk P w K mg base 4 "rest_tree" (spN K z3C):=
 B.on fun F hm hb=>z2J (k:=3) (g:=z5F) F hm hb f9 rfl rfl fun cdv A outer s H E hr=>
  (z0f (y9X (z2n G_order_asked (hr.mono (by decide)) rfl (z0a (z0g 0 (pv 0)) (z0a (z1x rfl T.fE (z0g 0 (pv 0))) z0c))))
   (z0f (z2m (z0H (i:=1) f9.nd rfl (Or.inl rfl) (z0u (z0g 0 (pv 0)) (y6I z0k))))
   (z0f (z2s PassesOwn.never rfl (y3G rfl T.gR (z3t (z1g (z0g 0 (pv 0)) z1s (z1e (y6I z0k))))) (z0l (i:=2) f9.nd rfl (Or.inl rfl)) (z0h (z2m (z0H (i:=1) f9.nd rfl (Or.inl rfl) (z2L (z0a (z0g 2 (pv 2)) (z0a (z0g 1 (pv 1)) z0c)))))))
   (z0h (z0L (z0g 1 (pv 1)))))))
theorem x0g:FnScope x2o y6C (z0e y0S):=z0B
theorem y9i(B:FnB K mg "winner" y0S y6C)(T:Txt mg):DefOk P w K mg base 1 "winner" (spN K z6j):=
 B.on fun F hm hb=>z2J (k:=0) (g:=y0m) F hm hb x0g rfl rfl fun cdv A outer s H E hr=>
  (z0h (z0L (x3u (z0o (z0u (z0u (z0g 0 (pv 0)) (z0g 2 (pv 2))) (z0g 1 (pv 1)))) (z0g 2 (pv 2)) (z0g 1 (pv 1)))))
theorem y2e:FnScope x2L y0I (z0e z8a):=z0B
theorem z9x(B:FnB K mg "end_of" z8a y0I)(T:Txt mg)(G_is_question:DefOk P w K mg base 1 "is_question" (spN K z0p))(gh:DefOk P w K mg base 1 "winner" (spN K z6j)):∀n:Nat,DefOk P w K mg base (2+n) "end_of" (spN K (z2z n))
 |0=>B.on fun F hm hb=>z2J (k:=1) (g:=fun _=>none) F hm hb y2e rfl rfl fun cdv A outer s H E hr=>z7S
 |n+1=>by
  have gi:=z9x B T G_is_question gh n
  exact B.on fun F hm hb=>z2J (k:=2+n) (g:=z4R (z2z n)) F hm hb y2e rfl rfl fun cdv A outer s H E hr=>
  (z0f (z3n (z3Y (z0o (z1D (z0i G_is_question (hr.mono (by omega)) rfl (z0a (z0g 1 (pv 1)) z0c))))) (z0h (z0L (z0g 1 (pv 1)))) z0C)
   (z0h (z1h (z0i gh (hr.mono (by omega)) rfl (z0a (z0g 0 (pv 0)) (z0a (z1D (z0i gi (hr.mono (by omega)) rfl (z0a (z0g 0 (pv 0)) (z0a (z0u (z0g 1 (pv 1)) z0k) z0c)))) (z0a (z1D (z0i gi (hr.mono (by omega)) rfl (z0a (z0g 0 (pv 0)) (z0a (z0u (z0g 1 (pv 1)) z0k) z0c)))) z0c)))))))
theorem x1d(B:FnB K mg "end_of" z8a y0I)(T:Txt mg)(G_is_question:DefOk P w K mg base 1 "is_question" (spN K z0p))(gh:DefOk P w K mg base 1 "winner" (spN K z6j)):DefOk P w K mg base 14 "end_of" (spN K z6c):=z9x B T G_is_question gh 12
theorem y2l:FnScope y3F z8h (z0e z5L):=z0B
theorem y2F(B:FnB K mg "ahead_end" z5L z8h)(T:Txt mg)(fY:DefOk P w K mg base 15 "is_good" (spN K z2B))(gi:DefOk P w K mg base 14 "end_of" (spN K z6c)):DefOk P w K mg base 16 "ahead_end" (spN K z1U):=
 B.on fun F hm hb=>z2J (k:=15) (g:=z3L) F hm hb y2l rfl rfl fun cdv A outer s H E hr=>
  (z0f (z3n (z3Y (z0o (z1D (z0i fY (hr.mono (by decide)) rfl (z0a (z0g 1 (pv 1)) (z0a (z1x rfl T.fE (z0g 0 (pv 0))) z0c)))))) (z0h s_never) z0C)
   (z0h (z1h (z0i gi (hr.mono (by decide)) rfl (z0a (z0g 0 (pv 0)) (z0a (z0g 1 (pv 1)) z0c))))))
theorem y4O:FnScope y7x z9I (z0e z6W):=z0B
theorem y3R(B:FnB K mg "is_chain" z6W z9I)(T:Txt mg)(G_beats_all:DefOk P w K mg base 1 "beats_all" (spN K z1F)):DefOk P w K mg base 2 "is_chain" (spN K z4Q):=
 B.on fun F hm hb=>z2J (k:=1) (g:=z4L) F hm hb y4O rfl rfl fun cdv A outer s H E hr=>
  (z0f (z3n (z3w hr.units (z1x rfl T.fE (z0g 1 (pv 1))) z0k) (z0h (z0L y1v)) z0C)
   (z0h (z0L (x0X rfl rfl T.kh (z3t (y1u (N':=["table", "things", "place", "one"])  rfl ⟨rfl,rfl,rfl,rfl,rfl⟩ (n:=2) rfl (z7P rfl T.gp (z0g 1 (pv 1))) (fun _ _ _ _ _=>y9Q rfl (z0l (i:=2) nd7 rfl (Or.inl rfl)) (z0l (i:=3) nd7 rfl (Or.inl rfl))) (fun _ _ _ _ _=>z0Q) (fun _ _ _ _ _=>(z1D (z0i G_beats_all (hr.mono (by decide)) rfl (z0a (z0g 0 (pv 0)) (z0a (z0g 3 (pv 3)) (z0a (z3t (z1g (z0g 1 (pv 1)) (z1e (z3P (z0g 2 (pv 2)) z0k)) z1s)) z0c))))))))))))
theorem y7Y:FnScope x1p y3o (z0e z8N):=z0B
theorem y8e(B:FnB K mg "beaters" z8N y3o)(T:Txt mg)(G_beats_all:DefOk P w K mg base 1 "beats_all" (spN K z1F)):DefOk P w K mg base 2 "beaters" (spN K z2D):=
 B.on fun F hm hb=>z2J (k:=1) (g:=z8j) F hm hb y7Y rfl rfl fun cdv A outer s H E hr=>
  (z0h (z1h (z6I (z1T (N':=["table", "things", "one"])  rfl ⟨rfl,rfl,rfl,rfl,rfl⟩ (n:=2) rfl (z2j rfl T.fH (z1x rfl T.fE (z0g 0 (pv 0)))) (fun _ _ _ _ _=>z0l (i:=2) nd8 rfl (Or.inl rfl)) (fun _ _ _ _ _=>z0W (z0o (z1D (z0i G_beats_all (hr.mono (by decide)) rfl (z0a (z0g 0 (pv 0)) (z0a (z0g 2 (pv 2)) (z0a (z0g 1 (pv 1)) z0c))))))) (fun _ _ _ _ _=>(z0g 2 (pv 2)))))))
theorem x0n:FnScope x2r y6t (z0e y1C):=z0B
theorem y9l(B:FnB K mg "stands" y1C y6t)(T:Txt mg)(jb:DefOk P w K mg base 2 "is_chain" (spN K z4Q))(fZ:DefOk P w K mg base 2 "beaters" (spN K z2D)):DefOk P w K mg base 3 "stands" (spN K z6x):=
 B.on fun F hm hb=>z2J (k:=2) (g:=y0L) F hm hb x0n rfl rfl fun cdv A outer s H E hr=>
  (z0h (z0L (y2U (z1D (z0i jb (hr.mono (by decide)) rfl (z0a (z0g 0 (pv 0)) (z0a (z0g 1 (pv 1)) z0c)))) (y6F (pd_eq hr.units (z1x rfl T.fE (z1D (z0i fZ (hr.mono (by decide)) rfl (z0a (z0g 0 (pv 0)) (z0a (z0g 1 (pv 1)) z0c))))) z0k)))))
theorem fK:FnScope z9m z3a (z0e z1X):=z0B
theorem z3Q(B:FnB K mg "ended_chains" z1X z3a)(T:Txt mg):∀n:Nat,DefOk P w K mg base (1+n) "ended_chains" (spM2 K (z1q n))
 |0=>B.on fun F hm hb=>defM2 (k:=0) (g:=fun _=>none) F hm hb fK rfl rfl fun cdv A outer s H H0 E hr=>z7S
 |n+1=>by
  have G_ended_chains:=z3Q B T n
  exact B.on fun F hm hb=>defM2 (k:=1+n) (g:=z2b (z1q n)) F hm hb fK rfl rfl fun cdv A outer s H H0 E hr=>
  (z0f (z3n (z3Y (z0o (z0g 2 (pv 2)))) (z0h (s_ret1 (pv 1))) z0C)
   (z0f (z1C (z0H (i:=3) fK.nd rfl (Or.inl rfl) (z6I (z1d z0c (bT rfl)))))
   (z0f (z2s PassesOwn.never rfl (z0v (z0g 2 (pv 2))) (z0l (i:=4) fK.nd rfl (Or.inr rfl)) (z0h (x1t (pv 3) (y2a G_ended_chains (hr.mono (by omega)) rfl (z0g 0 (pv 0)) (z6I (z6q (z0g 1 (pv 1)) (z3t (z1d (z0a (z0g 4 (pv 4)) z0c) (bT rfl))))) (z0a (z3t (z1T (N':=["table", "chain", "further", "chains", "thing", "other"])  rfl ⟨rfl,rfl,rfl,rfl,rfl⟩ (n:=5) rfl (z0v (z0g 2 (pv 2))) (fun _ _ _ _ _=>z0l (i:=5) nd9 rfl (Or.inl rfl)) (fun _ _ _ _ _=>z0W (z0o (z0u (z0u (z0g 0 (pv 0)) (z0g 4 (pv 4))) (z0g 5 (pv 5))))) (fun _ _ _ _ _=>(z0g 5 (pv 5))))) z0c)))))
   (z0h (z7y (pv 3))))))
theorem z8Q(B:FnB K mg "ended_chains" z1X z3a)(T:Txt mg):DefOk P w K mg base 13 "ended_chains" (spM2 K z1Y):=z3Q B T 12
theorem gj:FnScope y0y z6g (z0e z3G):=z0B
theorem z9o(B:FnB K mg "crown_paper" z3G z6g)(T:Txt mg)(G_beaten_by:DefOk P w K mg base 2 "beaten_by" (spN K z1H))(fZ:DefOk P w K mg base 2 "beaters" (spN K z2D))(jK:DefOk P w K mg base 3 "stands" (spN K z6x))(G_ended_chains:DefOk P w K mg base 13 "ended_chains" (spM2 K z1Y)):DefOk P w K mg base 14 "crown_paper" (spR K z2t):=
 B.on fun F hm hb=>x4F (k:=13) (g:=z3D) F hm hb gj rfl rfl fun cdv A outer s H E B hr=>
  (z0f (z1j (z0H (i:=2) gj.nd rfl (Or.inl rfl) (z1D (y2a G_ended_chains (hr.mono (by decide)) rfl (z0g 0 (pv 0)) (z6I (z1d (z0a (z0g 1 (pv 1)) z0c))) (z0a (z1D (z0i G_beaten_by (hr.mono (by decide)) rfl (z0a (z0g 0 (pv 0)) (z0a (z0g 1 (pv 1)) z0c)))) z0c)))))
   (z0f (z2s PassesOwn.never rfl (z0v (z0g 2 (pv 2))) (z0l (i:=3) gj.nd rfl (Or.inl rfl)) (z0h (z3n (z0o (z1D (z0i jK (hr.mono (by decide)) rfl (z0a (z0g 0 (pv 0)) (z0a (z0g 3 (pv 3)) z0c))))) (z0h (z2e (z2L (z0a z0N (z0a (z0g 3 (pv 3)) z0c))))) z0C)))
   (z0h (z2e (z2L (z0a z0N (z0a (z3t (z1T (N':=["table", "thing", "chains", "3", "chain"])  rfl ⟨rfl,rfl,rfl,rfl,rfl⟩ (n:=4) rfl (z0v (z0g 2 (pv 2))) (fun _ _ _ _ _=>z0l (i:=4) nd10 rfl (Or.inl rfl)) (fun _ _ _ _ _=>z0Q) (fun _ _ _ _ _=>(z2L (z0a (z0g 4 (pv 4)) (z0a (z0u (z1D (z0i fZ (hr.mono (by decide)) rfl (z0a (z0g 0 (pv 0)) (z0a (z0g 4 (pv 4)) z0c)))) z0k) z0c)))))) z0c)))))))
theorem fG:FnScope y2z z7B (z0e z4q):=z0B
theorem y1i(B:FnB K mg "steps_from" z4q z7B)(T:Txt mg)(G_beaten_by:DefOk P w K mg base 2 "beaten_by" (spN K z1H)):DefOk P w K mg base 3 "steps_from" (spN K z2R):=
 B.on fun F hm hb=>z2J (k:=2) (g:=z4e) F hm hb fG rfl rfl fun cdv A outer s H E hr=>
  (z0f (z1C (z0H (i:=2) fG.nd rfl (Or.inl rfl) (x3s (z0g 1 (pv 1)) (z0g 1 (pv 1)))))
   (z0f (z1C (z0H (i:=3) fG.nd rfl (Or.inl rfl) (z6I (z1d (z0a (z0g 1 (pv 1)) z0c)))))
   (z0f (y4z 100 PassesOwn.never (z0o (z0g 3 (pv 3))) (z0f (z1C (z0H (i:=4) fG.nd rfl (Or.inl rfl) (z6I (z1d z0c))))
   (z0f (s_frz 3 (z2s PassesOwn.never rfl (z0v (z0g 3 (pv 3))) (z0l (i:=5) fG.nd rfl (Or.inl rfl)) (z0h (z2s PassesOwn.never rfl (z0v (z1D (z0i G_beaten_by (hr.mono (by decide)) rfl (z0a (z0g 0 (pv 0)) (z0a (z0g 5 (pv 5)) z0c))))) (z0l (i:=6) fG.nd rfl (Or.inl rfl)) (z0h (z3n (pt_dnin hr.units (z0g 6 (pv 6)) (z0g 2 (pv 2))) (z0f (x5t hr.units (pv 2) (z0g 6 (pv 6)) (z0g 5 (pv 5)))
   (z0h (s_m0 PySem.F.slot_list_append PySem.F.type_list_append z3h z4z (pv 4) (z0a (z0g 6 (pv 6)) z0c)))) z0C))))))
   (z0h (s_mov (by decide) (z0H (i:=3) fG.nd rfl (Or.inl rfl) (pv 4)))))))
   (z0h (z7y (pv 2))))))
theorem y8g:FnScope x0U y2C (z0e z8Y):=z0B
theorem y7R(B:FnB K mg "reached" z8Y y2C)(T:Txt mg)(hJ:DefOk P w K mg base 3 "steps_from" (spN K z2R)):DefOk P w K mg base 4 "reached" (spN K z4J):=
 B.on fun F hm hb=>z2J (k:=3) (g:=z8d) F hm hb y8g rfl rfl fun cdv A outer s H E hr=>
  (z0h (z1h (z6I (y8c rfl rfl T.j2 (z1D (z0i hJ (hr.mono (by decide)) rfl (z0a (z0g 0 (pv 0)) (z0a (z0g 1 (pv 1)) z0c))))))))
theorem z9v:FnScope y1p z6s (z0e z3H):=z0B
theorem z9g(B:FnB K mg "places_with" z3H z6s)(T:Txt mg):DefOk P w K mg base 1 "places_with" (spN K z1M):=
 B.on fun F hm hb=>z2J (k:=0) (g:=z3M) F hm hb z9v rfl rfl fun cdv A outer s H E hr=>
  (z0h (z1h (z6I (y1u (N':=["counts", "wanted", "place", "count"])  rfl ⟨rfl,rfl,rfl,rfl,rfl⟩ (n:=2) rfl (z7P rfl T.gp (z0g 0 (pv 0))) (fun _ _ _ _ _=>y9Q rfl (z0l (i:=2) nd11 rfl (Or.inl rfl)) (z0l (i:=3) nd11 rfl (Or.inl rfl))) (fun _ _ _ _ _=>z0W (z3w hr.units (z0g 3 (pv 3)) (z0g 1 (pv 1)))) (fun _ _ _ _ _=>(z0g 2 (pv 2)))))))
theorem j6:FnScope kQ x1r (z0e y4e):=z0B
theorem x3W(B:FnB K mg "rings" y4e x1r)(T:Txt mg)(jx:DefOk P w K mg base 4 "reached" (spN K z4J))(gF:DefOk P w K mg base 1 "places_with" (spN K z1M)):DefOk P w K mg base 5 "rings" (spN K z7l):=
 B.on fun F hm hb=>z2J (k:=4) (g:=y3D) F hm hb j6 rfl rfl fun cdv A outer s H E hr=>
  (z0f (z1C (z0H (i:=1) j6.nd rfl (Or.inr rfl) (z6I (z1T (N':=["table", "counts", "one"])  rfl ⟨rfl,rfl,rfl,rfl,rfl⟩ (n:=2) rfl (z2j rfl T.fH (z1x rfl T.fE (z0g 0 (pv 0)))) (fun _ _ _ _ _=>z0l (i:=2) nd13 rfl (Or.inl rfl)) (fun _ _ _ _ _=>z0Q) (fun _ _ _ _ _=>(z1x rfl T.fE (z1D (z0i jx (hr.mono (by decide)) rfl (z0a (z0g 0 (pv 0)) (z0a (z0g 2 (pv 2)) z0c))))))))))
   (z0h (z1h (y0O (N':=["table", "counts", "count"])  rfl ⟨rfl,rfl,rfl,rfl,rfl⟩ (n:=2) rfl (pi_rngN rfl T.fH (z1x rfl T.fE (z0g 0 (pv 0))) z0k (y6I z0k)) (fun _ _ _ _ _=>z0l (i:=2) nd12 rfl (Or.inl rfl)) (fun _ _ _ _ _=>z0W (x3V hr.units (z0g 2 (pv 2)) (z0g 1 (pv 1)))) (fun _ _ _ _ _=>(z0i gF (hr.mono (by decide)) rfl (z0a (z0g 1 (pv 1)) (z0a (z0g 2 (pv 2)) z0c))))))))
theorem y4W:FnScope y8k z9E (z0e z7i):=z0B
theorem y3K(B:FnB K mg "top_ring" z7i z9E)(T:Txt mg)(gZ:DefOk P w K mg base 5 "rings" (spN K z7l)):DefOk P w K mg base 6 "top_ring" (spN K z2w):=
 B.on fun F hm hb=>z2J (k:=5) (g:=z6M) F hm hb y4W rfl rfl fun cdv A outer s H E hr=>
  (z0h (z1h (pn_ixN (z0i gZ (hr.mono (by decide)) rfl (z0a (z0g 0 (pv 0)) z0c)) z0k)))
theorem jv:FnScope y3f z7A (z0e z4y):=z0B
theorem y0n(B:FnB K mg "begun_with" z4y z7A)(T:Txt mg):DefOk P w K mg base 1 "begun_with" (spN K z2M):=
 B.on fun F hm hb=>z2J (k:=0) (g:=z4H) F hm hb jv rfl rfl fun cdv A outer s H E hr=>
  (z0f (z2m (z0H (i:=2) jv.nd rfl (Or.inl rfl) (x0h (z0g 0 (pv 0)) (z0g 1 (pv 1)))))
   (z0h (z1h (z6I (z6q (z3t (z1g (z0g 0 (pv 0)) (z1e (z0g 2 (pv 2))) z1s)) (z3t (z1g (z0g 0 (pv 0)) z1s (z1e (z0g 2 (pv 2))))))))))
theorem iH:FnScope x2z y5Y (z0e y1h):=z0B
theorem y9Y(B:FnB K mg "detour" y1h y5Y)(T:Txt mg):DefOk P w K mg base 1 "detour" (spN K z6a):=
 B.on fun F hm hb=>z2J (k:=0) (g:=y0R) F hm hb iH rfl rfl fun cdv A outer s H E hr=>
  (z0f (z2s PassesOwn.never rfl (z0v (z0g 3 (pv 3))) (z0l (i:=4) iH.nd rfl (Or.inl rfl)) (z0h (z3n (PW.pt (z9c (z0o (z0u (z0u (z0g 0 (pv 0)) (z0g 1 (pv 1))) (z0g 4 (pv 4)))) (z7L (z0o (z0u (z0u (z0g 0 (pv 0)) (z0g 4 (pv 4))) (z0g 2 (pv 2))))))) (z0h (z1h (z6I (z1d (z0a (z0g 4 (pv 4)) z0c))))) z0C)))
   (z0f (z2s PassesOwn.never rfl (z0v (z0g 3 (pv 3))) (z0l (i:=4) iH.nd rfl (Or.inl rfl)) (z0h (z2s PassesOwn.never rfl (z0v (z0g 3 (pv 3))) (z0l (i:=5) iH.nd rfl (Or.inl rfl)) (z0h (z3n (PW.pt (z9c (z0o (z0u (z0u (z0g 0 (pv 0)) (z0g 1 (pv 1))) (z0g 4 (pv 4)))) (z9c (z0o (z0u (z0u (z0g 0 (pv 0)) (z0g 4 (pv 4))) (z0g 5 (pv 5)))) (z7L (z0o (z0u (z0u (z0g 0 (pv 0)) (z0g 5 (pv 5))) (z0g 2 (pv 2)))))))) (z0h (z1h (z6I (z1d (z0a (z0g 4 (pv 4)) (z0a (z0g 5 (pv 5)) z0c)))))) z0C)))))
   (z0h (z1h (z6I (z1d z0c))))))
theorem fO:FnScope y8S y1W (z0e z8y):=z0B
theorem y7d(B:FnB K mg "widened" z8y y1W)(T:Txt mg)(jL:DefOk P w K mg base 1 "detour" (spN K z6a)):DefOk P w K mg base 2 "widened" (spR K z3l):=
 B.on fun F hm hb=>x4F (k:=1) (g:=z8e) F hm hb fO rfl rfl fun cdv A outer s H E B hr=>
  (z0f (z1j (PAsg.imp (z9G (i:=3) (N':=["table", "circle", "ring", "left", "place", "here", "behind", "between", "thing"]) fO.nd rfl rfl rfl ⟨rfl,rfl,rfl,rfl,rfl⟩ (n:=8) rfl (z0v (z0g 2 (pv 2))) (fun _ _ _ _ _=>z0l (i:=8) nd14 rfl (Or.inl rfl)) (fun _ _ _ _ _=>z0W (z8v hr.units (z0g 8 (pv 8)) (z0g 1 (pv 1)))) (fun _ _ _ _ _=>(z0g 8 (pv 8)))) iDF))
   (z0f (s_for2 PassesOwn.never rfl (z7P rfl T.gp (z0g 1 (pv 1))) (pg_pair rfl (z0l (i:=4) fO.nd rfl (Or.inl rfl)) (z0l (i:=5) fO.nd rfl (Or.inl rfl))) (z0f (z2m (z0H (i:=6) fO.nd rfl (Or.inl rfl) (z0u (z0g 1 (pv 1)) (z7v (z3P (z0g 4 (pv 4)) z0k) (z1x rfl T.fE (z0g 1 (pv 1)))))))
   (z0f (z1j (z0H (i:=7) fO.nd rfl (Or.inl rfl) (z1D (z0i jL (hr.mono (by decide)) rfl (z0a (z0g 0 (pv 0)) (z0a (z0g 5 (pv 5)) (z0a (z0g 6 (pv 6)) (z0a (z0g 3 (pv 3)) z0c))))))))
   (z0h (z3n (z0o (z0g 7 (pv 7))) (z0h (z2e (z3t (z6q (z3t (z6q (z3t (z1g (z0g 1 (pv 1)) z1s (z1e (z3P (z0g 4 (pv 4)) z0k)))) (z0g 7 (pv 7)))) (z3t (z1g (z0g 1 (pv 1)) (z1e (z3P (z0g 4 (pv 4)) z0k)) z1s)))))) z0C)))))
   (z0h (z2e (z0g 1 (pv 1))))))
theorem fU:FnScope y7k z9B (z0e z6V):=z0B
theorem y4J(B:FnB K mg "round_of" z6V z9B)(T:Txt mg)(iI:DefOk P w K mg base 2 "widened" (spR K z3l)):DefOk P w K mg base 3 "round_of" (spR K z2v):=
 B.on fun F hm hb=>x4F (k:=2) (g:=z6R) F hm hb fU rfl rfl fun cdv A outer s H E B hr=>
  (z0f (z1j (z0H (i:=2) fU.nd rfl (Or.inl rfl) (z3t (z1d (z0a (pd_minL rfl rfl T.lc (z0g 1 (pv 1))) z0c)))))
   (z0f (z1j (z0H (i:=3) fU.nd rfl (Or.inl rfl) (z2a iI (hr.mono (by decide)) rfl (z0a (z0g 0 (pv 0)) (z0a (z0g 2 (pv 2)) (z0a (z0g 1 (pv 1)) z0c))))))
   (z0f (y4z 100 PassesOwn.never (pt_gt (z1x rfl T.fE (z0g 3 (pv 3))) (z1x rfl T.fE (z0g 2 (pv 2)))) (z0f (z1j (z0H (i:=2) fU.nd rfl (Or.inl rfl) (z0g 3 (pv 3))))
   (z0h (z1j (z0H (i:=3) fU.nd rfl (Or.inl rfl) (z2a iI (hr.mono (by decide)) rfl (z0a (z0g 0 (pv 0)) (z0a (z0g 2 (pv 2)) (z0a (z0g 1 (pv 1)) z0c)))))))))
   (z0h (z2e (z0g 2 (pv 2)))))))
theorem gq:FnScope y7q z6J (z0e z7g):=z0B
theorem y4D(B:FnB K mg "row_from" z7g z6J)(T:Txt mg)(Z:Cls K mg base cl)(gZ:DefOk P w K mg base 5 "rings" (spN K z7l))(hU:DefOk P w K mg base 1 "begun_with" (spN K z2M))(gS:DefOk P w K mg base 3 "round_of" (spR K z2v)):DefX P w K mg base 6 "row_from" (spX K cl z1S):=by
 obtain⟨hX,kG,kM,nn_NotTop,xb_NotTop⟩:=Z.kK
 exact B.on fun F hm hb=>⟨_,_,z6J,hm,F.kp,hb,fnX (k:=5) (g:=z7j) F gq rfl rfl fun cdv A outer s H E hr=>
  (z0f (z1j (z0H (i:=2) gq.nd rfl (Or.inl rfl) (z1D (z0i gZ (hr.mono (by decide)) rfl (z0a (z0g 0 (pv 0)) z0c)))))
   (z0f (z3n (z8v hr.units (z0g 1 (pv 1)) (z0u (z0g 2 (pv 2)) z0k)) (z0h (z4O (c:=5) rfl rfl kM (z4U kG) z0N)) z0C)
   (z0f (z1C (z0H (i:=3) gq.nd rfl (Or.inl rfl) (z0i hU (hr.mono (by decide)) rfl (z0a (z2a gS (hr.mono (by decide)) rfl (z0a (z0g 0 (pv 0)) (z0a (z0u (z0g 2 (pv 2)) z0k) z0c))) (z0a (z0g 1 (pv 1)) z0c)))))
   (z0f (z2s PassesOwn.leaving rfl (z0v (z3t (z1g (z0g 2 (pv 2)) (z1e z0k) z1s))) (z0l (i:=4) gq.nd rfl (Or.inl rfl)) (z0h (y8D (pv 3) (z2a gS (hr.mono (by decide)) rfl (z0a (z0g 0 (pv 0)) (z0a (z0g 4 (pv 4)) z0c))))))
   (z0h (z7y (pv 3)))))))⟩
theorem jI:FnScope y7X z9W (z0e z6E):=z0B
theorem y5g(B:FnB K mg "to_stand" z6E z9W)(T:Txt mg)(Z:Cls K mg base cl)(fP:DefOk P w K mg base 6 "top_ring" (spN K z2w))(fQ:DefX P w K mg base 6 "row_from" (spX K cl z1S)):DefOk P w K mg base 7 "to_stand" (spR K z3e):=
 B.on fun F hm hb=>x4F (k:=6) (g:=z4S) F hm hb jI rfl rfl fun cdv A outer s H E B hr=>
  (z0f (z1j (z0H (i:=2) jI.nd rfl (Or.inl rfl) (z1D (z0i fP (hr.mono (by decide)) rfl (z0a (z0g 0 (pv 0)) z0c)))))
   (z0f (z3n (z8v hr.units (z0g 1 (pv 1)) (z0g 2 (pv 2))) (z0h (z2e (z2L (z0a z0N (z0a (z0g 2 (pv 2)) z0c))))) z0C)
   (z0h (z2e (z2L (z0a z0N (z0a (z3t (y7y rfl rfl T.ja rfl T.gR (z1D (z2n fQ (hr.mono (by decide)) rfl (z0a (z0g 0 (pv 0)) (z0a (z0g 1 (pv 1)) z0c)))))) z0c)))))))
theorem gr:FnScope y7G z9N (z0e z6Q):=z0B
theorem y3W(B:FnB K mg "to_crown" z6Q z9N)(T:Txt mg)(gG:DefOk P w K mg base 14 "crown_paper" (spR K z2t)):DefOk P w K mg base 15 "to_crown" (spR K z3i):=
 B.on fun F hm hb=>x4F (k:=14) (g:=z5a) F hm hb gr rfl rfl fun cdv A outer s H E B hr=>
  (z0f (z1j (z0H (i:=2) gr.nd rfl (Or.inl rfl) (z2a gG (hr.mono (by decide)) rfl (z0a (z0g 0 (pv 0)) (z0a (z0g 1 (pv 1)) z0c)))))
   (z0f (z3n (z3w hr.units (z0u (z0g 2 (pv 2)) z0k) z0N) (z0h (z2e (z0g 2 (pv 2)))) z0C)
   (z0f (z1j (z0H (i:=3) gr.nd rfl (Or.inr rfl) (z0u (z0g 2 (pv 2)) z0k)))
   (z0f (z1j (PAsg.imp (z9G (i:=4) (N':=["table", "thing", "paper", "chain", "others", "other"]) gr.nd rfl rfl rfl ⟨rfl,rfl,rfl,rfl,rfl⟩ (n:=5) rfl (z2j rfl T.fH (z1x rfl T.fE (z0g 0 (pv 0)))) (fun _ _ _ _ _=>z0l (i:=5) nd15 rfl (Or.inl rfl)) (fun _ _ _ _ _=>z0W (z8v hr.units (z0g 5 (pv 5)) (z0g 3 (pv 3)))) (fun _ _ _ _ _=>(z0g 5 (pv 5)))) iDF))
   (z0h (z2e (z2L (z0a z0N (z0a (z3t (z6q (z0g 4 (pv 4)) (z0g 3 (pv 3)))) (z0a (z0g 3 (pv 3)) z0c))))))))))
theorem jU:FnScope x1g y1Y (z0e z8B):=z0B
theorem y7h(B:FnB K mg "to_rest" z8B y1Y)(T:Txt mg)(Z:Cls K mg base cl)(fP:DefOk P w K mg base 6 "top_ring" (spN K z2w))(fQ:DefX P w K mg base 6 "row_from" (spX K cl z1S)):DefOk P w K mg base 7 "to_rest" (spR K z4C):=
 B.on fun F hm hb=>x4F (k:=6) (g:=z6f) F hm hb jU rfl rfl fun cdv A outer s H E B hr=>
  (z0f (z1j (z0H (i:=2) jU.nd rfl (Or.inl rfl) (z1D (z0i fP (hr.mono (by decide)) rfl (z0a (z0g 0 (pv 0)) z0c)))))
   (z0f (z3n (z8v hr.units (z0g 1 (pv 1)) (z0g 2 (pv 2))) (z0h (z2e (z2L (z0a z0N (z0a (z0g 2 (pv 2)) z0c))))) z0C)
   (z0h (z2e (z2L (z0a z0N (z0a (z1D (z2n fQ (hr.mono (by decide)) rfl (z0a (z0g 0 (pv 0)) (z0a (z0g 1 (pv 1)) z0c)))) z0c)))))))
theorem y1P:FnScope y3N z5R (z0e z5t):=z0B
theorem y3v(B:FnB K mg "paper_for" z5t z5R)(T:Txt mg)(Z:Cls K mg base cl)(jc:DefOk P w K mg base 7 "to_stand" (spR K z3e))(jd:DefOk P w K mg base 15 "to_crown" (spR K z3i))(jy:DefOk P w K mg base 7 "to_rest" (spR K z4C)):DefX P w K mg base 16 "paper_for" (spXS K cl z0M):=by
 obtain⟨gC,kl,kH,nn_Unknown,xb_Unknown⟩:=Z.kF
 exact B.on fun F hm hb=>⟨_,_,z5R,hm,F.kp,hb,fnXS (k:=15) (g:=z1n) F y1P rfl rfl fun cdv A outer s H E B hr=>
  (z0f (z3n (z3w hr.units (z0g 1 (pv 1)) z0N) (z0h (z2e (z2a jc (hr.mono (by decide)) rfl (z0a (z0g 0 (pv 0)) (z0a (z0g 2 (pv 2)) z0c))))) z0C)
   (z0f (z3n (z3w hr.units (z0g 1 (pv 1)) z0N) (z0h (z2e (z2a jd (hr.mono (by decide)) rfl (z0a (z0g 0 (pv 0)) (z0a (z0g 2 (pv 2)) z0c))))) z0C)
   (z0f (z3n (z3w hr.units (z0g 1 (pv 1)) z0N) (z0h (z2e (z2a jy (hr.mono (by decide)) rfl (z0a (z0g 0 (pv 0)) (z0a (z0g 2 (pv 2)) z0c))))) z0C)
   (z0h (z4O (c:=6) rfl rfl kH (z4U kl) z0N)))))⟩
theorem h9:FnScope y4A z5U (z0e z5z):=z0B
theorem y2W(B:FnB K mg "orders_to" z5z z5U)(T:Txt mg)(Z:Cls K mg base cl)(gu:DefX P w K mg base 16 "paper_for" (spXS K cl z0M)):DefX P w K mg base 17 "orders_to" (spXS K cl z3O):=by
 exact B.on fun F hm hb=>⟨_,_,z5U,hm,F.kp,hb,fnXS (k:=16) (g:=z5Q) F h9 rfl rfl fun cdv A outer s H E B hr=>
  (z0f (s_or (z1j (PAsg.imp (z9G (i:=2) (N':=["table", "kind", "papers", "thing"]) h9.nd rfl rfl rfl ⟨rfl,rfl,rfl,rfl,rfl⟩ (n:=3) rfl (z2j rfl T.fH (z1x rfl T.fE (z0g 0 (pv 0)))) (fun _ _ _ _ _=>z0l (i:=3) nd17 rfl (Or.inl rfl)) (fun _ _ _ _ _=>z0Q) (fun _ _ _ _ _=>(y1K gu (hr.mono (by decide)) rfl (z0a (z0g 0 (pv 0)) (z0a (z0g 1 (pv 1)) (z0a (z0g 3 (pv 3)) z0c)))))) iDF)) (s_asgCE (i:=2) (N':=["table", "kind", "papers", "thing"]) rfl ⟨_,rfl⟩ xl_def h9.nd rfl rfl rfl ⟨rfl,rfl,rfl,rfl,rfl⟩ (n:=3) rfl (z2j rfl T.fH (z1x rfl T.fE (z0g 0 (pv 0)))) (fun _ _ _ _ _=>z0l (i:=3) nd17 rfl (Or.inl rfl)) (fun _ _ _ _ _=>z0Q) (fun _ _ _ _ _ hw=>(y6D gu (hr.mono (by decide)) rfl hw (z0a (z0g 0 (pv 0)) (z0a (z0g 1 (pv 1)) (z0a (z0g 3 (pv 3)) z0c)))))))
   (z0h (z2e (z3t (z1T (N':=["table", "kind", "papers", "paper"])  rfl ⟨rfl,rfl,rfl,rfl,rfl⟩ (n:=3) rfl (z0v (z0g 2 (pv 2))) (fun _ _ _ _ _=>z0l (i:=3) nd16 rfl (Or.inl rfl)) (fun _ _ _ _ _=>z0Q) (fun _ _ _ _ _=>(x3u (z3w hr.units (z0u (z0g 3 (pv 3)) z0k) z0N) (z0u (z0g 3 (pv 3)) z0k) pd_non)))))))⟩
theorem iL:FnScope y7A y0f (z0e z6Y):=z0B
theorem y4P(B:FnB K mg "best_for" z6Y y0f)(T:Txt mg)(Z:Cls K mg base cl)(G_order_asked:DefX P w K mg base 3 "order_asked" (spX K cl z0O))(iM:DefX P w K mg base 17 "orders_to" (spXS K cl z3O)):DefOk P w K mg base 18 "best_for" (spR K z4K):=
 B.on fun F hm hb=>x4F (k:=17) (g:=z6G) F hm hb iL rfl rfl fun cdv A outer s H E B hr=>
  (z0f (z1j (z0H (i:=3) iL.nd rfl (Or.inr rfl) (y1K iM (hr.mono (by decide)) rfl (z0a (z0g 0 (pv 0)) (z0a (z0g 1 (pv 1)) z0c)))))
   (z0f (y9X (z2n G_order_asked (hr.mono (by decide)) rfl (z0a (z0g 2 (pv 2)) (z0a (z1x rfl T.fE (z0g 0 (pv 0))) z0c))))
   (z0f (z2m (z0H (i:=4) iL.nd rfl (Or.inl rfl) (z0u (z3t (z1T (N':=["table", "kind", "wish", "orders", "best", "thing"])  rfl ⟨rfl,rfl,rfl,rfl,rfl⟩ (n:=5) rfl (z0v (z0g 2 (pv 2))) (fun _ _ _ _ _=>z0l (i:=5) nd18 rfl (Or.inl rfl)) (fun _ _ _ _ _=>z0W (y7j (z0u (z0g 3 (pv 3)) (z0g 5 (pv 5))))) (fun _ _ _ _ _=>(z0g 5 (pv 5))))) z0k)))
   (z0h (z2e (z2L (z0a (z0g 4 (pv 4)) (z0a (z0u (z0g 3 (pv 3)) (z0g 4 (pv 4))) z0c))))))))
theorem fV:FnScope y3w z7D (z0e z4t):=z0B
theorem y1s(B:FnB K mg "side_asked" z4t z7D)(T:Txt mg)(gx:DefOk P w K mg base 15 "things_in" (spN K z1E)):DefOk P w K mg base 16 "side_asked" (spN K z1L):=
 B.on fun F hm hb=>z2J (k:=15) (g:=z4E) F hm hb fV rfl rfl fun cdv A outer s H E hr=>
  (z0f (z1C (z0H (i:=2) fV.nd rfl (Or.inl rfl) (z0i gx (hr.mono (by decide)) rfl (z0a (z0u (z0g 1 (pv 1)) z0k) z0c))))
   (z0f (z1C (z0H (i:=3) fV.nd rfl (Or.inl rfl) (z0i gx (hr.mono (by decide)) rfl (z0a (z0u (z0g 1 (pv 1)) z0k) z0c))))
   (z0f (z2s PassesOwn.never rfl (z0v (z0g 0 (pv 0))) (z0l (i:=4) fV.nd rfl (Or.inl rfl)) (z0f (z3n (PW.pt (z9c (x3V hr.units (z0g 4 (pv 4)) (z0g 2 (pv 2))) (z7L (z8v hr.units (z0g 4 (pv 4)) (z0g 3 (pv 3)))))) (z0h (z0L z0N)) z0C)
   (z0h (z3n (PW.pt (z9c (x3V hr.units (z0g 4 (pv 4)) (z0g 3 (pv 3))) (z7L (z8v hr.units (z0g 4 (pv 4)) (z0g 2 (pv 2)))))) (z0h (z0L z0N)) z0C))))
   (z0h (z0L z0N)))))
theorem jz:FnScope y4o z8t (z0e z5v):=z0B
theorem y3c(B:FnB K mg "side_gone" z5v z8t)(T:Txt mg)(G_voices:DefOk P w K mg base 1 "voices" (spN K z2c))(ic:DefOk P w K mg base 16 "side_asked" (spN K z1L)):DefOk P w K mg base 17 "side_gone" (spN K z3B):=
 B.on fun F hm hb=>z2J (k:=16) (g:=z5K) F hm hb jz rfl rfl fun cdv A outer s H E hr=>
  (z0f (z1C (PAsg.imp (z9G (i:=2) (N':=["votes", "tree", "left", "ballot"]) jz.nd rfl rfl rfl ⟨rfl,rfl,rfl,rfl,rfl⟩ (n:=3) rfl (z0v (z0g 0 (pv 0))) (fun _ _ _ _ _=>z0l (i:=3) nd19 rfl (Or.inl rfl)) (fun _ _ _ _ _=>z0W (z3w hr.units (z1D (z0i ic (hr.mono (by decide)) rfl (z0a (z0u (z0g 3 (pv 3)) z0k) (z0a (z0g 1 (pv 1)) z0c)))) z0N)) (fun _ _ _ _ _=>(z0g 3 (pv 3)))) iNF))
   (z0h (z0L (x3u (pt_gt (pd_mul z0k (z1D (z0i G_voices (hr.mono (by decide)) rfl (z0a (z0g 2 (pv 2)) z0c)))) (z1D (z0i G_voices (hr.mono (by decide)) rfl (z0a (z0g 0 (pv 0)) z0c)))) z0N z0N))))
theorem y7P:FnScope x0k y2I (z0e z8U):=z0B
theorem y7M(B:FnB K mg "side_of" z8U y2I)(T:Txt mg):DefOk P w K mg base 1 "side_of" (spN K z2d):=
 B.on fun F hm hb=>z2J (k:=0) (g:=z6v) F hm hb y7P rfl rfl fun cdv A outer s H E hr=>
  (z0h (z0L (x3u (z3w hr.units (z0g 1 (pv 1)) z0N) (z0u (z0g 0 (pv 0)) z0k) (z0u (z0g 0 (pv 0)) z0k))))
theorem fJ:FnScope y3s z4A (z0e z4s):=z0B
theorem y0q(B:FnB K mg "sides_gone" z4s z4A)(T:Txt mg)(Z:Cls K mg base cl)(gY:DefX P w K mg base 3 "asked" (spX K cl z7p))(G_is_question:DefOk P w K mg base 1 "is_question" (spN K z0p))(fY:DefOk P w K mg base 15 "is_good" (spN K z2B))(iO:DefOk P w K mg base 17 "side_gone" (spN K z3B))(f6:DefOk P w K mg base 1 "side_of" (spN K z2d)):DefX P w K mg base 18 "sides_gone" (spX K cl z2U):=by
 obtain⟨gD,kn,kJ,nn_BadTree,xb_BadTree⟩:=Z.kE
 exact B.on fun F hm hb=>⟨_,_,z4A,hm,F.kp,hb,fnX (k:=17) (g:=z4v) F fJ rfl rfl fun cdv A outer s H E hr=>
  (z0f (y5a (y0Y gY (hr.mono (by decide)) rfl y9k (z0a (z0g 0 (pv 0)) (z0a (z0g 1 (pv 1)) z0c))))
   (z0f (z3n (z3Y (z0o (z1D (z0i fY (hr.mono (by decide)) rfl (z0a (z0g 2 (pv 2)) (z0a (z0g 1 (pv 1)) z0c)))))) (z0h (z4O (c:=4) rfl rfl kJ (z4U kn) z0N)) z0C)
   (z0f (z1C (z0H (i:=3) fJ.nd rfl (Or.inl rfl) (z6I (z1d z0c))))
   (z0f (z2m (z0H (i:=4) fJ.nd rfl (Or.inl rfl) (z0g 2 (pv 2))))
   (z0f (y4z 20 PassesOwn.leaving (z0o (z1D (z0i G_is_question (hr.mono (by decide)) rfl (z0a (z0g 4 (pv 4)) z0c)))) (z0f (z1C (z0H (i:=5) fJ.nd rfl (Or.inl rfl) (z0i iO (hr.mono (by decide)) rfl (z0a (z0g 0 (pv 0)) (z0a (z0g 4 (pv 4)) z0c)))))
   (z0f (s_m0 PySem.F.slot_list_append PySem.F.type_list_append z3h z4z (pv 3) (z0a (z0g 5 (pv 5)) z0c))
   (z0h (z1C (z0H (i:=4) fJ.nd rfl (Or.inl rfl) (z0i f6 (hr.mono (by decide)) rfl (z0a (z0g 4 (pv 4)) (z0a (z0g 5 (pv 5)) z0c)))))))))
   (z0h (z7y (pv 3))))))))⟩
theorem gb:FnScope y4n z8p (z0e z5s):=z0B
theorem y3p(B:FnB K mg "plain_end" z5s z8p)(T:Txt mg)(Z:Cls K mg base cl)(f6:DefOk P w K mg base 1 "side_of" (spN K z2d))(ig:DefX P w K mg base 18 "sides_gone" (spX K cl z2U)):DefOk P w K mg base 19 "plain_end" (spN K z3y):=
 B.on fun F hm hb=>z2J (k:=18) (g:=z5r) F hm hb gb rfl rfl fun cdv A outer s H E hr=>
  (z0f (z2m (z0H (i:=3) gb.nd rfl (Or.inl rfl) (z0g 2 (pv 2))))
   (z0f (z2s PassesOwn.never rfl (z0v (z1D (z2n ig (hr.mono (by decide)) rfl (z0a (z0g 0 (pv 0)) (z0a (z0g 1 (pv 1)) (z0a (z0g 2 (pv 2)) z0c)))))) (z0l (i:=4) gb.nd rfl (Or.inl rfl)) (z0h (z1C (z0H (i:=3) gb.nd rfl (Or.inl rfl) (z0i f6 (hr.mono (by decide)) rfl (z0a (z0g 3 (pv 3)) (z0a (z0g 4 (pv 4)) z0c)))))))
   (z0h (z0L (z0g 3 (pv 3))))))
theorem z8r:FnScope z9q z5g (z0e z2Z):=z0B
theorem z8E(B:FnB K mg "_law_cell_at" z2Z z5g)(T:Txt mg):DefOk P w K mg base 1 "_law_cell_at" (spN K z0s):=
 B.on fun F hm hb=>z2J (k:=0) (g:=z1Z) F hm hb z8r rfl rfl fun cdv A outer s H E hr=>
  (z0f (z3n (pt_lt (z0g 1 (pv 1)) (z1x rfl T.fE (z0g 0 (pv 0)))) (z0h (z0L (z0u (z0g 0 (pv 0)) (z0g 1 (pv 1))))) z0C)
   (z0h (z0L z0k)))
theorem fW:FnScope y2L z7E (z0e z4o):=z0B
theorem y1l(B:FnB K mg "_law_order" z4o z7E)(T:Txt mg):DefOk P w K mg base 1 "_law_order" (spN K z1o):=
 B.on fun F hm hb=>z2J (k:=0) (g:=z4x) F hm hb fW rfl rfl fun cdv A outer s H E hr=>
  (z0f (z1C (z0H (i:=2) fW.nd rfl (Or.inl rfl) (z6I (z1d z0c))))
   (z0f (z2s PassesOwn.never rfl (z2j rfl T.fH (z0g 1 (pv 1))) (z0l (i:=3) fW.nd rfl (Or.inl rfl)) (z0f (s_m0 PySem.F.slot_list_insert PySem.F.type_list_insert y2N y2H (pv 2) (z0a (z7v (z0g 0 (pv 0)) (z3P (z0g 3 (pv 3)) z0k)) (z0a (z0g 3 (pv 3)) z0c)))
   (z0h (z2m (z0H (i:=0) fW.nd rfl (Or.inl rfl) (x4R (z0g 0 (pv 0)) (z3P (z0g 3 (pv 3)) z0k)))))))
   (z0h (z7y (pv 2)))))
theorem gH:FnScope y1O z7r (z0e z4l):=z0B
theorem y0l(B:FnB K mg "_law_votes" z4l z7r)(T:Txt mg)(G__law_cell_at:DefOk P w K mg base 1 "_law_cell_at" (spN K z0s))(G__law_order:DefOk P w K mg base 1 "_law_order" (spN K z1o)):DefOk P w K mg base 2 "_law_votes" (spN K z2N):=
 B.on fun F hm hb=>z2J (k:=1) (g:=z4g) F hm hb gH rfl rfl fun cdv A outer s H E hr=>
  (z0f (z1C (z0H (i:=2) gH.nd rfl (Or.inl rfl) (z6I (z1d z0c))))
   (z0f (z2s PassesOwn.never rfl (z0v (z3t (z1g (z0g 0 (pv 0)) (z1e z0k) (z1e z0k)))) (z0l (i:=3) gH.nd rfl (Or.inl rfl)) (z0h (s_m0 PySem.F.slot_list_append PySem.F.type_list_append z3h z4z (pv 2) (z0a (z2L (z0a (z3P z0k (z7v (x4R (z0g 3 (pv 3)) z0k) (y5n (x5l z0k z0k) z0k))) (z0a (y5E rfl T.jW (z1D (z0i G__law_order (hr.mono (by decide)) rfl (z0a (z7v (z0g 3 (pv 3)) z0k) (z0a (z0g 1 (pv 1)) z0c))))) z0c))) z0c))))
   (z0f (z3n (z3w hr.units (z1x rfl T.fE (z0g 2 (pv 2))) z0k) (z0h (s_m0 PySem.F.slot_list_append PySem.F.type_list_append z3h z4z (pv 2) (z0a (z2L (z0a (z3P z0k (z7v (z1D (z0i G__law_cell_at (hr.mono (by decide)) rfl (z0a (z0g 0 (pv 0)) (z0a z0k z0c)))) (y5n (x5l z0k z0k) z0k))) (z0a (y5E rfl T.jW (z1D (z0i G__law_order (hr.mono (by decide)) rfl (z0a (z1D (z0i G__law_cell_at (hr.mono (by decide)) rfl (z0a (z0g 0 (pv 0)) (z0a z0k z0c)))) (z0a (z0g 1 (pv 1)) z0c))))) z0c))) z0c))) z0C)
   (z0f (z3n (z3w hr.units (z7v (x4X rfl rfl T.kN (z3t (z1T (N':=["script", "many", "votes", "cell", "ballot"])  rfl ⟨rfl,rfl,rfl,rfl,rfl⟩ (n:=4) rfl (z0v (z0g 2 (pv 2))) (fun _ _ _ _ _=>z0l (i:=4) nd20 rfl (Or.inl rfl)) (fun _ _ _ _ _=>z0Q) (fun _ _ _ _ _=>(z0u (z0g 4 (pv 4)) z0k))))) z0k) z0k) (z0h (s_st0 (pv 2) z0k (z2L (z0a (z3P (z0u (z0u (z0g 2 (pv 2)) z0k) z0k) z0k) (z0a (z0u (z0u (z0g 2 (pv 2)) z0k) z0k) z0c))))) z0C)
   (z0h (z7y (pv 2)))))))
theorem fX:FnScope y3i z7t (z0e z4r):=z0B
theorem y0A(B:FnB K mg "_law_stand" z4r z7t)(T:Txt mg):DefOk P w K mg base 1 "_law_stand" (spN K z2Q):=
 B.on fun F hm hb=>z2J (k:=0) (g:=z4B) F hm hb fX rfl rfl fun cdv A outer s H E hr=>
  (z0f (z2m (z0H (i:=2) fX.nd rfl (Or.inl rfl) (z0u (z0g 1 (pv 1)) z0k)))
   (z0f (z2s PassesOwn.never rfl (z0v (z3t (z1g (z0g 1 (pv 1)) (z1e z0k) z1s))) (z0l (i:=3) fX.nd rfl (Or.inl rfl)) (z0h (z3n (z0o (z0u (z0u (z0g 0 (pv 0)) (z0g 3 (pv 3))) (z0g 2 (pv 2)))) (z0h (z2m (z0H (i:=2) fX.nd rfl (Or.inl rfl) (z0g 3 (pv 3))))) z0C)))
   (z0h (z0L (z0g 2 (pv 2))))))
theorem gI:FnScope y3k z7x (z0e z4p):=z0B
theorem y0X(B:FnB K mg "_law_chain" z4p z7x)(T:Txt mg):DefOk P w K mg base 1 "_law_chain" (spN K z2P):=
 B.on fun F hm hb=>z2J (k:=0) (g:=z4i) F hm hb gI rfl rfl fun cdv A outer s H E hr=>
  (z0f (z1C (z0H (i:=2) gI.nd rfl (Or.inl rfl) (z6I (z1d z0c))))
   (z0f (z2s PassesOwn.never rfl (y3G rfl T.gR (z0g 1 (pv 1))) (z0l (i:=3) gI.nd rfl (Or.inr rfl)) (z0h (z3n (z3w hr.units (z1x rfl T.fE (z3t (z1T (N':=["table", "order", "chain", "one", "other"])  rfl ⟨rfl,rfl,rfl,rfl,rfl⟩ (n:=4) rfl (z0v (z0g 2 (pv 2))) (fun _ _ _ _ _=>z0l (i:=4) nd21 rfl (Or.inl rfl)) (fun _ _ _ _ _=>z0W (z3Y (z0o (z0u (z0u (z0g 0 (pv 0)) (z0g 3 (pv 3))) (z0g 4 (pv 4)))))) (fun _ _ _ _ _=>(z0g 4 (pv 4)))))) z0k) (z0h (s_m0 PySem.F.slot_list_insert PySem.F.type_list_insert y2N y2H (pv 2) (z0a z0k (z0a (z0g 3 (pv 3)) z0c)))) z0C)))
   (z0h (z7y (pv 2)))))
theorem gc:FnScope y4C z8O (z0e z5w):=z0B
theorem y2R(B:FnB K mg "_law_rest" z5w z8O)(T:Txt mg):DefOk P w K mg base 1 "_law_rest" (spN K z3E):=
 B.on fun F hm hb=>z2J (k:=0) (g:=z5P) F hm hb gc rfl rfl fun cdv A outer s H E hr=>
  (z0f (z2m (z0H (i:=2) gc.nd rfl (Or.inl rfl) (z0u (z0g 1 (pv 1)) (y6I z0k))))
   (z0f (z2s PassesOwn.never rfl (y3G rfl T.gR (z0g 1 (pv 1))) (z0l (i:=3) gc.nd rfl (Or.inl rfl)) (z0h (z3n (z0o (z0u (z0u (z0g 0 (pv 0)) (z0g 3 (pv 3))) (z0g 2 (pv 2)))) (z0h (z2m (z0H (i:=2) gc.nd rfl (Or.inl rfl) (z0g 3 (pv 3))))) z0C)))
   (z0h (z0L (z0g 2 (pv 2))))))
theorem y3X:FnScope y7I z9X (z0e z6Z):=z0B
theorem y3S(B:FnB K mg "_law_led" z6Z z9X)(T:Txt mg)(ij:DefOk P w K mg base 1 "_law_stand" (spN K z2Q))(io:DefOk P w K mg base 1 "_law_chain" (spN K z2P))(iP:DefOk P w K mg base 1 "_law_rest" (spN K z3E)):DefOk P w K mg base 2 "_law_led" (spN K z1w):=
 B.on fun F hm hb=>z2J (k:=1) (g:=z3k) F hm hb y3X rfl rfl fun cdv A outer s H E hr=>
  (z0f (z3n (z3w hr.units (z0g 1 (pv 1)) z0N) (z0h (z1h (z0i ij (hr.mono (by decide)) rfl (z0a (z0g 0 (pv 0)) (z0a (z0g 2 (pv 2)) z0c))))) z0C)
   (z0f (z3n (z3w hr.units (z0g 1 (pv 1)) z0N) (z0h (z0L (z0u (z1D (z0i io (hr.mono (by decide)) rfl (z0a (z0g 0 (pv 0)) (z0a (z0g 2 (pv 2)) z0c)))) z0k))) z0C)
   (z0h (z1h (z0i iP (hr.mono (by decide)) rfl (z0a (z0g 0 (pv 0)) (z0a (z0g 2 (pv 2)) z0c)))))))
theorem fM:FnScope y4t z8H (z0e z5l):=z0B
theorem y2n(B:FnB K mg "_law_lead" z5l z8H)(T:Txt mg):DefOk P w K mg base 1 "_law_lead" (spN K z2G):=
 B.on fun F hm hb=>z2J (k:=0) (g:=z5k) F hm hb fM rfl rfl fun cdv A outer s H E hr=>
  (z0f (z2m (z0H (i:=3) fM.nd rfl (Or.inl rfl) z0k))
   (z0f (z2s PassesOwn.never rfl (z0v (z0g 0 (pv 0))) (z0l (i:=4) fM.nd rfl (Or.inl rfl)) (z0h (z3n (pt_lt (z6r (z0u (z0g 4 (pv 4)) z0k) (z0g 1 (pv 1))) (z6r (z0u (z0g 4 (pv 4)) z0k) (z0g 2 (pv 2)))) (z0h (z2m (z0H (i:=3) fM.nd rfl (Or.inl rfl) (z3P (z0g 3 (pv 3)) (z0u (z0g 4 (pv 4)) z0k))))) (z0h (z2m (z0H (i:=3) fM.nd rfl (Or.inl rfl) (y5n (z0g 3 (pv 3)) (z0u (z0g 4 (pv 4)) z0k))))))))
   (z0h (z0L (z0g 3 (pv 3))))))
theorem gJ:FnScope y1G z7C (z0e z4h):=z0B
theorem y0x(B:FnB K mg "_law_leads" z4h z7C)(T:Txt mg)(iQ:DefOk P w K mg base 1 "_law_lead" (spN K z2G)):DefOk P w K mg base 2 "_law_leads" (spN K z2V):=
 B.on fun F hm hb=>z2J (k:=1) (g:=z3Z) F hm hb gJ rfl rfl fun cdv A outer s H E hr=>
  (z0f (z1C (z0H (i:=2) gJ.nd rfl (Or.inl rfl) (z6I (z1d z0c))))
   (z0f (z2s PassesOwn.never rfl (z2j rfl T.fH (z0g 1 (pv 1))) (z0l (i:=3) gJ.nd rfl (Or.inr rfl)) (z0h (y2V (pv 2) (z6I (z1T (N':=["votes", "many", "table", "a", "b"])  rfl ⟨rfl,rfl,rfl,rfl,rfl⟩ (n:=4) rfl (z2j rfl T.fH (z0g 1 (pv 1))) (fun _ _ _ _ _=>z0l (i:=4) nd22 rfl (Or.inl rfl)) (fun _ _ _ _ _=>z0Q) (fun _ _ _ _ _=>(y2U (pd_ne hr.units (z0g 3 (pv 3)) (z0g 4 (pv 4))) (y6F (pd_gt (z1D (z0i iQ (hr.mono (by decide)) rfl (z0a (z0g 0 (pv 0)) (z0a (z0g 3 (pv 3)) (z0a (z0g 4 (pv 4)) z0c))))) z0k)))))))))
   (z0h (z7y (pv 2)))))
theorem fF:FnScope y0P z6p (z0e z3F):=z0B
theorem z9w(B:FnB K mg "_law_orders" z3F z6p)(T:Txt mg):DefOk P w K mg base 1 "_law_orders" (spR K z2q):=
 B.on fun F hm hb=>x4F (k:=0) (g:=z3K) F hm hb fF rfl rfl fun cdv A outer s H E B hr=>
  (z0f (s_frz 3 (z1j (z0H (i:=1) fF.nd rfl (Or.inl rfl) (z1D (pn_list (x2J (z6I (z1d z0c)) pan_nil))))))
   (z0f (z2s PassesOwn.never rfl (z2j rfl T.fH (z0g 0 (pv 0))) (z0l (i:=2) fF.nd rfl (Or.inl rfl)) (z0f (z1C (z0H (i:=3) fF.nd rfl (Or.inl rfl) (z6I (z1d z0c))))
   (z0f (z2s PassesOwn.never rfl (z0v (z0g 1 (pv 1))) (z0l (i:=4) fF.nd rfl (Or.inl rfl)) (z0h (z2s PassesOwn.never rfl (z2j rfl T.fH (z3P (z1x rfl T.fE (z0g 4 (pv 4))) z0k)) (z0l (i:=5) fF.nd rfl (Or.inl rfl)) (z0h (y2V (pv 3) (z6I (z6q (z3t (z6q (z3t (z1g (z0g 4 (pv 4)) z1s (z1e (z0g 5 (pv 5))))) (z3t (z1d (z0a (z0g 2 (pv 2)) z0c))))) (z3t (z1g (z0g 4 (pv 4)) (z1e (z0g 5 (pv 5))) z1s)))))))))
   (z0h (s_frz 3 (z1j (z0H (i:=1) fF.nd rfl (Or.inl rfl) (z0g 3 (pv 3)))))))))
   (z0h (z2e (z0g 1 (pv 1))))))
theorem y4i:FnScope y8a z9Y (z0e z7o):=z0B
theorem y4x(B:FnB K mg "_law_end" z7o z9Y)(T:Txt mg)(Z:Cls K mg base cl)(G_standing_tree:DefX P w K mg base 14 "standing_tree" (spX K cl z1p))(iR:DefOk P w K mg base 4 "rest_tree" (spN K z3C))(gy:DefOk P w K mg base 16 "ahead_end" (spN K z1U))(iS:DefOk P w K mg base 19 "plain_end" (spN K z3y)):DefOk P w K mg base 20 "_law_end" (spN K z1V):=
 B.on fun F hm hb=>z2J (k:=19) (g:=z3m) F hm hb y4i rfl rfl fun cdv A outer s H E hr=>
  (z0f (z3n (z3w hr.units (z0g 3 (pv 3)) z0N) (z0h (z1h (z0i iS (hr.mono (by decide)) rfl (z0a (z0g 0 (pv 0)) (z0a (z0g 1 (pv 1)) (z0a (z1D (z2n G_standing_tree (hr.mono (by decide)) rfl (z0a (z0g 4 (pv 4)) z0c))) z0c)))))) z0C)
   (z0f (z3n (z3w hr.units (z0g 3 (pv 3)) z0N) (z0h (z1h (z0i gy (hr.mono (by decide)) rfl (z0a (z0g 2 (pv 2)) (z0a (z1D (z2n G_standing_tree (hr.mono (by decide)) rfl (z0a (z0g 4 (pv 4)) z0c))) z0c))))) z0C)
   (z0h (z1h (z0i gy (hr.mono (by decide)) rfl (z0a (z0g 2 (pv 2)) (z0a (z1D (z0i iR (hr.mono (by decide)) rfl (z0a (z0g 4 (pv 4)) z0c))) z0c)))))))
theorem gf:FnScope k8 kg (z0e y0G):=z0B
theorem k7{f:Addr}{fd:fq}(F:Fun K "law" "law" y0G f fd)(T:Txt mg)(Z:Cls K mg base cl)(gU:DefX P w K mg base 4 "table_of" (spX K cl z3d))(je:DefOk P w K mg base 18 "best_for" (spR K z4K))(G__law_cell_at:DefOk P w K mg base 1 "_law_cell_at" (spN K z0s))(G__law_order:DefOk P w K mg base 1 "_law_order" (spN K z1o))(ip:DefOk P w K mg base 2 "_law_votes" (spN K z2N))(jf:DefOk P w K mg base 2 "_law_led" (spN K z1w))(iq:DefOk P w K mg base 2 "_law_leads" (spN K z2V))(gK:DefOk P w K mg base 1 "_law_orders" (spR K z2q))(jg:DefOk P w K mg base 20 "_law_end" (spN K z1V)):FnOk P w K mg base CX0 21 f fd kg (spN K y7S):=
 fnN (k:=20) (g:=g_law) F gf rfl rfl fun cdv A outer s H E hr=>
  (z0f (z2m (z0H (i:=1) gf.nd rfl (Or.inl rfl) (z3P z0k (z7v (z1D (z0i G__law_cell_at (hr.mono (by decide)) rfl (z0a (z0g 0 (pv 0)) (z0a z0k z0c)))) z0k))))
   (z0f (z1j (z0H (i:=2) gf.nd rfl (Or.inl rfl) (z1D (z0i ip (hr.mono (by decide)) rfl (z0a (z0g 0 (pv 0)) (z0a (z0g 1 (pv 1)) z0c))))))
   (z0f (z1j (z0H (i:=3) gf.nd rfl (Or.inr rfl) (z1D (z0i iq (hr.mono (by decide)) rfl (z0a (z0g 2 (pv 2)) (z0a (z0g 1 (pv 1)) z0c))))))
   (z0f (z3n (x2s hr.units (z1D (z2n gU (hr.mono (by decide)) rfl (z0a (z3t (z4F rfl T.ja (z0g 2 (pv 2)))) (z0a (z0g 1 (pv 1)) z0c)))) (z0g 3 (pv 3))) (z0h (z0L y1v)) z0C)
   (z0f (z1j (z0H (i:=4) gf.nd rfl (Or.inl rfl) (z1D (z0i G__law_order (hr.mono (by decide)) rfl (z0a (z1D (z0i G__law_cell_at (hr.mono (by decide)) rfl (z0a (z0g 0 (pv 0)) (z0a z0k z0c)))) (z0a (z0g 1 (pv 1)) z0c))))))
   (z0f (z1j (z0H (i:=5) gf.nd rfl (Or.inl rfl) (z2a gK (hr.mono (by decide)) rfl (z0a (z0g 1 (pv 1)) z0c))))
   (z0f (z2s PassesOwn.never rfl (z0v (z3t (z1d (z0a z0N (z0a z0N (z0a z0N z0c)))))) (z0l (i:=6) gf.nd rfl (Or.inr rfl)) (z0f (z1j (z0H (i:=7) gf.nd rfl (Or.inl rfl) (z2a je (hr.mono (by decide)) rfl (z0a (z1D (z2n gU (hr.mono (by decide)) rfl (z0a (z3t (z4F rfl T.ja (z0g 2 (pv 2)))) (z0a (z0g 1 (pv 1)) z0c)))) (z0a (z0g 6 (pv 6)) (z0a (z3t (z4F rfl T.ja (z0g 4 (pv 4)))) z0c))))))
   (z0f (z3n (x2s hr.units (z1D (z0i jg (hr.mono (by decide)) rfl (z0a (z3t (z4F rfl T.ja (z0g 2 (pv 2)))) (z0a (z0g 1 (pv 1)) (z0a (z0g 3 (pv 3)) (z0a (z0g 6 (pv 6)) (z0a (z3t (z4F rfl T.ja (z0u (z0g 7 (pv 7)) z0k))) z0c))))))) (z0u (z0g 7 (pv 7)) z0k)) (z0h (z0L y1v)) z0C)
   (z0f (z1j (z0H (i:=8) gf.nd rfl (Or.inr rfl) (z1D (y0O (N':=["script", "many", "votes", "table", "wish", "orders", "kind", "found", "ends", "order"])  rfl ⟨rfl,rfl,rfl,rfl,rfl⟩ (n:=9) rfl (z0v (z0g 5 (pv 5))) (fun _ _ _ _ _=>z0l (i:=9) nd24 rfl (Or.inl rfl)) (fun _ _ _ _ _=>z0Q) (fun _ _ _ _ _=>(z0i jf (hr.mono (by decide)) rfl (z0a (z0g 3 (pv 3)) (z0a (z0g 6 (pv 6)) (z0a (z0g 9 (pv 9)) z0c)))))))))
   (z0h (z3n (x2s hr.units (z0u (z0g 7 (pv 7)) z0k) (z0u (z3t (z1T (N':=["script", "many", "votes", "table", "wish", "orders", "kind", "found", "ends", "thing"])  rfl ⟨rfl,rfl,rfl,rfl,rfl⟩ (n:=9) rfl (z0v (z0g 4 (pv 4))) (fun _ _ _ _ _=>z0l (i:=9) nd23 rfl (Or.inl rfl)) (fun _ _ _ _ _=>z0W (x3V hr.units (z0g 9 (pv 9)) (z0g 8 (pv 8)))) (fun _ _ _ _ _=>(z0g 9 (pv 9))))) z0k)) (z0h (z0L y1v)) z0C))))))
   (z0h (z0L y1v)))))))))
end
theorem all_mk{l:dB}{w:fm}{K:aa}{h:Heap}{mg:Str->Option Value}{fa:Addr}(X:K.In h)(G:h.Ns mainGlobals mg)(hfa:mg "law" = some (.ref fa))
  {f_law:Addr} {od0 an0:Option Addr} {sl0:Array (Option Value)} {oc0 kV0 dc0 pm0 cd0 ct0:Value} {fS jw f8 gD hX gC:Addr}
  (iT:FnG K "beaten_by" z5B) (iU:FnG K "beats_all" z5D) (gL:FnG K "places_true" z3p) (jh:FnG K "is_thing" z6X) (fR:FnG K "tells_each_once" z1W) (jY:FnG K "asked" y3M) (jM:FnG K "voices" y0W) (j7:FnG K "lead" x1a) (ir:FnG K "puts_ahead" z4n) (ji:FnG K "table_of" z7h) (jN:FnG K "row_of" y0B) (gM:FnG K "is_question" z3I) (iu:FnG K "numbers_in" z2S) (jA:FnG K "is_good" z8I) (iV:FnG K "things_in" z5J) (gN:FnG K "order_asked" z3v) (gg:FnG K "standing_tree" z2x) (fI:FnG K "standing_questions" z0U) (iW:FnG K "rest_tree" z5T) (iX:FnG K "ahead_end" z5L) (jO:FnG K "end_of" z8a) (jP:FnG K "winner" y0S) (jj:FnG K "is_chain" z6W) (jB:FnG K "beaters" z8N) (jQ:FnG K "stands" y1C) (gO:FnG K "crown_paper" z3G) (gm:FnG K "ended_chains" z1X) (jC:FnG K "reached" z8Y) (iw:FnG K "steps_from" z4q) (jZ:FnG K "rings" y4e) (gP:FnG K "places_with" z3H) (jk:FnG K "top_ring" z7i) (jl:FnG K "row_from" z7g) (iy:FnG K "begun_with" z4y) (jm:FnG K "round_of" z6V) (jD:FnG K "widened" z8y) (jR:FnG K "detour" y1h) (jn:FnG K "to_stand" z6E) (jo:FnG K "to_crown" z6Q) (jE:FnG K "to_rest" z8B) (iY:FnG K "paper_for" z5t) (iZ:FnG K "orders_to" z5z) (jp:FnG K "best_for" z6Y) (iz:FnG K "side_asked" z4t) (iA:FnG K "sides_gone" z4s) (i4:FnG K "side_gone" z5v) (jF:FnG K "side_of" z8U) (i5:FnG K "plain_end" z5s) (gn:FnG K "_law_cell_at" z2Z) (iB:FnG K "_law_order" z4o) (iC:FnG K "_law_votes" z4l) (iD:FnG K "_law_stand" z4r) (iE:FnG K "_law_chain" z4p) (i6:FnG K "_law_rest" z5w) (jq:FnG K "_law_led" z6Z) (i7:FnG K "_law_lead" z5l) (iF:FnG K "_law_leads" z4h) (gQ:FnG K "_law_orders" z3F) (jr:FnG K "_law_end" z7o)
  (ko:aE K mainGlobals "law" = some (some (.ref f_law))) (kq:K.lookup f_law=some ⟨oc0,od0,.func (bq "law" "law" (z2h y0G) (z1f y0G) (z0e y0G) .none kV0 dc0 pm0 an0 cd0 ct0),sl0⟩) (c_law:cX K cd0 "law" = true) (kr:bC K (.ref f_law)=true)
  (gz:aE K mainGlobals "BadBallot" = some (some (.ref fS))) (i8:bM K fS y7u "ValueError.__new__" = true)
  (jV:aE K mainGlobals "Even" = some (some (.ref jw))) (j8:bM K jw y7u "ValueError.__new__" = true)
  (gW:aE K mainGlobals "BadOrder" = some (some (.ref f8))) (js:bM K f8 y7u "ValueError.__new__" = true)
  (iJ:aE K mainGlobals "BadTree" = some (some (.ref gD))) (jG:bM K gD y7u "ValueError.__new__" = true)
  (jt:aE K mainGlobals "NotTop" = some (some (.ref hX))) (jS:bM K hX y7u "ValueError.__new__" = true)
  (iK:aE K mainGlobals "Unknown" = some (some (.ref gC))) (jH:bM K gC y7u "ValueError.__new__" = true)
  (ku:aE K mainGlobals "all" = some none) (i9:aE K mainGlobals "enumerate" = some none) (kw:aE K mainGlobals "int" = some none) (iG:aE K mainGlobals "isinstance" = some none) (j9:aE K mainGlobals "bool" = some none) (kz:aE K mainGlobals "len" = some none) (kA:aE K mainGlobals "sum" = some none) (j0:aE K mainGlobals "range" = some none) (j1:aE K mainGlobals "tuple" = some none) (jT:aE K mainGlobals "sorted" = some none) (kC:aE K mainGlobals "set" = some none) (ju:aE K mainGlobals "reversed" = some none) (kD:aE K mainGlobals "min" = some none) (ka:aE K mainGlobals "list" = some none):
  ∃fd:fq,(∀(s:Shared) (v:Value),BindsTo s fd ⟨[v],[]⟩ [("script",v)])∧∀base:Heap,K.In base->base.Ns mainGlobals mg->FnOk l.prog w K mg base CX0 21 fa fd ["script"] (x3K K y7S):=by
 have e:=hfa.symm.trans (dQ X G ko)
 cases e
 have T:Txt mg:=⟨aQ X G ku,aQ X G i9,aQ X G kw,aQ X G iG,aQ X G j9,aQ X G kz,aQ X G kA,aQ X G j0,aQ X G j1,aQ X G jT,aQ X G kC,aQ X G ju,aQ X G kD,aQ X G ka⟩
 have kO:=fun_mk (st:=y0G) kq c_law kr
 have b_law:=kO.binds (ps:=kg) fun _ _ _ _ _ _ us hl=>match us,hl with | [_],_=>rfl
 refine⟨bq "law" "law" (z2h y0G) (z1f y0G) (z0e y0G) .none kV0 dc0 pm0 an0 cd0 ct0,fun s v=>.of_eq rfl,fun base KB GB=>?_⟩
 let cl:Nat->Value:=fun n=>match n with | 1=>.ref fS | 2=>.ref jw | 3=>.ref f8 | 4=>.ref gD | 5=>.ref hX | 6=>.ref gC | _=>.none
 have Z:Cls K mg base cl:=⟨⟨fS,rfl,z9S KB GB gz i8,gz,trivial⟩,⟨jw,rfl,z9S KB GB jV j8,jV,trivial⟩,⟨f8,rfl,z9S KB GB gW js,gW,trivial⟩,⟨gD,rfl,z9S KB GB iJ jG,iJ,trivial⟩,⟨hX,rfl,z9S KB GB jt jS,jt,trivial⟩,⟨gC,rfl,z9S KB GB iK jH,iK,trivial⟩⟩
 have G_beats_all:=y3j (P:=l.prog) (w:=w) (base:=base) (fg3 X G iU) T
 have gE:=z9p (P:=l.prog) (w:=w) (base:=base) (fg1 X G gL) T
 have G_beaten_by:=y2d (P:=l.prog) (w:=w) (base:=base) (fg2 X G iT) T gE
 have fN:=y4y (P:=l.prog) (w:=w) (base:=base) (fg2 X G jh) T
 have G_tells_each_once:=z6w (P:=l.prog) (w:=w) (base:=base) (fg2 X G fR) T fN
 have G_voices:=y8L (P:=l.prog) (w:=w) (base:=base) (fg1 X G jM) T
 have gY:=x2X (P:=l.prog) (w:=w) (base:=base) (fg2 X G jY) T Z G_tells_each_once G_voices
 have f7:=y0Z (P:=l.prog) (w:=w) (base:=base) (fg3 X G ir) T
 have j5:=kT (P:=l.prog) (w:=w) (base:=base) (fg3 X G j7) T G_voices f7
 have jJ:=x0S (P:=l.prog) (w:=w) (base:=base) (fg3 X G jN) T j5
 have gU:=y4q (P:=l.prog) (w:=w) (base:=base) (fg2 X G ji) T Z gY jJ
 have G_is_question:=z9t (P:=l.prog) (w:=w) (base:=base) (fg1 X G gM) T
 have G_numbers_in:=y0U (P:=l.prog) (w:=w) (base:=base) (fg1 X G iu) T G_is_question
 have fY:=y7T (P:=l.prog) (w:=w) (base:=base) (fg2 X G jA) T fN G_numbers_in
 have gx:=y2D (P:=l.prog) (w:=w) (base:=base) (fg1 X G iV) T G_numbers_in
 have G_order_asked:=z9j (P:=l.prog) (w:=w) (base:=base) (fg2 X G gN) T Z G_tells_each_once
 have G_standing_questions:=z4w (P:=l.prog) (w:=w) (base:=base) (fg1 X G fI) T
 have G_standing_tree:=z7F (P:=l.prog) (w:=w) (base:=base) (fg1 X G gg) T Z G_order_asked G_standing_questions
 have iR:=y2u (P:=l.prog) (w:=w) (base:=base) (fg1 X G iW) T Z G_order_asked
 have gh:=y9i (P:=l.prog) (w:=w) (base:=base) (fg3 X G jP) T
 have gi:=x1d (P:=l.prog) (w:=w) (base:=base) (fg2 X G jO) T G_is_question gh
 have gy:=y2F (P:=l.prog) (w:=w) (base:=base) (fg2 X G iX) T fY gi
 have jb:=y3R (P:=l.prog) (w:=w) (base:=base) (fg2 X G jj) T G_beats_all
 have fZ:=y8e (P:=l.prog) (w:=w) (base:=base) (fg2 X G jB) T G_beats_all
 have jK:=y9l (P:=l.prog) (w:=w) (base:=base) (fg2 X G jQ) T jb fZ
 have G_ended_chains:=z8Q (P:=l.prog) (w:=w) (base:=base) (fg3 X G gm) T
 have gG:=z9o (P:=l.prog) (w:=w) (base:=base) (fg2 X G gO) T G_beaten_by fZ jK G_ended_chains
 have hJ:=y1i (P:=l.prog) (w:=w) (base:=base) (fg2 X G iw) T G_beaten_by
 have jx:=y7R (P:=l.prog) (w:=w) (base:=base) (fg2 X G jC) T hJ
 have gF:=z9g (P:=l.prog) (w:=w) (base:=base) (fg2 X G gP) T
 have gZ:=x3W (P:=l.prog) (w:=w) (base:=base) (fg1 X G jZ) T jx gF
 have fP:=y3K (P:=l.prog) (w:=w) (base:=base) (fg1 X G jk) T gZ
 have hU:=y0n (P:=l.prog) (w:=w) (base:=base) (fg2 X G iy) T
 have jL:=y9Y (P:=l.prog) (w:=w) (base:=base) (fg4 X G jR) T
 have iI:=y7d (P:=l.prog) (w:=w) (base:=base) (fg3 X G jD) T jL
 have gS:=y4J (P:=l.prog) (w:=w) (base:=base) (fg2 X G jm) T iI
 have fQ:=y4D (P:=l.prog) (w:=w) (base:=base) (fg2 X G jl) T Z gZ hU gS
 have jc:=y5g (P:=l.prog) (w:=w) (base:=base) (fg2 X G jn) T Z fP fQ
 have jd:=y3W (P:=l.prog) (w:=w) (base:=base) (fg2 X G jo) T gG
 have jy:=y7h (P:=l.prog) (w:=w) (base:=base) (fg2 X G jE) T Z fP fQ
 have gu:=y3v (P:=l.prog) (w:=w) (base:=base) (fg3 X G iY) T Z jc jd jy
 have iM:=y2W (P:=l.prog) (w:=w) (base:=base) (fg2 X G iZ) T Z gu
 have je:=y4P (P:=l.prog) (w:=w) (base:=base) (fg3 X G jp) T Z G_order_asked iM
 have ic:=y1s (P:=l.prog) (w:=w) (base:=base) (fg2 X G iz) T gx
 have iO:=y3c (P:=l.prog) (w:=w) (base:=base) (fg2 X G i4) T G_voices ic
 have f6:=y7M (P:=l.prog) (w:=w) (base:=base) (fg2 X G jF) T
 have ig:=y0q (P:=l.prog) (w:=w) (base:=base) (fg3 X G iA) T Z gY G_is_question fY iO f6
 have iS:=y3p (P:=l.prog) (w:=w) (base:=base) (fg3 X G i5) T Z f6 ig
 have G__law_cell_at:=z8E (P:=l.prog) (w:=w) (base:=base) (fg2 X G gn) T
 have G__law_order:=y1l (P:=l.prog) (w:=w) (base:=base) (fg2 X G iB) T
 have ip:=y0l (P:=l.prog) (w:=w) (base:=base) (fg2 X G iC) T G__law_cell_at G__law_order
 have ij:=y0A (P:=l.prog) (w:=w) (base:=base) (fg2 X G iD) T
 have io:=y0X (P:=l.prog) (w:=w) (base:=base) (fg2 X G iE) T
 have iP:=y2R (P:=l.prog) (w:=w) (base:=base) (fg2 X G i6) T
 have jf:=y3S (P:=l.prog) (w:=w) (base:=base) (fg3 X G jq) T ij io iP
 have iQ:=y2n (P:=l.prog) (w:=w) (base:=base) (fg3 X G i7) T
 have iq:=y0x (P:=l.prog) (w:=w) (base:=base) (fg2 X G iF) T iQ
 have gK:=z9w (P:=l.prog) (w:=w) (base:=base) (fg1 X G gQ) T
 have jg:=y4x (P:=l.prog) (w:=w) (base:=base) (fg5 X G jr) T Z G_standing_tree iR gy iS
 exact law_of (k7 kO T Z gU je G__law_cell_at G__law_order ip jf iq gK jg)
theorem walk{l:dB}{q:dw}{loose:List Str}{XP:(Str->Option Value)->Heap->Prop}{YP:fm->Heap->Prop}{d:DefRec}{K:Params->aa}(hn:l.most=some 63)(hdf:d.params.defaults=[])
  (hlaw:∀ns:List Int,ns.length≤63->y7S [.scr ns]=some (.bl true)) (hY:∀(w:fm) (h:Heap),YP w h->(K w.params).In h)
  (F:∀(w:fm) (mg:Str->Option Value) (fa:Addr) (h:Heap),(K w.params).In h->h.Ns mainGlobals mg->mg d.name=some (.ref fa) →
   ∃fd:fq,(∀(s:Shared) (u:Value),BindsTo s fd ⟨[u],[]⟩ [("script",u)])∧∀base:Heap,(K w.params).In base->base.Ns mainGlobals mg->FnOk l.prog w (K w.params) mg base CX0 21 fa fd ["script"] (x3K (K w.params) y7S)):
  PySem.W.WalkO q loose XP YP l.row.toRowW d [] (fun f vs=>PySem.call f vs):=
 L2.walk_of (n:=63) (k:=21) (x := "script") (CX:=fun _=>CX0) (sp:=fun w=>x3K (K w.params) y7S) hn (by decide) hdf ⟨rfl,by decide,by decide⟩ hY F (fun _ _ a ns hl hO hS=>⟨a,ns,rfl,x4a hO hS,hlaw ns hl,fun _=>rfl⟩) fun _ _ _ _ _ z=>z
end Prg
namespace Prg
open PySem L2
open Lean in
local macro_rules
 | `(tactic| simp! only[$xs,*] $[$loc]?)=>do
  let a ←(("x2f x2e ev_C ev_d2 ev_d1 x1S y6a y9p x5r y9F x4M ev_if y5q y6h y9r y5v x5f x4L y2g ev_is x4Q x2k y9U x1k y1R x4D y8U y8y y8K x1C y8w x0x x0I y8X x1Y x4A y9I x5B x5c ev_m0 y6L y6e x0P y6j x0O x1X x1P y6W x4V y6G y9f x4w x0f y6T y6f y5M y6n y5x y8G y5U y6m y3r x4s x2g eo_r1 y5u eo_2 x4p x0G y8u x5F y8v y9e y8N y8M eo_nx eo_rt x5E x5e x4J x0a x0D x2i y9h x0q x5p eo_in eo_ex x4T y5X y9q x4B x4I y2X y8Y x1D x5u x5x x3M x3q ea_gt x5v x4U x4G x4H x0H x1b y9S x1W x5D x5k x4q x0b x0Z x4E y4Q x1Z x1v x1i x0T x5C x4v es_v1 es_v2 x5h y6X y6Z y2w y2o x4S x5q y9g x1A eb_bs eb_ms eb_mn eb_s0 eb_sS eb_mc y9a eb_rS eb_r0 eb_ca eb_na".splitOn " ").toArray).mapM fun s=>`(Lean.Parser.Tactic.simpLemma| $(mkIdent s.toName):term)
  let b:Syntax.TSepArray [`Lean.Parser.Tactic.simpStar,`Lean.Parser.Tactic.simpErase,`Lean.Parser.Tactic.simpLemma] "," := ⟨(Syntax.TSepArray.ofElems (sep := ",") a).elemsAndSeps⟩
  `(tactic| simp only[$b,*,$xs,*] $[$loc]?)
open Lean in
local macro_rules
 | `(tactic| simp_all! only[$xs,*])=>do
  let a ←(("Int.reduceEq Int.reduceLT Int.reduceLE Int.reduceGT Int.reduceAdd Int.reduceSub Int.reduceMul Int.reduceNeg decide_true decide_false Bool.or_false Bool.false_or Bool.or_true Bool.true_or Bool.and_true Bool.true_and Bool.and_false Bool.false_and Bool.not_true Bool.not_false".splitOn " ").toArray).mapM fun s=>`(Lean.Parser.Tactic.simpLemma| $(mkIdent s.toName):term)
  let b:Syntax.TSepArray [`Lean.Parser.Tactic.simpStar,`Lean.Parser.Tactic.simpErase,`Lean.Parser.Tactic.simpLemma] "," := ⟨(Syntax.TSepArray.ofElems (sep := ",") a).elemsAndSeps⟩
  `(tactic| simp! only[$b,*,$xs,*])
theorem y0r(ns:List Int)(k:Nat):∃c:Int,z0s [.scr ns,.int (k:Int)]=some (.int c):=by
 by_cases h:k<ns.length
 ·refine⟨ns[k],z0m rfl ?_⟩
  have h':decide ((k:Int)<(ns.length:Int))=true:=by simp;omega
  simp! only[z1Z,h',x5y h,z0b]
 ·refine⟨0,z0m rfl ?_⟩
  have h':decide ((k:Int)<(ns.length:Int))=false:=by simp;omega
  simp! only[z1Z,h',z0b]
structure Full(m:Nat)(T:List (List Bool)):Prop where
 sq:Sq m T
 own:∀i<m,at2 T i i=false
 two:∀i<m,∀j<m,i≠j->at2 T i j = !at2 T j i
theorem z5S{x:Int}{m:Nat}(h:0≤x∧x<(m:Int)):z1K [.int x,.int (m:Int)]=some (.bl true):=by
 refine z0m rfl ?_
 have c:chO leI ltI (some (.int 0)) (some (.int x)) (some (.int (m:Int)))=some (.bl (true&&true)):=y6U (by rw[x3q,decide_eq_true h.1]) (by rw[x3M,decide_eq_true h.2])
 simp_all! only[z4M,c,z0b]
theorem z8A(c:Int)(m:Nat)(hm:m≤1000):hol (z1o [.int c,.int (m:Int)]) fun d=>∃o:List Nat,d=thD o∧o.Perm (ag m):=by
 refine z7c rfl ?_
 simp! only[z4x,z2r (show m≤1000000 by omega),z2p,x1e]
 refine z0w (I:=fun s=>∃(o:List Nat) (c':Int) (o3:Option SD),s=[some (.sh (.int c')),some (.sh (.int (m:Int))),some (.ow (thD o)),o3]∧o.Perm (ag m)) ?_ ?_
 ·refine y0k (fun n s=>∃(o:List Nat) (c':Int) (o3:Option SD),s=[some (.sh (.int c')),some (.sh (.int (m:Int))),some (.ow (thD o)),o3]∧o.Perm (ag n)) ⟨[],c,none,rfl,.nil⟩ ?_ fun s z=>⟨s,rfl,z⟩
  rintro n hn s ⟨o,c',o3,rfl,hp⟩
  have hlen:o.length=n:=by have:=hp.length_eq;simpa using this
  obtain⟨j,ej,hj⟩:=y8t (x:=c') (n:=n+1) (by omega)
  have ej:c' % ((n:Int)+1)=(j:Int):=ej
  have m1:y2c (.int c') (.int ((n:Int)+1))=some (.int (j:Int)):=by rw[z8q (show(0:Int)<(n:Int)+1 by omega),ej]
  have v1:divI (.int c') (.int ((n:Int)+1))=some (.int (c' / ((n:Int)+1))):=x5a (show CDiv _ _ from⟨by omega,by omega⟩)
  have im:y5d (some [.int (j:Int),.int (n:Int)])=some [.int (j:Int),.int (n:Int)]:=z7Y rfl
  have iv:=y9s (o:=o) (b:=j) (v:=n) (by omega) (by omega)
  simp! only[dF,m1,v1,im,iv,z0b]
  refine⟨_,_,_,rfl,?_⟩
  have p1:(o.take j++n::o.drop j).Perm (n::o):=by
   refine dG.trans ?_
   rw[cr]
  refine p1.trans ?_
  rw[cI]
  exact(hp.cons _).trans (List.perm_append_singleton _ _).symm
 ·rintro s ⟨o,c',o3,rfl,hp⟩
  simp! only[z0b]
  exact⟨_,rfl,o,rfl,hp⟩
theorem z4j(bs:List (Int×List Int))(hl:bs.length≤1000000):z2c [z1P bs]=some (.int (z3U bs)):=by
 refine z0m rfl ?_
 have hl':(bs.map z2u).length≤1000000:=by rw[aq];exact hl
 have hc:z1B (z2k z6h (d2 ixD (z0d 1) (dC (.int 0))) [some (z1P bs)]) (bs.map z2u)=some ((bs.map (·.1)).map .int):=by
  rw[aV]
  exact z4X (fun b:Int×List Int=>.int b.1) fun b _=>by simp! only[z8n]
 simp! only[y1g,z5M,z4b hl',hc,x5A,z0b]
 rfl
theorem x0j{o:List Int}{a b:Int}(ha:a∈o)(hb:b∈o):z1k [z9f o,.int a,.int b]=some (.bl (ahd o a b)):=by
 refine z0m rfl ?_
 have e:decide ((plc o a:Int)<(plc o b:Int))=ahd o a b:=by unfold ahd;congr 1;rw[eq_iff_iff];omega
 simp! only[z4D,z6K ha,z6K hb,e,z0b]
theorem lead_eq(bs:List (Int×List Int))(hl:bs.length≤1000000){a b:Int}(hab:a≠b)(h:∀x∈bs,a∈x.2∧b∈x.2):y2s [z1P bs,.int a,.int b]=some (.int (z2g bs a b)):=by
 refine z0m rfl ?_
 have hl':(bs.map z2u).length≤1000000:=by rw[aq];exact hl
 have c1:∀δ3 δ4,z1B (z2k (z0z (z0j z1k [d2 ixD (z0d 5) (dC (.int 1)),z0d 1,z0d 2])) (z0d 5) [some (z1P bs),some (.int a),some (.int b),δ3,δ4]) (bs.map z2u)=some ((bs.filter fun x=>ahd x.2 a b).map z2u):=fun δ3 δ4=>
  z8V (fun x=>ahd x.2 a b) z2u (fun x hx=>by simp! only[z5H,x0j (h x hx).1 (h x hx).2]) fun x hx _=>by simp! only[]
 have c2:∀δ3 δ4,z1B (z2k (z0z (z0j z1k [d2 ixD (z0d 5) (dC (.int 1)),z0d 2,z0d 1])) (z0d 5) [some (z1P bs),some (.int a),some (.int b),δ3,δ4]) (bs.map z2u)=some ((bs.filter fun x=>ahd x.2 b a).map z2u):=fun δ3 δ4=>
  z8V (fun x=>ahd x.2 b a) z2u (fun x hx=>by simp! only[z5H,x0j (h x hx).2 (h x hx).1]) fun x hx _=>by simp! only[]
 have f1:=z5N (z4N (bs.filter fun x=>ahd x.2 a b))
 have f2:=z5N (z4N (bs.filter fun x=>ahd x.2 b a))
 have t1:D.lst ((bs.filter fun x=>ahd x.2 a b).map z2u)=z1P (bs.filter fun x=>ahd x.2 a b):=rfl
 have t2:D.lst ((bs.filter fun x=>ahd x.2 b a).map z2u)=z1P (bs.filter fun x=>ahd x.2 b a):=rfl
 have v1:=z4j (bs.filter fun x=>ahd x.2 a b) (aG (aX _ _) hl)
 have v2:=z4j (bs.filter fun x=>ahd x.2 b a) (aG (aX _ _) hl)
 simp! only[y8I,z5M,z4b hl',c1,c2,f1,f2,t1,t2,v1,v2,z0b,y8A hab bs h]
theorem x3i(x:Int)(m:Nat):z1K [.int x,.int (m:Int)]=some (.bl (decide (0≤x)&&decide (x<(m:Int)))):=by
 refine z0m rfl ?_
 have c:chO leI ltI (some (.int 0)) (some (.int x)) (some (.int (m:Int)))=some (.bl (decide (0≤x)&&decide (x<(m:Int)))):=y6U x3q x3M
 simp_all! only[z4M,c,z0b]
def tk(m:Nat):List Int->List Int->Bool
 |_,[]=>true
 |p,x::r=>((decide (0≤x)&&decide (x<(m:Int))) && !p.contains x)&&tk m (p++[x]) r
theorem y8s{m:Nat}:∀{o p:List Int},(∀x∈o,0≤x∧x<(m:Int))->o.Nodup->(∀x∈o,x∉p)->tk m p o=true
 |[],_,_,_,_=>rfl
 |x::r,p,h1,h2,h3=>by
  have hx:=h1 x ac
  have nd:=ay.mp h2
  have hp:=h3 x ac
  have ih:=y8s (m:=m) (o:=r) (p:=p++[x]) (fun y hy=>h1 y (ad _ hy)) nd.2 fun y hy z=>by
   rcases au.mp z with z | z
   ·exact h3 y (ad _ hy) z
   ·rw[ai]at z;exact nd.1 (z ▸ hy)
  show(((decide (0≤x)&&decide (x<(m:Int))) && !p.contains x)&&tk m (p++[x]) r)=true
  have hc:p.contains x=false:=by rw[←aR,ar];exact hp
  rw[ih,hc,decide_eq_true hx.1,decide_eq_true hx.2]
  rfl
def y3g(m:Nat)(o:List Int):Bool:=decide ((o.length:Int)=(m:Int))&&tk m [] o
theorem y6r{p:List Int}{x:Int}:inK (.int x) (z8u p)=some (p.contains x):=by
 show some (y3m (p.map Sum.inl) (.inl x))=_
 congr 1
 unfold y3m
 rw[cN,b9]
 congr 1
 funext y
 show decide ((Sum.inl y:Key)=Sum.inl x)=(x==y)
 by_cases h:y=x
 ·subst h;simp
 ·have h1:decide ((Sum.inl y:Key)=Sum.inl x)=false:=decide_eq_false fun z=>h (by cases z;rfl)
  have h2:(x==y)=false:=by rw[beq_eq_false_iff_ne];exact fun z=>h z.symm
  rw[h1,h2]
theorem y0t{i:Nat}{b:SS->Option Out}{m:Nat}{d:D}(J:List Int->SS->Prop):∀{o p:List Int} {s:SS},p.length+o.length≤1000000->J p s →
  (∀p x s,p.length≤1000000->J p s->hol (b (s.set i (some (.sh (.int x))))) fun r=>if(((decide (0≤x)&&decide (x<(m:Int))) && !p.contains x))=true then ∃s',r = .nx s'∧J (p++[x]) s' else r = .rt d) →
  hol (z9D i b (o.map .int) s) fun r=>if tk m p o=true then ∃s' p',r = .nx s'∧J p' s' else r = .rt d
 |[],p,s,_,h0,_=>⟨_,rfl,(if_pos rfl).mpr ⟨s,p,rfl,h0⟩⟩
 |x::r,p,s,hn,h0,hs=>by
  have hn:p.length+(r.length+1)≤1000000:=hn
  obtain⟨o,e,q⟩:=hs p x s (by omega) h0
  rw[aF]
  unfold z9D
  rw[e]
  show hol _ fun q=>if(((decide (0≤x)&&decide (x<(m:Int))) && !p.contains x)&&tk m (p++[x]) r)=true then _ else _
  cases hc:((decide (0≤x)&&decide (x<(m:Int))) && !p.contains x)with
  |true=>
   rw[hc,if_pos rfl]at q
   obtain⟨s1,rfl,h1⟩:=q
   rw[Bool.true_and]
   exact y0t J (by simp;omega) h1 hs
  |false=>
   rw[hc,if_neg aj]at q
   subst q
   rw[dX]
   exact⟨_,rfl,(if_neg aj).mpr rfl⟩
theorem x1J{m:Nat}{o:List Int}(hl:o.length≤1000):z0y [z9f o,.int (m:Int)]=some (.bl (y3g m o)):=by
 refine z0m rfl ?_
 have t0:D.dct [] []=z8u []:=rfl
 unfold y3g
 cases hd:decide ((o.length:Int)=(m:Int))with
 |false=>
  simp_all! only[z0Z,x2c,hd,z0b]
 |true=>
  simp_all! only[z0Z,x2c,hd,t0,y9v]
  obtain⟨r,e,q⟩:=y0t (i:=3) (m:=m) (d:=.bl false) (b:=(z0G (ifO (dOrT (z6m (z0z (z0j z1K [(z0d 3),(z0d 1)]))) (x2n (z0d 3) (z0d 2))) (z3z (dC (.bl false))) z0P) (dput 2 (z0d 3) (dC (.bl true))))) (fun p s=>∃o3,s=[some (.sh (z9f o)),some (.sh (.int (m:Int))),some (.ow (z8u p)),o3]) (o:=o) (p:=[]) (s:=[some (.sh (z9f o)),some (.sh (.int (m:Int))),some (.ow (z8u [])),none]) (by simp;omega) ⟨_,rfl⟩ (by
   rintro p x s hp ⟨o3,rfl⟩
   have th:=x3i x m
   cases h1:(decide (0≤x)&&decide (x<(m:Int)))with
   |false=>
    rw[h1]at th
    simp_all! only[th,z0b,cP,if_false]
   |true=>
    rw[h1]at th
    cases h2:p.contains x with
    |true=>
     simp_all! only[th,y6r,h2,z0b,cP,if_false]
    |false=>
     have hx:x∉p:=fun z=>by rw[ar.mpr z]at h2;cases h2
     simp_all! only[th,y6r,h2,y6R hx hp,z0b,if_true]
     exact⟨_,rfl,_,rfl⟩)
  rw[e]
  cases hk:tk m [] o with
  |true=>
   rw[hk,if_pos rfl]at q
   obtain⟨s',p',rfl,o3,rfl⟩:=q
   simp_all! only[z0b]
  |false=>
   rw[hk,if_neg aj]at q
   subst q
   simp_all! only[z0b]
theorem z9Q{m:Nat}{o:List Int}(h:o.Perm (x2m m)):y3g m o=true:=by
 have hl:o.length=m:=by have:=h.length_eq;simpa[x2m] using this
 unfold y3g
 rw[hl,decide_eq_true rfl,y8s (fun x hx=>x3T (h.mem_iff.mp hx)) (h.nodup_iff.mpr y7H) fun _ _ z=>by cases z]
 rfl
theorem z9M{m:Nat}(hm:m≤1000){bs:List (Int×List Int)}(hl:bs.length≤1000000)(g:∀b∈bs,b.2.length≤1000∧y3g m b.2=true):z7p [z1P bs,.int (m:Int)]=some (if z3U bs % 2=0 then .exc 2 else .val .non):=by
 have vo:=z4j bs hl
 have dm2:y2c (.int (z3U bs)) (.int 2)=some (.int (z3U bs % 2)):=z8q (by omega)
 have loop:hol (z9D 2 (ifO (z6m (z0z (z0j z0y [(d2 ixD (z0d 2) (dC (.int 1))),(z0d 1)]))) (z3R 1 (dC (.str "the order of a ballot does not tell each thing once and nothing else"))) z0P) (bs.map z2u) [some (.sh (z1P bs)),some (.sh (.int (m:Int))),none]) fun o=>∃s,o = .nx s∧∃o2,s=[some (.sh (z1P bs)),some (.sh (.int (m:Int))),o2]:=by
  refine z1a (fun pre s=>∃o2,s=[some (.sh (z1P bs)),some (.sh (.int (m:Int))),o2]) ⟨_,rfl⟩ ?_ fun s z=>⟨s,rfl,z⟩
  rintro pre b post e s ⟨o2,rfl⟩
  have hb:=g b (by rw[e];simp)
  have t:=x1J (m:=m) hb.1
  rw[hb.2]at t
  simp_all! only[z5H,t,z0b]
  exact⟨_,rfl⟩
 by_cases hz:z3U bs % 2=0
 ·rw[if_pos hz]
  refine runX_ex rfl ?_
  have d0:decide (z3U bs % 2=0)=true:=decide_eq_true hz
  simp! only[y0K,z5M]
  refine z0w loop ?_
  rintro s ⟨o2,rfl⟩
  simp! only[vo,dm2,d0,z0b]
  exact⟨_,rfl⟩
 ·rw[if_neg hz]
  refine x0s rfl ?_
  have d0:decide (z3U bs % 2=0)=false:=decide_eq_false hz
  simp! only[y0K,z5M]
  refine z0w loop ?_
  rintro s ⟨o2,rfl⟩
  simp! only[vo,dm2,d0,z0b]
  exact⟨_,rfl⟩
theorem y8R{m:Nat}(hm:m≤1000){bs:List (Int×List Int)}(hl:bs.length≤1000000)(g:∀b∈bs,Good m b){i:Nat}(hi:i<m):z7W [z1P bs,.int (m:Int),.int (i:Int)]=some (z9z ((ag m).map fun j=>!decide (i=j)&&decide (0<z2g bs i j))):=by
 refine z0m rfl ?_
 have hr:rng1 (some (.int (m:Int)))=some (z9O 0 m):=by rw[x0l (by omega)];rfl
 have hl2:((ag m).map nD).length≤1000000:=by rw[aq,bx];omega
 have c:z1B (z2k z6h (y9t (d2 neD (z0d 2) (z0d 3)) (d2 gtI (z0j y2s [z0d 0,z0d 2,z0d 3]) (dC (.int 0)))) [some (z1P bs),some (.int (m:Int)),some (.int (i:Int))]) ((ag m).map nD)=some (((ag m).map fun j=>!decide (i=j)&&decide (0<z2g bs i j)).map bD):=by
  rw[aV]
  refine z4X (fun j:Nat=>bD (!decide (i=j)&&decide (0<z2g bs i j))) fun j hj=>?_
  have hj:=am.mp hj
  by_cases h:i=j
  ·subst h
   simp_all! only[nD,bD]
  ·have hab:(i:Int)≠(j:Int):=by omega
   have d:decide ((i:Int)=(j:Int))=false:=decide_eq_false hab
   have d':decide (i=j)=false:=decide_eq_false h
   have l:=lead_eq bs hl hab fun x hx=>⟨(g x hx).mem hi,(g x hx).mem hj⟩
   simp_all! only[nD,bD,d,d',l]
 have fl:=z5N (z5p ((ag m).map fun j=>!decide (i=j)&&decide (0<z2g bs i j)))
 simp! only[y0z,hr,z5C,z4b hl2,c,fl,z0b]
 rfl
theorem tabL_sq{m:Nat}{bs:List (Int×List Int)}:Sq m (z6l m bs):=by
 have:=sq_grid (th:=ag m) (f:=fun i j=>!decide (i=j)&&decide (0<z2g bs i j))
 rwa [bx]at this
theorem y7L{m:Nat}(hm:m≤1000){bs:List (Int×List Int)}(hl:bs.length≤1000000)(g:∀b∈bs,Good m b)(ho:z3U bs % 2=1):z3d [z1P bs,.int (m:Int)]=some (.val (z0E (z6l m bs))):=by
 refine z2Y rfl ?_
 have ha:=z9M hm hl (fun b hb=>⟨by rw[(g b hb).len];exact hm,z9Q (g b hb).perm⟩)
 rw[if_neg (by omega)]at ha
 simp! only[z6N,ha,z2r (show m≤1000000 by omega),z5C]
 rw[z5h (fun i:Nat=>z9z ((ag m).map fun j=>!decide (i=j)&&decide (0<z2g bs i j))) (by simp;omega) fun i hi=>by
  have:=y8R hm hl g (am.mp hi)
  simp! only[nD,this]]
 simp! only[z0b]
 unfold z6l y3E z0E
 rw[aV]
 rfl
theorem z3s{o:List Nat}{m:Nat}(h:o.Perm (ag m)):∀x∈o,x<m:=fun _ hx=>am.mp (h.mem_iff.mp hx)
theorem z1i{o:List Nat}{m:Nat}(h:o.Perm (ag m)):o.length=m:=by simpa using h.length_eq
theorem perm_nd{o:List Nat}{m:Nat}(h:o.Perm (ag m)):o.Nodup:=h.nodup_iff.mpr bK
theorem nD_ints(o:List Nat):o.map nD=(o.map fun n=>((n:Nat):Int)).map D.int:=by rw[aV];rfl
theorem x2R{m:Nat}(hm:m≤1000){o:List Nat}(hp:o.Perm (ag m)):z0y [thD o,.int (m:Int)]=some (.bl true):=by
 refine z0m rfl ?_
 have hl:decide ((o.length:Int)=(m:Int))=true:=decide_eq_true (by rw[z1i hp])
 have t0:D.dct [] []=z8u []:=rfl
 simp_all! only[z0Z,z3S,hl,t0,z2T]
 refine z0w (I:=fun s=>∃p o3,s=[some (.sh (thD o)),some (.sh (.int (m:Int))),some (.ow (z8u p)),o3]) ?_ ?_
 ·refine z1a (fun pre s=>∃o3,s=[some (.sh (thD o)),some (.sh (.int (m:Int))),some (.ow (z8u (pre.map fun n=>((n:Nat):Int)))),o3]) ⟨none,rfl⟩ ?_ fun s ⟨o3,z⟩=>⟨s,rfl,_,o3,z⟩
  rintro pre x post e s ⟨o3,rfl⟩
  have hx:x∈o:=by rw[e];simp
  have hxm:=z3s hp x hx
  have it:=z5S (x:=(x:Int)) (m:=m) ⟨by omega,by omega⟩
  have nd:=perm_nd hp
  rw[e,bb]at nd
  have hnp:(x:Int)∉pre.map fun n=>((n:Nat):Int):=fun z=>by
   obtain⟨y,hy,hyx⟩:=aN.mp z
   have:y=x:=by omega
   subst this
   exact nd.2.2 y hy y ac rfl
  have hpl:(pre.map fun n=>((n:Nat):Int)).length≤1000000:=by
   have h1:=z1i hp
   rw[e,aC]at h1
   rw[aq]
   omega
  simp_all! only[nD,it,y9E hnp,y6R hnp hpl,z0b]
  rw[aS]
  exact⟨_,rfl⟩
 ·rintro s ⟨p,o3,rfl⟩
  simp! only[z0b]
theorem y2r{m:Nat}{T:List (List Bool)}(sq:Sq m T){a b:Nat}(ha:a<m)(hb:b<m):z6j [z0E T,.int (a:Int),.int (b:Int)]=some (.int ((if at2 T b a=true then b else a:Nat):Int)):=by
 refine z0m rfl ?_
 simp! only[y0m,ix2 sq hb ha]
 cases at2 T b a with
 |true=>simp! only[z0b];rfl
 |false=>simp! only[z0b];rfl
def z1l(T:List (List Bool))(s:Nat)(o:List Nat):Nat:=o.foldl (fun s x=>if at2 T x s=true then x else s) s
theorem y0Q{T:List (List Bool)}{m:Nat}:∀{o:List Nat} {s:Nat},s<m->(∀x∈o,x<m)->z1l T s o<m
 |[],s,h,_=>h
 |x::r,s,h,hx=>by
  show z1l T (if at2 T x s=true then x else s) r<m
  refine y0Q ?_ fun y hy=>hx y (ad _ hy)
  split
  ·exact hx x ac
  ·exact h
theorem z8i{m:Nat}{T:List (List Bool)}(sq:Sq m T){a:Nat}(ha:a<m){th:List Nat}(hl:th.length≤1000)(h:∀x∈th,x<m):z1F [z0E T,.int (a:Int),thD th]=some (.bl (th.all fun j=>at2 T a j)):=by
 refine z0m rfl ?_
 simp! only[z5O,z2T]
 rw[z5h (fun j=>bD (at2 T a j)) hl fun j hj=>by simp! only[nD,ix2 sq ha (h j hj),bD]]
 have e:(th.map fun j=>bD (at2 T a j))=(th.map fun j=>at2 T a j).map bD:=by rw[aV];rfl
 have e2:((th.map fun j=>at2 T a j).all fun b=>b)=th.all fun j=>at2 T a j:=by rw[List.all_map];rfl
 simp! only[e,y6x,e2,z0b]
def z1u(T:List (List Bool)):List Nat->List Nat
 |[]=>[]
 |a::r=>if(z1u T r).all (fun j=>at2 T a j)=true then a::z1u T r else z1u T r
theorem chBk_sub{T:List (List Bool)}:∀{o:List Nat},(z1u T o).Sublist o
 |[]=>.slnil
 |a::r=>by
  unfold z1u
  split
  ·exact chBk_sub.cons₂ _
  ·exact chBk_sub.cons _
theorem z8D{T:List (List Bool)}{s x:Nat}{o:List Nat}:z1l T s (o++[x])=if at2 T x (z1l T s o)=true then x else z1l T s o:=by unfold z1l;rw[List.foldl_append];rfl
theorem x4o{m:Nat}{T:List (List Bool)}(sq:Sq m T){a:Nat}{r:List Nat}(h:∀x∈a::r,x<m):z2Q [z0E T,thD (a::r)]=some (.int ((z1l T a r:Nat):Int)):=by
 refine z0m rfl ?_
 simp! only[z4B,ix0,y5Z,y0b,z2T,List.drop_one,List.tail_cons]
 refine z0w (I:=fun s=>∃o3,s=[some (.sh (z0E T)),some (.sh (thD (a::r))),some (.sh (.int ((z1l T a r:Nat):Int))),o3]) ?_ ?_
 ·refine z1a (fun pre s=>∃o3,s=[some (.sh (z0E T)),some (.sh (thD (a::r))),some (.sh (.int ((z1l T a pre:Nat):Int))),o3]) ⟨_,rfl⟩ ?_ fun s z=>⟨s,rfl,z⟩
  rintro pre x post e s ⟨o3,rfl⟩
  have hx:=h x (by rw[e];simp)
  have hs:z1l T a pre<m:=y0Q (h a ac) fun y hy=>h y (by rw[e];simp[hy])
  rw[z8D]
  simp! only[nD,ix2 sq hx hs]
  cases at2 T x (z1l T a pre)with
  |true=>simp! only[z0b];exact⟨_,rfl⟩
  |false=>simp! only[z0b];exact⟨_,rfl⟩
 ·rintro s ⟨o3,rfl⟩
  simp! only[z0b]
theorem rest_eq{m:Nat}{T:List (List Bool)}(sq:Sq m T){o:List Nat}{l:Nat}{q:List Nat}(hr:o.reverse=l::q)(h:∀x∈l::q,x<m):z3E [z0E T,thD o]=some (.int ((z1l T l q:Nat):Int)):=by
 refine z0m rfl ?_
 have hne:o≠[]:=fun z=>by rw[z]at hr;cases hr
 have il:=y5z (th:=o) hne
 have hl:o.getLast hne=l:=by
  have h1:o.reverse.head? = some l:=by rw[hr];rfl
  rw[List.head?_reverse,List.getLast?_eq_some_getLast hne]at h1
  exact Option.some.inj h1
 rw[hl]at il
 obtain⟨w,hw⟩:∃w,w=l::q:=⟨_,rfl⟩
 rw[←hw]at hr
 simp! only[z5P,il,y4K,hr]
 refine z0w (I:=fun s=>∃o3,s=[some (.sh (z0E T)),some (.sh (thD o)),some (.sh (.int ((z1l T l q:Nat):Int))),o3]) ?_ ?_
 ·refine z1a (fun pre s=>∃o3,s=[some (.sh (z0E T)),some (.sh (thD o)),some (.sh (.int ((z1l T l pre:Nat):Int))),o3]) ⟨_,rfl⟩ ?_ ?_
  ·rintro pre x post e s ⟨o3,rfl⟩
   have hx:=h x (by rw[←hw,e];simp)
   have hs:z1l T l pre<m:=y0Q (h l ac) fun y hy=>h y (by rw[←hw,e];simp[hy])
   rw[z8D]
   simp! only[nD,ix2 sq hx hs]
   cases at2 T x (z1l T l pre)with
   |true=>simp! only[z0b];exact⟨_,rfl⟩
   |false=>simp! only[z0b];exact⟨_,rfl⟩
  ·rintro s ⟨o3,rfl⟩
   have e:z1l T l w=z1l T l q:=by
    rw[hw]
    show z1l T (if at2 T l l=true then l else l) q=_
    split <;> rfl
   rw[e]
   exact⟨_,rfl,_,rfl⟩
 ·rintro s ⟨o3,rfl⟩
  simp! only[z0b]
theorem x0L{m:Nat}{T:List (List Bool)}(sq:Sq m T)(hm:m≤900){o:List Nat}(hp:o.Perm (ag m)):z2P [z0E T,thD o]=some (thD (z1u T o)):=by
 refine z0m rfl ?_
 have hlt:=z3s hp
 have hlen:=z1i hp
 simp! only[z4i,z2p,x1e,y4K]
 refine z0w (I:=fun s=>∃o3,s=[some (.sh (z0E T)),some (.sh (thD o)),some (.ow (thD (z1u T o))),o3]) ?_ ?_
 ·refine z1a (fun pre s=>∃o3,s=[some (.sh (z0E T)),some (.sh (thD o)),some (.ow (thD (z1u T pre.reverse))),o3]) ⟨_,rfl⟩ ?_ fun s ⟨o3,z⟩=>⟨s,rfl,o3,by rw[z,cF]⟩
  rintro pre x post e s ⟨o3,rfl⟩
  have hx:=hlt x (by rw[←List.mem_reverse,e];simp)
  have hsub:=chBk_sub (T:=T) (o:=pre.reverse)
  have hpl:pre.length≤m:=by
   have:o.reverse.length=(pre++x::post).length:=by rw[e]
   simp at this
   omega
  have hl:(z1u T pre.reverse).length≤900:=by
   have:=hsub.length_le
   rw[bY]at this
   omega
  have hc:∀y∈z1u T pre.reverse,y<m:=fun y hy=>hlt y (by
   have:=hsub.subset hy
   rw[←List.mem_reverse,e]
   simp at this
   simp[this])
  have er:(pre++[x]).reverse=x::pre.reverse:=by simp
  rw[er,z1u]
  have ba:decide ((((List.map nD ((z1u T pre.reverse).filter fun j=>!at2 T x j)).length:Nat):Int)=0)=(z1u T pre.reverse).all fun j=>at2 T x j:=by
   rw[aq]
   cases hz:(z1u T pre.reverse).all fun j=>at2 T x j with
   |true=>
    have:(z1u T pre.reverse).filter (fun j=>!at2 T x j)=[]:=bf.mpr fun y hy=>by rw[aW.mp hz y hy];simp
    rw[this]
    rfl
   |false=>
    refine decide_eq_false fun w=>?_
    have w:((z1u T pre.reverse).filter fun j=>!at2 T x j)=[]:=bL.mp (by omega)
    rw[bf]at w
    rw[List.all_eq_false]at hz
    obtain⟨y,hy,hn⟩:=hz
    exact w y hy (by simpa using hn)
  have cx:z2l (some ((z1u T pre.reverse).map nD)) (z2k (z6m (z0z (d2 ixD (d2 ixD (z0d 0) (z0d 3)) (z0d 4)))) (z0d 4) [some (z0E T),some (thD o),some (thD (z1u T pre.reverse)),some (.int (x:Int))])=some (((z1u T pre.reverse).filter fun j=>!at2 T x j).map nD):=
   y1z (fun j=>!at2 T x j) nD (by omega) (fun j hj=>by simp! only[nD,ix2 sq hx (hc j hj)]) fun j hj _=>by simp! only[]
  have im:y5d (some [.int 0,.int (x:Int)])=some [.int 0,.int (x:Int)]:=z7Y rfl
  have iv:m0V insF (some (thD (z1u T pre.reverse))) (some [.int 0,.int (x:Int)])=some (thD (x::z1u T pre.reverse)):=by
   have:=y9s (o:=z1u T pre.reverse) (b:=0) (v:=x) (by omega) (by omega)
   simpa using this
  simp! only[nD,z2T,cx,ba]
  cases (z1u T pre.reverse).all fun j=>at2 T x j with
  |true=>simp! only[im,iv,z0b,if_true];exact⟨_,rfl⟩
  |false=>simp! only[z0b,cP,if_false];exact⟨_,rfl⟩
 ·rintro s ⟨o3,rfl⟩
  simp! only[z0b]
theorem z3c{a b:Str}{c:Bool}(h1:okP (.str a)=true)(h2:okP (.str b)=true)(h:PyData.eqv (.str a) (.str b)=c):eqD (.str a) (.str b)=some (.bl c):=by
 unfold eqD
 rw[h1,h2]
 show some (D.bl (PyData.eqv (.str a) (.str b)))=_
 rw[h]
theorem k_pp:eqD (.str "plain") (.str "plain")=some (.bl true):=z3c (by decide +kernel) (by decide +kernel) (by decide +kernel)
theorem k_ap:eqD (.str "ahead") (.str "plain")=some (.bl false):=z3c (by decide +kernel) (by decide +kernel) (by decide +kernel)
theorem k_aa:eqD (.str "ahead") (.str "ahead")=some (.bl true):=z3c (by decide +kernel) (by decide +kernel) (by decide +kernel)
theorem k_rp:eqD (.str "rest") (.str "plain")=some (.bl false):=z3c (by decide +kernel) (by decide +kernel) (by decide +kernel)
theorem k_ra:eqD (.str "rest") (.str "ahead")=some (.bl false):=z3c (by decide +kernel) (by decide +kernel) (by decide +kernel)
theorem k_rr:eqD (.str "rest") (.str "rest")=some (.bl true):=z3c (by decide +kernel) (by decide +kernel) (by decide +kernel)
theorem y0F{m:Nat}(hm:m≤1000)(h0:0<m){o:List Nat}(hp:o.Perm (ag m)):z0O [thD o,.int (m:Int)]=some (.val .non):=by
 refine x0s rfl ?_
 have d0:decide ((m:Int)=0)=false:=decide_eq_false (by omega)
 simp_all! only[z3J,d0,x2R hm hp,z0b]
 exact⟨_,rfl⟩
inductive Tr where
 |lf (n:Nat)
 |nd (l r:Tr)
def tD:Tr->D
 |.lf n=>nD n
 |.nd l r=>.tup [tD l,tD r]
def dep:Tr->Nat
 |.lf _=>0
 |.nd l r=>1+max (dep l) (dep r)
def z3X:Tr->List Nat
 |.lf n=>[n]
 |.nd l r=>z3X l++z3X r
theorem y5V:∀t:Tr,(tD t).imm=true
 |.lf _=>rfl
 |.nd l r=>by
  show((tD l).imm&&((tD r).imm&&true))=true
  rw[y5V l,y5V r]
  rfl
theorem y3u{t:Tr}:y5i (some (tD t))=some (tD t):=if_pos (y5V t)
theorem imm_tD2{l r:Tr}:y5i (some (.tup [tD l,tD r]))=some (tD (.nd l r)):=if_pos (y5V (.nd l r))
theorem y5K{l r:Tr}:ixD (tD (.nd l r)) (.int 0)=some (tD l):=(rfl)
theorem y6O{l r:Tr}:ixD (tD (.nd l r)) (.int 1)=some (tD r):=(rfl)
theorem z5q{l r:Tr}:z0p [tD (.nd l r)]=some (.bl true):=by
 refine z0m rfl ?_
 have e:isF "tuple" (tD (.nd l r))=true:=rfl
 simp! only[z1t,e,z0b]
theorem z5E{a:Nat}:z0p [tD (.lf a)]=some (.bl false):=by
 refine z0m rfl ?_
 have e:isF "tuple" (tD (.lf a))=false:=rfl
 simp! only[z1t,e,z0b]
theorem z5b:∀{t:Tr} {n:Nat},dep t<n->(z3X t).length≤1000->z1c n [tD t]=some (thD (z3X t))
 |t,0,h,_=>absurd h (by omega)
 |.lf a,n+1,_,_=>by
  refine z0m rfl ?_
  have f1:z7d (some [tD (.lf a)])=some [tD (.lf a)]:=rfl
  simp! only[z1J,z5E,f1,z0b]
  rfl
 |.nd l r,n+1,h,hl=>by
  refine z0m rfl ?_
  have h:1+max (dep l) (dep r)<n+1:=h
  have hl:(z3X l++z3X r).length≤1000:=hl
  rw[aC]at hl
  have i1:=z5b (t:=l) (n:=n) (by omega) (by omega)
  have i2:=z5b (t:=r) (n:=n) (by omega) (by omega)
  have e3:=z5j (a:=z3X l) (b:=z3X r) (by omega)
  simp! only[z1J,z5q,y5K,y6O,i1,i2,e3,z2A,z0b]
  rfl
theorem y8Z{m:Nat}{t:Tr}(hd:dep t<12)(hl:(z3X t).length≤1000)(h:∀x∈z3X t,x<m):z2B [tD t,.int (m:Int)]=some (.bl true):=by
 refine z0m rfl ?_
 have e1:z1b [tD t]=some (thD (z3X t)):=z5b hd hl
 simp! only[z5X,e1,z2T]
 rw[z5h (fun _=>bD true) hl fun x hx=>by
  have:=h x hx
  simp! only[nD,z5S (x:=(x:Int)) (m:=m) ⟨by omega,by omega⟩,bD]]
 have e:((z3X t).map fun _=>bD true)=((z3X t).map fun _=>true).map bD:=by rw[aV];rfl
 have e2:(((z3X t).map fun _=>true).all fun b=>b)=true:=by simp
 simp! only[e,y6x,e2,z0b]
def stT:Nat->List Nat->Tr
 |a,[]=>.lf a
 |a,b::r=>.nd (stT a r) (stT b r)
theorem z6L:∀{r:List Nat} {a:Nat},dep (stT a r)=r.length
 |[],_=>rfl
 |b::r,a=>by
  show 1+max (dep (stT a r)) (dep (stT b r))=r.length+1
  rw[z6L,z6L]
  omega
theorem z7k:∀{r:List Nat} {a:Nat},(z3X (stT a r)).length=2 ^ r.length
 |[],_=>rfl
 |b::r,a=>by
  show(z3X (stT a r)++z3X (stT b r)).length=2 ^ (r.length+1)
  rw[aC,z7k,z7k,Nat.pow_succ]
  omega
theorem z4k:∀{r:List Nat} {a x:Nat},x∈z3X (stT a r)->x∈a::r
 |[],_,_,h=>h
 |b::r,a,x,h=>by
  rcases au.mp (show x∈z3X (stT a r)++z3X (stT b r) from h)with z | z
  ·rcases ah.mp (z4k z)with z | z
   ·rw[z];exact ac
   ·exact ad _ (ad _ z)
  ·exact ad _ (z4k z)
theorem cut_one{a:Nat}{r:List Nat}:y2S (some (thD (a::r))) (some none) (some (some 1))=some ([a].map nD):=x2A (o:=a::r) (k:=0) (by simp)
theorem cut_two{a b:Nat}{r:List Nat}:y2S (some (thD (a::b::r))) (some (some 2)) (some none)=some (r.map nD):=y1Z (o:=a::b::r) (k:=2)
theorem z4m:∀{r:List Nat} {a n:Nat},r.length<n->r.length≤1000->z0K n [thD (a::r)]=some (tD (stT a r))
 |r,a,0,h,_=>absurd h (by omega)
 |[],a,n+1,_,_=>by
  refine z0m rfl ?_
  have d1:decide (((([a]:List Nat).length:Nat):Int)=1)=true:=rfl
  simp! only[z0V,z3S,d1,ix0,z0b]
  rfl
 |b::r,a,n+1,h,hl=>by
  refine z0m rfl ?_
  have h:r.length+1<n+1:=h
  have hl:r.length+1≤1000:=hl
  have i1:=z4m (r:=r) (a:=a) (n:=n) (by omega) (by omega)
  have i2:=z4m (r:=r) (a:=b) (n:=n) (by omega) (by omega)
  have d1:decide ((((a::b::r).length:Nat):Int)=1)=false:=decide_eq_false (by simp only[aZ];omega)
  obtain⟨w,hw⟩:∃w,w=b::r:=⟨_,rfl⟩
  have c1:y2S (some (thD (a::b::r))) (some (some 1)) (some none)=some (w.map nD):=by rw[hw];exact y5Z
  obtain⟨v,hv⟩:∃v,v=a::r:=⟨_,rfl⟩
  have c2:catO (some (thD [a])) (some (thD r))=some (v.map nD):=by rw[hv];exact z5j (a:=[a]) (b:=r) (by simp;omega)
  obtain⟨u,hu⟩:∃u,u=[a]:=⟨_,rfl⟩
  have c3:y2S (some (thD (a::b::r))) (some none) (some (some 1))=some (u.map nD):=by rw[hu];exact cut_one
  rw[←hu]at c2
  rw[←hv]at i1
  rw[←hw]at i2
  simp! only[z0V,z3S,d1,c3,cut_two,y0b,c2,c1,i1,i2,imm_tD2,z0b]
  rfl
def rsI(ns:List Int):List Int:=y4c (ddI ns)
theorem x2T{a b:List Int}(ha:a.Nodup)(hb:b.Nodup)(h:∀x,x∈a↔x∈b):a.Perm b:=(bE ha hb).mpr h
theorem rs_is{a ns:List Int}(nd:a.Nodup)(hs:a.Pairwise (· ≤ ·))(h:∀x,x∈a↔x∈ns):a=rsI ns:=y1a (x2T nd (y1j ns) fun x=>by rw[h x,dd_mem]) hs
theorem rs_len{ns U:List Int}(h:∀x∈ns,x∈U):(ddI ns).length≤U.length:=List.Nodup.length_le_of_subset (y1j ns) fun x hx=>h x (dd_mem.mp hx)
theorem x3O{ns:List Int}(h1:ns.length≤1000)(h2:(ddI ns).length<64):y1H (.lst (ns.map .int))=some ((rsI ns).map .int):=by
 show((z1O (ns.map D.int)).bind fun ns=>if ns.length≤1000∧(ddI ns).length<64 then some ((y4c (ddI ns)).map D.int)else none)=_
 rw[z7Z,aA,if_pos ⟨h1,h2⟩]
 rfl
section
variable{m:Nat}{W:List Nat}
structure Ris(m:Nat)(W:List Nat):Prop where
 up:W.Pairwise (· < ·)
 lt:∀x∈W,x<m
theorem Ris.nd(h:Ris m W):W.Nodup:=h.up.imp fun h=>az h
theorem Ris.len(h:Ris m W):W.length≤m:=by simpa using List.Nodup.length_le_of_subset h.nd fun x hx=>am.mpr (h.lt x hx)
theorem ris_fil{p:Nat->Bool}:Ris m ((ag m).filter p):=⟨List.Pairwise.filter _ bB,fun x hx=>am.mp (ak.mp hx).1⟩
theorem cast_up{o:List Nat}(h:o.Pairwise (· < ·)):(o.map fun n=>((n:Nat):Int)).Pairwise (· ≤ ·):=by
 rw[bw]
 exact h.imp fun h=>by omega
theorem cast_nd{o:List Nat}(h:o.Nodup):(o.map fun n=>((n:Nat):Int)).Nodup:=by
 unfold List.Nodup
 rw[bw]
 exact h.imp fun h z=>h (by omega)
theorem cast_mem{o:List Nat}{x:Nat}:((x:Nat):Int)∈o.map (fun n=>((n:Nat):Int))↔x∈o:=by
 rw[aN]
 constructor
 ·rintro⟨y,hy,e⟩
  have:y=x:=by omega
  exact this ▸ hy
 ·exact fun h=>⟨x,h,rfl⟩
theorem y1A(o:List Nat):o.map nD=(o.map fun n=>((n:Nat):Int)).map D.int:=by rw[aV];rfl
def w0(m:Nat)(th:List Nat):List Nat:=(ag m).filter fun x=>th.contains x
theorem x1Q{th:List Nat}(lt:∀x∈th,x<m){x:Nat}:x∈w0 m th↔x∈th:=by
 unfold w0
 rw[ak,am,ar]
 exact⟨fun h=>h.2,fun h=>⟨lt x h,h⟩⟩
theorem x3G{th:List Nat}(lt:∀x∈th,x<m)(hm:m≤30)(hl:th.length≤1000):y1H (thD th)=some ((w0 m th).map nD):=by
 unfold thD
 rw[y1A,y1A (w0 m th)]
 have hmem:∀x:Int,x∈(w0 m th).map (fun n=>((n:Nat):Int))↔x∈th.map fun n=>((n:Nat):Int):=fun x=>by
  constructor
  ·intro h
   obtain⟨y,hy,rfl⟩:=aN.mp h
   exact cast_mem.mpr ((x1Q lt).mp hy)
  ·intro h
   obtain⟨y,hy,rfl⟩:=aN.mp h
   exact cast_mem.mpr ((x1Q lt).mpr hy)
 rw[x3O (by simpa using hl) (Nat.lt_of_le_of_lt (rs_len fun x hx=>(hmem x).mpr hx) (by
  have:(w0 m th).length≤m:=(ris_fil (m:=m) (p:=fun x=>th.contains x)).len
  rw[aq]
  omega))]
 rw[←rs_is (cast_nd ris_fil.nd) (cast_up ris_fil.up) hmem]
 rfl
end
def alB(L R:List Int)(x:Int):Bool:=L.contains x != R.contains x
def sdS(o L R:List Int):Str:=match o.filter (alB L R)with
 |[] => "left"
 |x::_=>if R.contains x=true then "right" else "left"
theorem x3P{o pre post:List Int}{x:Int}{L R:List Int}(e:o=pre++x::post)(hp:∀y∈pre,alB L R y=false)(hx:alB L R x=true):sdS o L R=if R.contains x=true then("right" : Str)else("left" : Str):=by
 unfold sdS
 have:pre.filter (alB L R)=[]:=bf.mpr fun y hy=>by rw[hp y hy];exact aj
 rw[e,ca,this,cJ,bu,if_pos hx]
theorem sd_none{o L R:List Int}(hp:∀y∈o,alB L R y=false):sdS o L R = "left" := by
 unfold sdS
 have:o.filter (alB L R)=[]:=bf.mpr fun y hy=>by rw[hp y hy];exact aj
 rw[this]
theorem side_eq{l r:Tr}{o L R:List Int}(e1:z1E [tD l]=some (y8r L))(e2:z1E [tD r]=some (y8r R)):z1L [z9f o,tD (.nd l r)]=some (.str (sdS o L R)):=by
 refine z0m rfl ?_
 simp! only[z4E,y5K,y6O,e1,e2,y9v]
 refine y0d (I:=fun s=>∃o4,s=[some (.sh (z9f o)),some (.sh (tD (.nd l r))),some (.ow (y8r L)),some (.ow (y8r R)),o4]∧∀y∈o,alB L R y=false) ?_ ?_
 ·refine z1a (fun pre s=>∃o4,s=[some (.sh (z9f o)),some (.sh (tD (.nd l r))),some (.ow (y8r L)),some (.ow (y8r R)),o4]∧∀y∈pre,alB L R y=false) ⟨_,rfl,fun y hy=>by cases hy⟩ ?_ ?_
  ·rintro pre x post e s ⟨o4,rfl,hp⟩
   have snoc:alB L R x=false->∀y∈pre++[x],alB L R y=false:=fun hx y hy=>by
    rcases au.mp hy with z | z
    ·exact hp y z
    ·rw[ai.mp z];exact hx
   cases h1:L.contains x <;> cases h2:R.contains x
   ·simp_all! only[x3k,y6z,h1,h2,z0b]
    exact⟨_,rfl,snoc (by unfold alB;rw[h1,h2];rfl)⟩
   ·have hx:alB L R x=true:=by unfold alB;rw[h1,h2];rfl
    simp_all! only[x3k,y6z,h1,h2,z0b]
    rw[x3P e hp hx,if_pos h2]
    exact .inr rfl
   ·have hx:alB L R x=true:=by unfold alB;rw[h1,h2];rfl
    simp_all! only[x3k,y6z,h1,h2,z0b]
    rw[x3P e hp hx,if_neg (by rw[h2];exact aj)]
    exact .inr rfl
   ·simp_all! only[x3k,y6z,h1,h2,z0b]
    exact⟨_,rfl,snoc (by unfold alB;rw[h1,h2];rfl)⟩
  ·rintro s ⟨o4,rfl,hp⟩
   exact .inl ⟨_,rfl,_,rfl,hp⟩
 ·rintro s ⟨o4,rfl,hp⟩
  rw[sd_none hp]
  simp! only[z0b]
theorem streeX{m:Nat}(hm:m≤12){a:Nat}{r:List Nat}(hp:(a::r).Perm (ag m)):z1p [thD (a::r)]=some (.val (tD (stT a r))):=by
 refine z2Y rfl ?_
 have hlen:=z1i hp
 have h0:0<m:=by simp at hlen;omega
 have oa:=y0F (by omega) h0 hp
 have hl:(((a::r).length:Nat):Int)=(m:Int):=by rw[hlen]
 have e1:z0T [thD (a::r)]=some (tD (stT a r)):=z4m (by simp at hlen;omega) (by simp at hlen;omega)
 simp! only[z2y,z3S,hl,oa,e1,z0b]
theorem y0o:∀{r:List Nat} {a x:Nat},x∈a::r->x∈z3X (stT a r)
 |[],_,_,h=>h
 |b::r,a,x,h=>by
  show x∈z3X (stT a r)++z3X (stT b r)
  rcases ah.mp h with z | z
  ·exact bc _ (y0o (by rw[z];exact ac))
  ·exact aO _ (y0o z)
def thI(m:Nat)(t:Tr):List Int:=(w0 m (z3X t)).map fun n=>((n:Nat):Int)
theorem y2x{m:Nat}(hm:m≤30){t:Tr}(hd:dep t<12)(hl:(z3X t).length≤1000)(h:∀x∈z3X t,x<m):z1E [tD t]=some (y8r (thI m t)):=by
 refine z0m rfl ?_
 have e1:z1b [tD t]=some (thD (z3X t)):=z5b hd hl
 have e2:=x3G h hm hl
 simp! only[z5y,e1,aA,e2,z2A,z0b]
 unfold y8r thI
 rw[←y1A]
theorem x1L{m:Nat}{a:Nat}{r:List Nat}(h:∀x∈a::r,x<m)(x:Nat):(thI m (stT a r)).contains ((x:Nat):Int)=(a::r).contains x:=by
 have hm:∀y∈z3X (stT a r),y<m:=fun y hy=>h y (z4k hy)
 have:((x:Nat):Int)∈thI m (stT a r)↔x∈a::r:=by
  unfold thI
  rw[cast_mem,x1Q hm]
  exact⟨z4k,y0o⟩
 by_cases hx:x∈a::r
 ·have h1:(thI m (stT a r)).contains ((x:Nat):Int)=true:=ar.mpr (this.mpr hx)
  have h2:(a::r).contains x=true:=ar.mpr hx
  rw[h1,h2]
 ·have h1:(thI m (stT a r)).contains ((x:Nat):Int)=false:=by rw[←aR,ar];exact fun z=>hx (this.mp z)
  have h2:(a::r).contains x=false:=by rw[←aR,ar];exact hx
  rw[h1,h2]
theorem y2E{o:List Int}{a:Int}(h:a∈o):∃pre post,o=pre++a::post∧pre.length=plc o a∧a∉pre:=by
 have hl:plc o a<o.length:=bH ⟨a,h,by simp⟩
 have ha:o[plc o a]=a:=by
  have h2:(o[plc o a]==a)=true:=eS (p:=fun n=>n==a) (xs:=o) (w:=hl)
  exact eq_of_beq h2
 refine⟨o.take (plc o a),o.drop (plc o a+1),?_,by rw[bW];omega,fun z=>?_⟩
 ·have:=cr (plc o a) o
  rw[bn hl,ha]at this
  exact this.symm
 ·obtain⟨i,hi,e⟩:=cG.mp z
  rw[bW]at hi
  rw[List.getElem_take]at e
  have:=eC (p:=fun n=>n==a) (xs:=o) (i:=i) (by show i<plc o a;omega)
  rw[e]at this
  simp at this
theorem z9A{o pre post:List Int}{a b:Int}(e:o=pre++a::post)(hb:b∈pre):plc o b<pre.length:=by
 obtain⟨i,hi,rfl⟩:=cG.mp hb
 have h1:plc o pre[i]≤i:=by
  rcases dD i (plc o pre[i])with z | z
  ·have hio:i<o.length:=by rw[e];simp;omega
   have:=eC (p:=fun n=>n==pre[i]) (xs:=o) (i:=i) z
   have e2:o[i]=pre[i]:=by
    simp only[e]
    rw[List.getElem_append_left hi]
   rw[e2]at this
   simp at this
  ·exact z
 omega
theorem x2O{m:Nat}{o:List Int}(ho:o.Perm (x2m m)){a b:Nat}{r:List Nat}(hlt:∀x∈a::b::r,x<m)(nd:(a::b::r).Nodup):sdS o (thI m (stT a r)) (thI m (stT b r))=if ahd o (a:Int) (b:Int)=true then("left" : Str)else("right" : Str):=by
 have nd1:=ay.mp nd
 have nd2:=ay.mp nd1.2
 have hab:a≠b:=fun z=>nd1.1 (by rw[z];exact ac)
 have har:a∉r:=fun z=>nd1.1 (ad _ z)
 have hbr:b∉r:=nd2.1
 have hL:=x1L (m:=m) (a:=a) (r:=r) fun x hx=>hlt x (by
  rcases ah.mp hx with z | z
  ·rw[z];exact ac
  ·exact ad _ (ad _ z))
 have hR:=x1L (m:=m) (a:=b) (r:=r) fun x hx=>hlt x (ad _ hx)
 have mo:∀x:Nat,x<m->((x:Nat):Int)∈o:=fun x hx=>ho.mem_iff.mpr (aN.mpr ⟨x,am.mpr hx,rfl⟩)
 have al:∀y:Int,y∈o->alB (thI m (stT a r)) (thI m (stT b r)) y=(decide (y=(a:Int))||decide (y=(b:Int))):=fun y hy=>by
  obtain⟨x,hx,rfl⟩:=aN.mp (ho.mem_iff.mp hy)
  unfold alB
  rw[hL x,hR x]
  have i1:decide (((x:Nat):Int)=(a:Int))=decide (x=a):=decide_eq_decide.mpr (by omega)
  have i2:decide (((x:Nat):Int)=(b:Int))=decide (x=b):=decide_eq_decide.mpr (by omega)
  rw[i1,i2,ff,ff]
  by_cases h1:x=a
  ·subst h1
   have c1:r.contains x=false:=by rw[←aR,ar];exact har
   have c2:(x==b)=false:=beq_eq_false_iff_ne.mpr hab
   have c3:(x==x)=true:=beq_self_eq_true x
   rw[c1,c2,c3,decide_eq_true (rfl:x=x)]
   rfl
  ·have c1:(x==a)=false:=beq_eq_false_iff_ne.mpr h1
   by_cases h2:x=b
   ·subst h2
    have c2:r.contains x=false:=by rw[←aR,ar];exact hbr
    have c3:(x==x)=true:=beq_self_eq_true x
    rw[c1,c2,c3,decide_eq_true (rfl:x=x),decide_eq_false h1]
    rfl
   ·have c2:(x==b)=false:=beq_eq_false_iff_ne.mpr h2
    rw[c1,c2,decide_eq_false h1,decide_eq_false h2]
    cases r.contains x <;> rfl
 have hao:=mo a (hlt a ac)
 have hbo:=mo b (hlt b (ad _ ac))
 cases hc:ahd o (a:Int) (b:Int)with
 |true=>
  have hc:=of_decide_eq_true hc
  obtain⟨pre,post,e,hl,hn⟩:=y2E hao
  have hbp:(b:Int)∉pre:=fun z=>by
   have:=z9A e z
   omega
  rw[x3P e (fun y hy=>by
   rw[al y (by rw[e];exact bc _ hy),decide_eq_false (fun z:y=(a:Int)=>hn (z ▸ hy)),decide_eq_false (fun z:y=(b:Int)=>hbp (z ▸ hy))]
   rfl) (by rw[al _ hao,decide_eq_true rfl];rfl)]
  have:(thI m (stT b r)).contains (a:Int)=false:=by
   rw[hR a,←aR,ar]
   exact fun z=>(ah.mp z).elim hab har
  rw[this]
  rfl
 |false=>
  have hc:=of_decide_eq_false hc
  obtain⟨pre,post,e,hl,hn⟩:=y2E hbo
  have hap:(a:Int)∉pre:=fun z=>by
   have:=z9A e z
   omega
  rw[x3P e (fun y hy=>by
   rw[al y (by rw[e];exact bc _ hy),decide_eq_false (fun z:y=(a:Int)=>hap (z ▸ hy)),decide_eq_false (fun z:y=(b:Int)=>hn (z ▸ hy))]
   rfl) (by rw[al _ hbo,decide_eq_true (rfl:(b:Int)=(b:Int)),Bool.or_true])]
  have:(thI m (stT b r)).contains (b:Int)=true:=by
   rw[hR b,ar]
   exact ac
  rw[this]
  rfl
theorem k_ll:eqD (.str "left") (.str "left")=some (.bl true):=z3c (by decide +kernel) (by decide +kernel) (by decide +kernel)
theorem k_rl:eqD (.str "right") (.str "left")=some (.bl false):=z3c (by decide +kernel) (by decide +kernel) (by decide +kernel)
theorem x1R{a b:Int}:∀bs:List (Int×List Int),z2g bs a b=2*z3U (bs.filter fun x=>ahd x.2 a b) - z3U bs
 |[]=>rfl
 |x::bs=>by
  have ih:=x1R (a:=a) (b:=b) bs
  have e1:z2g (x::bs) a b=(if ahd x.2 a b=true then x.1 else -x.1)+z2g bs a b:=by simp[z2g]
  have e2:z3U (x::bs)=x.1+z3U bs:=by simp[z3U]
  rw[bu,e1,e2]
  cases h:ahd x.2 a b with
  |true=>
   rw[if_pos rfl,if_pos rfl]
   have e3:z3U (x::bs.filter fun x=>ahd x.2 a b)=x.1+z3U (bs.filter fun x=>ahd x.2 a b):=by simp[z3U]
   rw[e3]
   omega
  |false=>
   rw[if_neg aj,if_neg aj]
   omega
def sdG(bs:List (Int×List Int))(a b:Nat):Str:=if 0<z2g bs (a:Int) (b:Int)then "left" else "right"
theorem y4u{m:Nat}(hm:m≤8){bs:List (Int×List Int)}(hl:bs.length≤1000)(g:∀b∈bs,Good m b){a b:Nat}{r:List Nat}(hlt:∀x∈a::b::r,x<m)(nd:(a::b::r).Nodup)(hr:r.length≤8):z3B [z1P bs,tD (stT a (b::r))]=some (.str (sdG bs a b)):=by
 refine z0m rfl ?_
 have h1:∀x∈a::r,x<m:=fun x hx=>hlt x (by
  rcases ah.mp hx with z | z
  ·rw[z];exact ac
  ·exact ad _ (ad _ z))
 have h2:∀x∈b::r,x<m:=fun x hx=>hlt x (ad _ hx)
 have hpw:2 ^ r.length≤256:=c8 (n:=2) (by omega) hr
 have t1:=y2x (m:=m) (t:=stT a r) (by omega) (by rw[z6L];omega) (by rw[z7k];omega) fun x hx=>h1 x (z4k hx)
 have t2:=y2x (m:=m) (t:=stT b r) (by omega) (by rw[z6L];omega) (by rw[z7k];omega) fun x hx=>h2 x (z4k hx)
 have sd:∀x∈bs,z1L [z9f x.2,tD (stT a (b::r))]=some (.str (if ahd x.2 (a:Int) (b:Int)=true then("left" : Str)else("right" : Str))):=fun x hx=>by
  have:=side_eq (o:=x.2) t1 t2
  rw[x2O (g x hx).perm hlt nd]at this
  exact this
 have cl:z2l (some (bs.map z2u)) (z2k (z0F (d2 eqD (z0j z1L [d2 ixD (z0d 3) (dC (.int 1)),z0d 1]) (dC (.str "left")))) (z0d 3) [some (z1P bs),some (tD (stT a (b::r))),none])=some ((bs.filter fun x=>ahd x.2 (a:Int) (b:Int)).map z2u):=
  y1z (fun x=>ahd x.2 (a:Int) (b:Int)) z2u hl (fun x hx=>by
   simp! only[z5H,sd x hx]
   cases ahd x.2 (a:Int) (b:Int)
   ·rw[if_neg aj,k_rl];rfl
   ·rw[if_pos rfl,k_ll];rfl) fun x _ _=>by simp! only[]
 have fl:=z5N (z4N (bs.filter fun x=>ahd x.2 (a:Int) (b:Int)))
 have tl:D.lst ((bs.filter fun x=>ahd x.2 (a:Int) (b:Int)).map z2u)=z1P (bs.filter fun x=>ahd x.2 (a:Int) (b:Int)):=rfl
 have v1:=z4j (bs.filter fun x=>ahd x.2 (a:Int) (b:Int)) (aG (aX _ _) (by omega))
 have v2:=z4j bs (by omega)
 have mu:mulI (.int 2) (.int (z3U (bs.filter fun x=>ahd x.2 (a:Int) (b:Int))))=some (.int (2*z3U (bs.filter fun x=>ahd x.2 (a:Int) (b:Int)))):=ea_mul (.inl (by omega))
 simp! only[z5K,z5M,cl,fl,tl,v1,v2,mu]
 unfold sdG
 have lv:=x1R (a:=(a:Int)) (b:=(b:Int)) bs
 by_cases hz:0<z2g bs (a:Int) (b:Int)
 ·rw[if_pos hz,decide_eq_true (show z3U bs<2*z3U (bs.filter fun x=>ahd x.2 (a:Int) (b:Int)) by omega)]
  simp! only[z0b]
 ·rw[if_neg hz,decide_eq_false (show ¬ z3U bs<2*z3U (bs.filter fun x=>ahd x.2 (a:Int) (b:Int)) by omega)]
  simp! only[z0b]
theorem y1M{bs:List (Int×List Int)}{a b:Nat}{l r:Tr}:z2d [tD (.nd l r),.str (sdG bs a b)]=some (tD (if 0<z2g bs (a:Int) (b:Int)then l else r)):=by
 refine z0m rfl ?_
 unfold sdG
 by_cases hz:0<z2g bs (a:Int) (b:Int)
 ·rw[if_pos hz,if_pos hz]
  simp! only[z6v,k_ll,y5K,y3u,z0b]
 ·rw[if_neg hz,if_neg hz]
  simp! only[z6v,k_rl,y6O,y3u,z0b]
def sdl(bs:List (Int×List Int)):Nat->List Nat->List Str
 |_,[]=>[]
 |a,b::r=>sdG bs a b::sdl bs (if 0<z2g bs (a:Int) (b:Int)then a else b) r
def lsP(bs:List (Int×List Int)):Nat->List Nat->Nat
 |a,[]=>a
 |a,b::r=>lsP bs (if 0<z2g bs (a:Int) (b:Int)then a else b) r
def ssD(ss:List Str):D:=.lst (ss.map .str)
theorem z8l{a b:Nat}{r:List Nat}{c:Prop}[Decidable c](nd:(a::b::r).Nodup):((if c then a else b)::r).Nodup:=by
 have nd1:=ay.mp nd
 have nd2:=ay.mp nd1.2
 split
 ·exact ay.mpr ⟨fun z=>nd1.1 (ad _ z),nd2.2⟩
 ·exact nd1.2
theorem y9V{m a b:Nat}{r:List Nat}{c:Prop}[Decidable c](h:∀x∈a::b::r,x<m):∀x∈(if c then a else b)::r,x<m:=fun x hx=>by
 rcases ah.mp hx with z | z
 ·rw[z]
  split
  ·exact h a ac
  ·exact h b (ad _ ac)
 ·exact h x (ad _ (ad _ z))
theorem x5b{a b:Nat}{r:List Nat}{c:Prop}[Decidable c]:(if c then stT a r else stT b r)=stT (if c then a else b) r:=by split <;> rfl
theorem y3d{m:Nat}(hm:m≤8){bs:List (Int×List Int)}(hl:bs.length≤1000)(g:∀b∈bs,Good m b)(ho:z3U bs % 2=1){a:Nat}{r:List Nat}(hlt:∀x∈a::r,x<m)(nd:(a::r).Nodup):z2U [z1P bs,.int (m:Int),tD (stT a r)]=some (.val (ssD (sdl bs a r))):=by
 refine z2Y rfl ?_
 have hrl:(a::r).length≤m:=by simpa using List.Nodup.length_le_of_subset nd fun x hx=>am.mpr (hlt x hx)
 have hrl:r.length+1≤m:=hrl
 have hpw:2 ^ r.length≤256:=c8 (n:=2) (by omega) (show r.length≤8 by omega)
 have ha:=z9M (m:=m) (by omega) (bs:=bs) (by omega) (fun b hb=>⟨by rw[(g b hb).len];omega,z9Q (g b hb).perm⟩)
 rw[if_neg (by omega)]at ha
 have ge:=y8Z (m:=m) (t:=stT a r) (by rw[z6L];omega) (by rw[z7k];omega) fun x hx=>hlt x (z4k hx)
 have nl:D.lst []=ssD []:=rfl
 simp_all! only[z4v,ha,ge,z2p,y3u]
 rw[nl]
 refine z0w (I:=fun s=>∃o4 o5,s=[some (.sh (z1P bs)),some (.sh (.int (m:Int))),some (.sh (tD (stT a r))),some (.ow (ssD (sdl bs a r))),o4,o5]) ?_ ?_
 ·refine z4f (fun n s=>∃(ss:List Str) (x:Nat) (w:List Nat) (v:SD) (o5:Option SD),s=[some (.sh (z1P bs)),some (.sh (.int (m:Int))),some (.sh (tD (stT a r))),some (.ow (ssD ss)),some v,o5]∧(v = .sh (tD (stT x w))∨v = .ow (tD (stT x w)))∧ss++sdl bs x w=sdl bs a r∧(∀y∈x::w,y<m)∧(x::w).Nodup∧w.length=n∧ss.length≤8 - n) (n:=r.length) ⟨[],a,r,_,_,rfl,.inl rfl,rfl,hlt,nd,rfl,by simp⟩ ?_ (by omega)
  rintro n s ⟨ss,x,w,v,o5,rfl,hv,hss,hx,ndx,hw,hsl⟩
  cases w with
  |nil=>
   have q:z0p [tD (stT x [])]=some (.bl false):=z5E
   refine⟨false,by rcases hv with rfl | rfl <;> simp! only[q],fun _=>⟨_,rfl,?_⟩,fun z=>by cases z⟩
   have:ss=sdl bs a r:=by rw[←hss];simp[sdl]
   rw[←this]
   exact⟨_,_,rfl⟩
  |cons y w=>
   have q:z0p [tD (stT x (y::w))]=some (.bl true):=z5q
   refine⟨true,by rcases hv with rfl | rfl <;> simp! only[q],(fun z=>by cases z),fun _=>⟨w.length,hw.symm,?_⟩⟩
   have hwl:w.length+1=n:=hw
   have hwm:(x::y::w).length≤m:=by simpa using List.Nodup.length_le_of_subset ndx fun z hz=>am.mpr (hx z hz)
   have hwm:w.length+1+1≤m:=hwm
   have s1:=y4u hm hl g hx ndx (by omega)
   have s2:z2d [tD (stT x (y::w)),.str (sdG bs x y)]=some (tD (stT (if 0<z2g bs (x:Int) (y:Int)then x else y) w)):=by
    rw[←x5b]
    exact y1M
   have im:y5d (some [.str (sdG bs x y)])=some [.str (sdG bs x y)]:=rfl
   have ap:m0V y3z (some (ssD ss)) (some [.str (sdG bs x y)])=some (ssD (ss++[sdG bs x y])):=y0u (by omega)
   have nx:ss++[sdG bs x y]++sdl bs (if 0<z2g bs (x:Int) (y:Int)then x else y) w=sdl bs a r:=by
    rw[aK]
    exact hss
   rcases hv with rfl | rfl
   ·simp! only[s1,im,ap,s2,z0b]
    exact⟨_,_,_,_,_,rfl,.inr rfl,nx,y9V hx,z8l ndx,rfl,by simp;omega⟩
   ·simp! only[s1,im,ap,s2,z0b]
    exact⟨_,_,_,_,_,rfl,.inr rfl,nx,y9V hx,z8l ndx,rfl,by simp;omega⟩
 ·rintro s ⟨o4,o5,rfl⟩
  simp! only[z0b]
theorem y3H{m:Nat}(hm:m≤8){bs:List (Int×List Int)}(hl:bs.length≤1000)(g:∀b∈bs,Good m b)(ho:z3U bs % 2=1){a:Nat}{r:List Nat}(hlt:∀x∈a::r,x<m)(nd:(a::r).Nodup):z3y [z1P bs,.int (m:Int),tD (stT a r)]=some (.int ((lsP bs a r:Nat):Int)):=by
 refine z0m rfl ?_
 have sg:=y3d hm hl g ho hlt nd
 have sq1:y7w (ssD (sdl bs a r))=some ((sdl bs a r).map D.str):=rfl
 simp! only[z5r,y3u,sg,sq1]
 refine z0w (I:=fun s=>∃v o4,s=[some (.sh (z1P bs)),some (.sh (.int (m:Int))),some (.sh (tD (stT a r))),some v,o4]∧(v = .sh (.int ((lsP bs a r:Nat):Int))∨v = .ow (.int ((lsP bs a r:Nat):Int)))) ?_ ?_
 ·refine z1a (enc:=D.str) (fun pre s=>∃(x:Nat) (w:List Nat) (v:SD) (o4:Option SD),s=[some (.sh (z1P bs)),some (.sh (.int (m:Int))),some (.sh (tD (stT a r))),some v,o4]∧(v = .sh (tD (stT x w))∨v = .ow (tD (stT x w)))∧pre++sdl bs x w=sdl bs a r∧lsP bs x w=lsP bs a r) ⟨a,r,_,_,rfl,.inl rfl,rfl,rfl⟩ ?_ ?_
  ·rintro pre sd post e s ⟨x,w,v,o4,rfl,hv,h1,h2⟩
   rw[←h1]at e
   have e:=List.append_cancel_left e
   cases w with
   |nil=>cases e
   |cons y w=>
    have e1:sdG bs x y=sd:=(List.cons.inj e).1
    have s2:z2d [tD (stT x (y::w)),.str (sdG bs x y)]=some (tD (stT (if 0<z2g bs (x:Int) (y:Int)then x else y) w)):=by
     rw[←x5b]
     exact y1M
    rw[←e1]
    rcases hv with rfl | rfl
    ·simp! only[s2,z0b]
     exact⟨_,_,_,_,rfl,.inr rfl,by rw[aK];exact h1,h2⟩
    ·simp! only[s2,z0b]
     exact⟨_,_,_,_,rfl,.inr rfl,by rw[aK];exact h1,h2⟩
  ·rintro s ⟨x,w,v,o4,rfl,hv,h1,h2⟩
   have hw:w=[]:=by
    have:=congrArg List.length h1
    rw[aC]at this
    cases w with
    |nil=>rfl
    |cons y w=>simp[sdl]at this
   subst hw
   have h2:x=lsP bs a r:=h2
   subst h2
   exact⟨_,rfl,_,_,rfl,hv⟩
 ·rintro s ⟨v,o4,rfl,hv⟩
  rcases hv with rfl | rfl <;> simp! only[z0b]
theorem x0e{m:Nat}{bs:List (Int×List Int)}(g:∀b∈bs,Good m b)(ho:z3U bs % 2=1):∀{r:List Nat} {a:Nat},(∀x∈a::r,x<m)->(a::r).Nodup->z1l (z6l m bs) a r=lsP bs a r
 |[],_,_,_=>rfl
 |b::r,a,h,nd=>by
  have ha:=h a ac
  have hb:=h b (ad _ ac)
  have hab:a≠b:=fun z=>(ay.mp nd).1 (by rw[z];exact ac)
  have ih:=x0e g ho (r:=r) (a:=if 0<z2g bs (a:Int) (b:Int)then a else b) (y9V h) (z8l nd)
  have e:at2 (z6l m bs) b a = !decide (0<z2g bs (a:Int) (b:Int)):=by
   unfold z6l
   rw[x1j hb ha,decide_eq_false (Ne.symm hab)]
   have lb:=y6V (a:=(a:Int)) (b:=(b:Int)) (by omega) bs fun x hx=>⟨(g x hx).mem ha,(g x hx).mem hb⟩
   have lo:=y3T (a:=(a:Int)) (b:=(b:Int)) bs
   by_cases hz:0<z2g bs (a:Int) (b:Int)
   ·rw[decide_eq_true hz,decide_eq_false (show ¬ 0<z2g bs (b:Int) (a:Int) by omega)]
    rfl
   ·rw[decide_eq_false hz,decide_eq_true (show 0<z2g bs (b:Int) (a:Int) by omega)]
    rfl
  show z1l (z6l m bs) (if at2 (z6l m bs) b a=true then b else a) r=lsP bs (if 0<z2g bs (a:Int) (b:Int)then a else b) r
  rw[←ih,e]
  by_cases hz:0<z2g bs (a:Int) (b:Int)
  ·rw[decide_eq_true hz,if_pos hz];rfl
  ·rw[decide_eq_false hz,if_neg hz];rfl
def z9l(T:List (List Bool)):Tr->Nat
 |.lf a=>a
 |.nd l r=>if at2 T (z9l T r) (z9l T l)=true then z9l T r else z9l T l
theorem z7Q{T:List (List Bool)}:∀{t:Tr},z9l T t∈z3X t
 |.lf a=>ac
 |.nd l r=>by
  unfold z9l z3X
  split
  ·exact au.mpr (.inr z7Q)
  ·exact au.mpr (.inl z7Q)
theorem x0v{m:Nat}{T:List (List Bool)}(sq:Sq m T):∀{t:Tr} {n:Nat},dep t<n->(∀x∈z3X t,x<m)->z2z n [z0E T,tD t]=some (.int ((z9l T t:Nat):Int))
 |t,0,h,_=>absurd h (by omega)
 |.lf a,n+1,_,_=>by
  refine z0m rfl ?_
  simp_all! only[z4R,z5E,y3u,z0b]
  rfl
 |.nd l r,n+1,h,hx=>by
  refine z0m rfl ?_
  have h:1+max (dep l) (dep r)<n+1:=h
  have h1:∀x∈z3X l,x<m:=fun x hm=>hx x (au.mpr (.inl hm))
  have h2:∀x∈z3X r,x<m:=fun x hm=>hx x (au.mpr (.inr hm))
  have i1:=x0v sq (t:=l) (n:=n) (by omega) h1
  have i2:=x0v sq (t:=r) (n:=n) (by omega) h2
  have w:=y2r sq (h1 _ (z7Q (T:=T))) (h2 _ (z7Q (T:=T)))
  simp_all! only[z4R,z5q,y5K,y6O,i1,i2,w,z0b]
  rfl
theorem x2w{m:Nat}{T:List (List Bool)}(sq:Sq m T){t:Tr}(hd:dep t<12)(hl:(z3X t).length≤1000)(h:∀x∈z3X t,x<m):z1U [z0E T,tD t]=some (.int ((z9l T t:Nat):Int)):=by
 refine z0m rfl ?_
 have e1:z6c [z0E T,tD t]=_:=x0v sq hd h
 simp_all! only[z3L,z5I,sq.1,y8Z hd hl h,e1,z0b]
def chB(T:List (List Bool)):List Nat->Bool
 |[]=>true
 |a::r=>(r.all fun j=>at2 T a j)&&chB T r
def z5Z(T:List (List Bool))(th:List Nat):Bool:=!th.isEmpty&&chB T th
theorem x2d{T:List (List Bool)}:∀{th:List Nat} {k:Nat} {pre:List Nat},pre.length=k->((th.zipIdx k).all fun z=>((pre++th).drop (z.2+1)).all fun j=>at2 T z.1 j)=chB T th
 |[],_,_,_=>rfl
 |a::r,k,pre,h=>by
  have ih:=x2d (T:=T) (th:=r) (k:=k+1) (pre:=pre++[a]) (by simp[h])
  have e:pre++[a]++r=pre++a::r:=by simp
  rw[e]at ih
  rw[List.zipIdx_cons,df,ih]
  show((((pre++a::r).drop (k+1)).all fun j=>at2 T a j)&&_)=_
  have e2:(pre++a::r).drop (k+1)=r:=by rw[←h];simp
  rw[e2]
  rfl
theorem z6b{T:List (List Bool)}:∀{r:List Nat} {a:Nat},∃h:z1u T (a::r)≠[],(z1u T (a::r)).getLast h=(a::r).getLast (by simp)
 |[],a=>⟨by simp[z1u],by simp[z1u]⟩
 |b::r,a=>by
  obtain⟨h,e⟩:=z6b (T:=T) (r:=r) (a:=b)
  rw[z1u]
  split
  ·exact⟨by simp,by rw[List.getLast_cons h,e];rfl⟩
  ·exact⟨h,by rw[e];rfl⟩
theorem y1m{m:Nat}{T:List (List Bool)}(F:Full m T):∀{r:List Nat} {a:Nat},(∀x∈a::r,x<m)->(a::r).Nodup->(z1u T (a::r)).head? = some (z9l T (stT a r))
 |[],a,_,_=>rfl
 |b::r,a,hx,nd=>by
  have nd1:=ay.mp nd
  have nd2:=ay.mp nd1.2
  have hab:a≠b:=fun z=>nd1.1 (z ▸ ac)
  have ia:=y1m F (r:=r) (a:=a) (fun x h=>hx x (by rcases ah.mp h with z | z;rw[z];exact ac;exact ad _ (ad _ z))) (ay.mpr ⟨fun z=>nd1.1 (ad _ z),nd2.2⟩)
  have ib:=y1m F (r:=r) (a:=b) (fun x h=>hx x (ad _ h)) nd1.2
  have ham:=hx a ac
  have hbm:=hx b (ad _ ac)
  have two:=F.two a ham b hbm hab
  show(z1u T (a::b::r)).head? = some (if at2 T (z9l T (stT b r)) (z9l T (stT a r))=true then z9l T (stT b r)else z9l T (stT a r))
  rw[z1u]at ia ib
  rw[z1u,z1u]
  have nn:r≠[]->∃c q,z1u T r=c::q:=fun hr=>by
   cases r with
   |nil=>exact absurd rfl hr
   |cons d r=>
    obtain⟨h,_⟩:=z6b (T:=T) (r:=r) (a:=d)
    exact List.exists_cons_of_ne_nil h
  have own:∀x,x<m->at2 T x x=false:=F.own
  cases hA:(z1u T r).all fun j=>at2 T a j with
  |true=>
   rw[hA,if_pos rfl]at ia
   have ea:a=z9l T (stT a r):=Option.some.inj ia
   cases hB:(z1u T r).all fun j=>at2 T b j with
   |true=>
    rw[hB,if_pos rfl]at ib
    have eb:b=z9l T (stT b r):=Option.some.inj ib
    rw[←ea,←eb,if_pos rfl]
    show(if((b::z1u T r).all fun j=>at2 T a j)=true then a::b::z1u T r else b::z1u T r).head? = _
    rw[df,hA,Bool.and_true,two]
    cases at2 T b a <;> rfl
   |false=>
    rw[hB,if_neg aj]at ib
    rw[if_neg aj,hA,if_pos rfl,←ea]
    have hr:r≠[]:=fun z=>by rw[z]at hB;cases hB
    obtain⟨c,q,hc⟩:=nn hr
    rw[hc]at ib hA
    have ec:c=z9l T (stT b r):=Option.some.inj ib
    have hac:=(av.mp (show(at2 T a c&&q.all fun j=>at2 T a j)=true from hA)).1
    have hcr:c∈r:=chBk_sub.subset (show c∈z1u T r by rw[hc];exact ac)
    have hcm:=hx c (ad _ (ad _ hcr))
    have hne:c≠a:=fun z=>nd1.1 (ad _ (z ▸ hcr))
    rw[←ec,F.two c hcm a ham hne,hac]
    rfl
  |false=>
   rw[hA,if_neg aj]at ia
   have hr:r≠[]:=fun z=>by rw[z]at hA;cases hA
   obtain⟨c,q,hc⟩:=nn hr
   have ia':=ia
   rw[hc]at ia'
   have ec:c=z9l T (stT a r):=Option.some.inj ia'
   have hcr:c∈r:=chBk_sub.subset (show c∈z1u T r by rw[hc];exact ac)
   have hcm:=hx c (ad _ (ad _ hcr))
   cases hB:(z1u T r).all fun j=>at2 T b j with
   |true=>
    rw[hB,if_pos rfl]at ib
    have eb:b=z9l T (stT b r):=Option.some.inj ib
    rw[if_pos rfl,←ec,←eb]
    have h1:((b::z1u T r).all fun j=>at2 T a j)=false:=by rw[df,hA,dY]
    rw[h1,if_neg aj]
    have hbc:at2 T b c=true:=by
     rw[hc]at hB
     exact(av.mp (show(at2 T b c&&q.all fun j=>at2 T b j)=true from hB)).1
    rw[hbc]
    rfl
   |false=>
    rw[hB,if_neg aj]at ib
    rw[if_neg aj,hA,if_neg aj,ib]
    have e2:z9l T (stT a r)=z9l T (stT b r):=Option.some.inj (ia.symm.trans ib)
    rw[e2]
    split <;> rfl
def trD:Nat->List Nat->D
 |a,[]=>nD a
 |a,b::r=>.tup [nD a,trD b r]
theorem y4h:∀{r:List Nat} {a:Nat},(trD a r).imm=true
 |[],_=>rfl
 |b::r,a=>by
  show((nD a).imm&&((trD b r).imm&&true))=true
  rw[y4h]
  rfl
theorem x4t{r:List Nat}{a:Nat}:y5i (some (trD a r))=some (trD a r):=if_pos y4h
theorem z8K{r:List Nat}{a b:Nat}:z0p [trD a (b::r)]=some (.bl true):=by
 refine z0m rfl ?_
 have e:isF "tuple" (trD a (b::r))=true:=rfl
 simp! only[z1t,e,z0b]
theorem y0a{a:Nat}:z0p [trD a []]=some (.bl false):=by
 refine z0m rfl ?_
 have e:isF "tuple" (trD a [])=false:=rfl
 simp! only[z1t,e,z0b]
theorem x3D{m:Nat}(hm:m≤1000){a:Nat}{r:List Nat}(hp:(a::r).Perm (ag m)):z3C [thD (a::r)]=some (trD a r):=by
 refine z0m rfl ?_
 have h0:0<m:=by have:=z1i hp;simp at this;omega
 have oa:=y0F hm h0 hp
 have hl:(((a::r).length:Nat):Int)=(m:Int):=by rw[z1i hp]
 have e0:(a::r)=(a::r).dropLast++[(a::r).getLast (by simp)]:=(dN (by simp)).symm
 obtain⟨l,hl2⟩:∃l,l=(a::r).getLast (by simp):=⟨_,rfl⟩
 obtain⟨q,hq⟩:∃q,q=(a::r).dropLast:=⟨_,rfl⟩
 rw[←hl2,←hq]at e0
 have il:=y5z (th:=a::r) (by simp)
 rw[←hl2]at il
 simp! only[z5F,z3S,hl,oa,il,x3Y,y0b,y4K,←hq]
 refine z0w (I:=fun s=>∃o2,s=[some (.sh (thD (a::r))),some (.sh (trD a r)),o2]) ?_ ?_
 ·refine z1a (fun pre s=>∃o2 b p,s=[some (.sh (thD (a::r))),some (.sh (trD b p)),o2]∧b::p=pre.reverse++[l]) ⟨_,l,[],rfl,rfl⟩ ?_ ?_
  ·rintro pre x post e s ⟨o2,b,p,rfl,hb⟩
   have im:y5i (some (.tup [nD x,trD b p]))=some (.tup [nD x,trD b p]):=if_pos (by
    show((nD x).imm&&((trD b p).imm&&true))=true
    rw[y4h]
    rfl)
   simp! only[im,z0b]
   refine⟨_,x,b::p,rfl,?_⟩
   rw[hb]
   simp
  ·rintro s ⟨o2,b,p,rfl,hb⟩
   rw[cF,←e0]at hb
   cases hb
   exact⟨_,rfl,_,rfl⟩
 ·rintro s ⟨o2,rfl⟩
  simp! only[x4t,z0b]
theorem y4S:∀{r:List Nat} {a n:Nat},r.length<n->r.length≤1000->z1c n [trD a r]=some (thD (a::r))
 |r,a,0,h,_=>absurd h (by omega)
 |[],a,n+1,_,_=>by
  refine z0m rfl ?_
  have f1:z7d (some [trD a []])=some [trD a []]:=rfl
  simp! only[z1J,y0a,f1,z0b]
  rfl
 |b::r,a,n+1,h,hl=>by
  refine z0m rfl ?_
  have h:r.length+1<n+1:=h
  have hl:r.length+1≤1000:=hl
  have i1:z1c n [nD a]=some (thD [a]):=y4S (r:=[]) (a:=a) (n:=n) (by simp;omega) (by simp)
  have i2:=y4S (r:=r) (a:=b) (n:=n) (by omega) (by omega)
  have e1:ixD (trD a (b::r)) (.int 0)=some (nD a):=rfl
  have e2:ixD (trD a (b::r)) (.int 1)=some (trD b r):=rfl
  obtain⟨w,hw⟩:∃w,w=[a]++b::r:=⟨_,rfl⟩
  have e3:catO (some (thD [a])) (some (thD (b::r)))=some (w.map nD):=by rw[hw];exact z5j (a:=[a]) (b:=b::r) (by simp;omega)
  simp! only[z1J,z8K,e1,e2,i1,i2,e3,z2A,z0b]
  rw[hw]
  rfl
theorem x3y{m:Nat}(hm:m≤1000){r:List Nat}{a:Nat}(hl:r.length<12)(h:∀x∈a::r,x<m):z2B [trD a r,.int (m:Int)]=some (.bl true):=by
 refine z0m rfl ?_
 have e1:z1b [trD a r]=some (thD (a::r)):=y4S hl (by omega)
 obtain⟨w,hw⟩:∃w,w=a::r:=⟨_,rfl⟩
 have hwl:w.length≤1000:=by rw[hw];simp;omega
 rw[←hw]at e1 h
 simp! only[z5X,e1,z2T]
 rw[z5h (fun _=>bD true) hwl fun x hx=>by
  have:=h x hx
  simp! only[nD,z5S (x:=(x:Int)) (m:=m) ⟨by omega,by omega⟩,bD]]
 have e:(w.map fun _=>bD true)=(w.map fun _=>true).map bD:=by rw[aV];rfl
 have e2:((w.map fun _=>true).all fun b=>b)=true:=by simp
 simp! only[e,y6x,e2,z0b]
def y5J(T:List (List Bool)):Nat->List Nat->Nat
 |a,[]=>a
 |a,b::r=>if at2 T (y5J T b r) a=true then y5J T b r else a
theorem z8X{T:List (List Bool)}:∀{r:List Nat} {a:Nat},y5J T a r∈a::r
 |[],a=>ac
 |b::r,a=>by
  unfold y5J
  split
  ·exact ad _ z8X
  ·exact ac
theorem y4I{m:Nat}{T:List (List Bool)}(sq:Sq m T):∀{r:List Nat} {a n:Nat},r.length<n->(∀x∈a::r,x<m)->z2z n [z0E T,trD a r]=some (.int ((y5J T a r:Nat):Int))
 |r,a,0,h,_=>absurd h (by omega)
 |[],a,n+1,_,_=>by
  refine z0m rfl ?_
  simp_all! only[z4R,y0a,x4t,z0b]
  rfl
 |b::r,a,n+1,h,hx=>by
  refine z0m rfl ?_
  have h:r.length+1<n+1:=h
  have i1:z2z n [z0E T,nD a]=some (.int ((a:Nat):Int)):=y4I sq (r:=[]) (a:=a) (n:=n) (by simp;omega) (fun x h=>hx x (by simp at h;simp[h]))
  have i2:=y4I sq (r:=r) (a:=b) (n:=n) (by omega) (fun x h=>hx x (ad _ h))
  have e1:ixD (trD a (b::r)) (.int 0)=some (nD a):=rfl
  have e2:ixD (trD a (b::r)) (.int 1)=some (trD b r):=rfl
  have w:=y2r sq (hx a ac) (hx (y5J T b r) (ad _ z8X))
  simp_all! only[z4R,z8K,e1,e2,i1,i2,w,z0b]
  rfl
theorem y9x{m:Nat}{T:List (List Bool)}(sq:Sq m T)(hm:m≤1000){r:List Nat}{a:Nat}(hl:r.length<12)(h:∀x∈a::r,x<m):z1U [z0E T,trD a r]=some (.int ((y5J T a r:Nat):Int)):=by
 refine z0m rfl ?_
 have e1:z6c [z0E T,trD a r]=_:=y4I sq hl h
 simp_all! only[z3L,z5I,sq.1,x3y hm hl h,e1,z0b]
theorem y8f{T:List (List Bool)}{s x:Nat}{o:List Nat}:z1l T s (o++[x])=if at2 T x (z1l T s o)=true then x else z1l T s o:=by unfold z1l;rw[List.foldl_append];rfl
theorem y5o{m:Nat}{T:List (List Bool)}(F:Full m T):∀{r:List Nat} {a:Nat},(∀x∈a::r,x<m)->(a::r).Nodup->∃l q,(a::r).reverse=l::q∧y5J T a r=z1l T l q
 |[],a,_,_=>⟨a,[],rfl,rfl⟩
 |b::r,a,hx,nd=>by
  obtain⟨l,q,e,ih⟩:=y5o F (r:=r) (a:=b) (fun x h=>hx x (ad _ h)) (ay.mp nd).2
  refine⟨l,q++[a],by rw[bU,e];rfl,?_⟩
  rw[y8f,←ih]
  show(if at2 T (y5J T b r) a=true then y5J T b r else a)=_
  have hm:=z8X (T:=T) (r:=r) (a:=b)
  have hne:a≠y5J T b r:=fun z=>(ay.mp nd).1 (z ▸ hm)
  rw[F.two (y5J T b r) (hx _ (ad _ hm)) a (hx a ac) (Ne.symm hne)]
  cases at2 T a (y5J T b r) <;> rfl
theorem y1L{r0:List Bool}:∀(r:List Bool) (k:Nat),z1B (two (z4c (z0z (z0d 2)) (z0d 1) [some (z9z r0)])) (z0t k (r.map bD))=some ((z5f k r).map nD)
 |[],_=>rfl
 |b::r,k=>by
  have ih:=y1L (r0:=r0) r (k+1)
  rw[aF]
  show z1B _ (.tup [.int (k:Nat),bD b]::z0t (k+1) (r.map bD))=_
  unfold z1B
  rw[ih]
  have e:two (z4c (z0z (z0d 2)) (z0d 1) [some (z9z r0)]) (.tup [.int (k:Nat),bD b])=some (if b=true then some (nD k)else none):=by
   show z4c _ _ _ _ _=_
   unfold z4c
   have e1:z0z (z0d 2) ([some (z9z r0)]++[some (.int (k:Nat)),some (bD b)])=some b:=rfl
   rw[e1]
   cases b <;> rfl
  have t:z5f k (b::r)=if b=true then k::z5f (k+1) r else z5f (k+1) r:=rfl
  rw[e,t]
  cases b <;> rfl
theorem y9d(r:List Bool)(hl:r.length≤1000):z2o [z9z r]=some (thD ((ag r.length).filter fun i=>r.getD i false)):=by
 refine z0m rfl ?_
 have e:z5f 0 r=(ag r.length).filter fun i=>r.getD i false:=by
  rw[x0i,List.range_eq_range']
  rfl
 have h0:y4T (z9z r)=some (z0t 0 (r.map bD)):=rfl
 have hl':(z0t 0 (r.map bD)).length≤1000000:=by rw[z8G,aq];omega
 have fl:=z5N (y2f (z5f 0 r))
 simp! only[z3u,h0,z4b hl',y1L,fl,z0b]
 rw[e]
 rfl
theorem y1V{n:Nat}{T:List (List Bool)}(sq:Sq n T)(hn:n≤1000){k:Nat}(hk:k<n):z1H [z0E T,.int (k:Int)]=some (thD ((ag n).filter fun j=>at2 T k j)):=by
 refine z0m rfl ?_
 have hk':k<T.length:=by rw[sq.1];exact hk
 have p:=y9d (T.getD k []) (by rw[sq.len hk];omega)
 rw[sq.len hk]at p
 simp! only[z5u,x1H hk',p,z0b]
 rfl
def ky(n:Nat):Key:=.inl (n:Int)
def stD(ks:List Nat)(vs:List Nat):D:=.dct (ks.map ky) (vs.map nD)
theorem x1x{ks vs:List Nat}{y:Nat}:inK (.int (y:Int)) (stD ks vs)=some (ks.contains y):=by
 show some (y3m (ks.map ky) (.inl (y:Int)))=_
 congr 1
 unfold y3m
 rw[cN,b9]
 congr 1
 funext z
 show decide ((Sum.inl (z:Int):Key)=Sum.inl (y:Int))=(y==z)
 by_cases h:z=y
 ·subst h;simp
 ·have h1:decide ((Sum.inl (z:Int):Key)=Sum.inl (y:Int))=false:=decide_eq_false fun e=>h (by cases e;rfl)
  have h2:(y==z)=false:=by rw[beq_eq_false_iff_ne];exact fun e=>h e.symm
  rw[h1,h2]
theorem st_put{ks vs:List Nat}{x y:Nat}(h:y∉ks)(hl:ks.length≤1000000):y8O (some (stD ks vs)) (some (.int (y:Int))) (some (.int (x:Int)))=some (stD (ks++[y]) (vs++[x])):=by
 show(if z3b (vs.map nD)=true∧(ks.map ky).length<sizeLine then _ else _)=_
 rw[if_pos ⟨y2f vs,by rw[aq,PySem.sizeLine_eq];omega⟩]
 have hh:y3m (ks.map ky) (.inl (y:Int))=false:=by
  have:=x1x (ks:=ks) (vs:=vs) (y:=y)
  have hc:ks.contains y=false:=by rw[←aR,ar];exact h
  rw[hc]at this
  exact Option.some.inj this
 unfold y2Y y3a stD
 rw[hh,if_neg aj,if_neg aj,aS,aS]
 rfl
inductive Rch(T:List (List Bool))(m a:Nat):Nat->Prop
 |here:Rch T m a a
 |step {x y:Nat}:Rch T m a x->y<m->at2 T x y=true->Rch T m a y
structure Stp(T:List (List Bool))(m a:Nat)(ks:List Nat):Prop where
 nd:ks.Nodup
 lt:∀x∈ks,x<m
 on:a∈ks
 rc:∀x∈ks,Rch T m a x
def Cld(T:List (List Bool))(m:Nat)(ks:List Nat)(x:Nat):Prop:=∀y<m,at2 T x y=true->y∈ks
theorem Stp.add{T:List (List Bool)}{m a x y:Nat}{ks:List Nat}(P:Stp T m a ks)(hx:x∈ks)(hy:y<m)(h:at2 T x y=true)(hn:y∉ks):Stp T m a (ks++[y]):=
 ⟨bb.mpr ⟨P.nd,by simp,fun u hu v hv z=>by rw[ai]at hv;exact hn (hv ▸ z ▸ hu)⟩,fun z hz=>by
  rcases au.mp hz with q | q
  ·exact P.lt z q
  ·rw[ai.mp q];exact hy,au.mpr (.inl P.on),fun z hz=>by
  rcases au.mp hz with q | q
  ·exact P.rc z q
  ·rw[ai.mp q];exact .step (P.rc x hx) hy h⟩
theorem Stp.len{T:List (List Bool)}{m a:Nat}{ks:List Nat}(P:Stp T m a ks):ks.length≤m:=by
 have:=List.Nodup.length_le_of_subset (l₂:=ag m) P.nd fun x hx=>am.mpr (P.lt x hx)
 simpa using this
theorem x4i{m:Nat}{T:List (List Bool)}(sq:Sq m T)(hm:m≤90){a:Nat}(ha:a<m):hol (z2R [z0E T,.int (a:Int)]) fun d=>∃ks vs,d=stD ks vs∧Stp T m a ks∧∀x∈ks,Cld T m ks x:=by
 refine z7c rfl ?_
 have s0:D.dct [.inl (a:Int)] [.int (a:Int)]=stD [a] [a]:=rfl
 have f0:z7d (some [.int (a:Int)])=some [.int (a:Int)]:=rfl
 simp! only[z4e,s0,f0,th_one]
 refine z0w (I:=fun s=>∃ks vs o3 o4 o5 o6,s=[some (.sh (z0E T)),some (.sh (.int (a:Int))),some (.ow (stD ks vs)),o3,o4,o5,o6]∧Stp T m a ks∧∀x∈ks,Cld T m ks x) ?_ ?_
 ·refine z4f (fun n s=>∃ks vs E o5 o6,s=[some (.sh (z0E T)),some (.sh (.int (a:Int))),some (.ow (stD ks vs)),some (.ow (thD E)),none,o5,o6]∧Stp T m a ks∧(∀x∈E,x∈ks)∧(∀x∈ks,x∉E->Cld T m ks x)∧(E≠[]->m+1≤ks.length+n)) (n:=m) ⟨[a],[a],[a],_,_,rfl,⟨by simp,fun x hx=>by rw[ai.mp hx];exact ha,by simp,fun x hx=>by rw[ai.mp hx];exact .here⟩,fun x hx=>hx,fun x hx hn=>absurd hx hn,fun _=>by simp;omega⟩ ?_ (by omega)
  rintro n s ⟨ks,vs,E,o5,o6,rfl,P,hE,hC,hn⟩
  refine⟨!E.isEmpty,by simp! only[tru_th],fun hz=>?_,fun hz=>?_⟩
  ·have hz:E=[]:=by simpa using hz
   exact⟨_,rfl,ks,vs,_,_,_,_,rfl,P,fun x hx=>hC x hx (by rw[hz];simp)⟩
  ·have hz:E≠[]:=by simpa using hz
   have hn:=hn hz
   have hl:=P.len
   refine⟨n - 1,by omega,?_⟩
   simp! only[z2p,x1e,z2T]
   refine z0w (I:=fun s=>∃F ws o5 o6,s=[some (.sh (z0E T)),some (.sh (.int (a:Int))),some (.ow (stD (ks++F) ws)),some (.sh (thD E)),some (.ow (thD F)),o5,o6]∧Stp T m a (ks++F)∧∀x∈E,Cld T m (ks++F) x) ?_ ?_
   ·refine z1a (fun pre s=>∃F ws o5 o6,s=[some (.sh (z0E T)),some (.sh (.int (a:Int))),some (.ow (stD (ks++F) ws)),some (.sh (thD E)),some (.ow (thD F)),o5,o6]∧Stp T m a (ks++F)∧∀x∈pre,Cld T m (ks++F) x) ⟨[],vs,_,_,by rw[aH],by rw[aH];exact P,fun x hx=>nomatch hx⟩ ?_ fun s z=>⟨s,rfl,z⟩
    rintro pre x post e s ⟨F,ws,o5,o6,rfl,P1,C1⟩
    have hxE:x∈E:=by rw[e];simp
    have hxk:=hE x hxE
    have hxm:=P.lt x hxk
    simp! only[nD,y1V sq (show m≤1000 by omega) hxm,z2T]
    refine z1a (fun q s=>∃F ws o6,s=[some (.sh (z0E T)),some (.sh (.int (a:Int))),some (.ow (stD (ks++F) ws)),some (.sh (thD E)),some (.ow (thD F)),some (.sh (.int (x:Int))),o6]∧Stp T m a (ks++F)∧(∀x∈pre,Cld T m (ks++F) x)∧∀y∈q,y∈ks++F) ⟨F,ws,_,rfl,P1,C1,fun y hy=>nomatch hy⟩ ?_ ?_
    ·rintro q y r e2 s ⟨F,ws,o6,rfl,P2,C2,Q2⟩
     have hy:y∈(ag m).filter fun j=>at2 T x j:=by rw[e2];simp
     have hy:=ak.mp hy
     have hym:=am.mp hy.1
     have hl2:=P2.len
     cases hc:(ks++F).contains y with
     |true=>
      simp! only[nD,x1x,hc,bN,Bool.not_true,z0b]
      refine⟨F,ws,_,rfl,P2,C2,fun z hz=>?_⟩
      rcases au.mp hz with z1 | z1
      ·exact Q2 z z1
      ·rw[ai.mp z1];exact ar.mp hc
     |false=>
      have hny:y∉ks++F:=fun z=>by rw[ar.mpr z]at hc;cases hc
      have im:y5d (some [.int (y:Int)])=some [.int (y:Int)]:=z7Y rfl
      have pt:=st_put (vs:=ws) (x:=x) hny (by omega)
      have ap:=app_thV (th:=F) (k:=y) (by rw[aC]at hl2;omega)
      have P3:=P2.add (au.mpr (.inl hxk)) hym hy.2 hny
      rw[aK]at P3 pt
      have sub:∀z,z∈ks++F->z∈ks++(F++[y]):=fun z hz=>by rw[←aK];exact au.mpr (.inl hz)
      simp! only[nD,x1x,hc,bN,Bool.not_false,pt,im,ap,z0b]
      refine⟨F++[y],_,_,rfl,P3,fun z hz w hw h=>sub w (C2 z hz w hw h),fun z hz=>?_⟩
      rcases au.mp hz with z1 | z1
      ·exact sub z (Q2 z z1)
      ·rw[ai.mp z1];simp
    ·rintro s ⟨F,ws,o6,rfl,P2,C2,Q2⟩
     refine⟨F,ws,_,_,rfl,P2,fun z hz=>?_⟩
     rcases au.mp hz with z1 | z1
     ·exact C2 z z1
     ·rw[ai.mp z1]
      exact fun y hy h=>Q2 y (ak.mpr ⟨am.mpr hy,h⟩)
   ·rintro s ⟨F,ws,o5,o6,rfl,P1,C1⟩
    simp! only[z0b]
    refine⟨ks++F,ws,F,_,_,rfl,P1,fun x hx=>au.mpr (.inr hx),fun x hx hnx=>?_,fun hF=>?_⟩
    ·have hxk:x∈ks:=by
      rcases au.mp hx with z | z
      ·exact z
      ·exact absurd z hnx
     by_cases hxE:x∈E
     ·exact C1 x hxE
     ·exact fun y hy h=>au.mpr (.inl (hC x hxk hxE y hy h))
    ·have:0<F.length:=cL.mpr hF
     rw[aC]
     omega
 ·rintro s ⟨ks,vs,o3,o4,o5,o6,rfl,P,C⟩
  simp! only[z0b]
  exact⟨_,rfl,ks,vs,rfl,P,C⟩
open Classical in
noncomputable def rcL(T:List (List Bool))(m a:Nat):List Nat:=(ag m).filter fun x=>decide (Rch T m a x)
theorem rcL_mem{T:List (List Bool)}{m a x:Nat}:x∈rcL T m a↔x<m∧Rch T m a x:=by
 unfold rcL
 rw[ak,am]
 exact and_congr_right fun _=>@decide_eq_true_iff _ (Classical.propDecidable _)
theorem rcL_len{T:List (List Bool)}{m a:Nat}:(rcL T m a).length≤m:=by
 have:=aX (fun x=>@decide (Rch T m a x) (Classical.propDecidable _)) (ag m)
 rw[bx]at this
 exact this
theorem y9R:∀ks:List Nat,z5W (ks.map ky)=some (ks.map fun n=>((n:Nat):Int))
 |[]=>rfl
 |k::ks=>by
  show(z5W (ks.map ky)).map (fun ns=>(k:Int)::ns)=_
  rw[y9R ks]
  rfl
theorem y7K{m:Nat}{T:List (List Bool)}(sq:Sq m T)(hm:m≤60){a:Nat}(ha:a<m):z4J [z0E T,.int (a:Int)]=some (thD (rcL T m a)):=by
 refine z0m rfl ?_
 obtain⟨d,e,ks,vs,rfl,P,C⟩:=x4i sq (by omega) ha
 have hl:=P.len
 have hin:∀x,x∈ks↔x∈rcL T m a:=fun x=>by
  rw[rcL_mem]
  refine⟨fun h=>⟨P.lt x h,P.rc x h⟩,fun h=>?_⟩
  have:∀y,Rch T m a y->y∈ks:=fun y r=>by
   induction r with
   |here=>exact P.on
   |step r1 hy h ih=>exact C _ ih _ hy h
  exact this x h.2
 have nd2:(rcL T m a).Nodup:=List.Pairwise.filter _ bK
 have pm:((rcL T m a).map fun n=>((n:Nat):Int)).Perm (ks.map fun n=>((n:Nat):Int)):=((bE nd2 P.nd).mpr fun x=>(hin x).symm).map _
 have so:((rcL T m a).map fun n=>((n:Nat):Int)).Pairwise (· ≤ ·):=by
  rw[bw]
  refine List.Pairwise.imp ?_ (List.Pairwise.filter _ bB)
  intro x y h
  omega
 have es:=y1a pm so
 have st:y1S [stD ks vs]=some ((rcL T m a).map nD):=by
  show((z5W (ks.map ky)).bind fun ns=>if ns.length<64 then some ((y4c ns).map D.int)else none)=_
  rw[y9R,aA,if_pos (by rw[aq];omega),←es,aV]
  rfl
 simp! only[z8d,e,st,z2A,y0b,z0b]
noncomputable def y8i(T:List (List Bool))(m:Nat):List Nat:=(ag m).map fun a=>(rcL T m a).length
def plL(cs:List Nat)(c:Nat):List Nat:=(cs.zipIdx.filter fun z=>decide ((z.1:Int)=(c:Int))).map fun z=>z.2
theorem plL_mem{cs:List Nat}{c i:Nat}:i∈plL cs c↔cs[i]? = some c:=by
 unfold plL
 rw[aN]
 constructor
 ·rintro⟨z,hz,rfl⟩
  obtain⟨h1,h2⟩:=ak.mp hz
  have h2:z.1=c:=by have:=of_decide_eq_true h2;omega
  have:=dL.mp h1
  rw[this,h2]
 ·intro h
  exact⟨(c,i),ak.mpr ⟨dL.mpr h,decide_eq_true rfl⟩,rfl⟩
theorem y8m{cs:List Nat}(hl:cs.length≤1000)(c:Nat):z1M [thD cs,.int (c:Int)]=some (thD (plL cs c)):=by
 refine z0m rfl ?_
 have cx:z2l (some (z0t 0 (cs.map nD))) (two (z4c (z0F (d2 eqD (z0d 3) (z0d 1))) (z0d 2) [some (thD cs),some (.int (c:Int))]))=some ((plL cs c).map nD):=by
  rw[x5w (enc:=nD) (fun _ x=>decide ((x:Int)=(c:Int))) (fun i _=>nD i) hl (fun i h=>by simp! only[nD]) fun i h _=>by simp! only[];rfl]
  unfold plL
  rw[aV]
  rfl
 simp! only[z3M,x2a,cx,z2A,y0b,z0b]
def dnL(m:Nat):List Nat:=(ag m).map fun i=>m - i
noncomputable def rgL(T:List (List Bool))(m:Nat):List (List Nat):=((dnL m).filter fun c=>(y8i T m).contains c).map fun c=>plL (y8i T m) c
theorem eo_rngN{i j c:Int}(h:c = -1∧-(2 ^ 61)≤i∧i<2 ^ 61∧-(2 ^ 61)≤j∧j<2 ^ 61):rngN (some (.int i)) (some (.int j)) (some (.int c))=some (x0J i (-1) (i - j).toNat):=if_pos h
theorem y6Y{m:Nat}{T:List (List Bool)}(sq:Sq m T)(hm:m≤60):z7l [z0E T]=some (.lst ((rgL T m).map thD)):=by
 refine z0m rfl ?_
 have hcl:(y8i T m).length=m:=by simp[y8i]
 have c1:z2l (some (z9O 0 m)) (z2k z6h (z0j z3V [z0j z4J [z0d 0,z0d 2]]) [some (z0E T),none])=some ((y8i T m).map nD):=by
  rw[z5C,z5h (enc:=nD) (xs:=ag m) (fun a=>nD (rcL T m a).length) (by simp;omega) fun a ha=>by simp! only[nD,y7K sq hm (am.mp ha),z3S]]
  unfold y8i
  rw[aV]
  rfl
 have rn:rngN (some (.int (m:Int))) (some (.int 0)) (some (.int (-1)))=some ((dnL m).map nD):=by
  have hz:((m:Int) - 0).toNat=m:=by omega
  have e1:rngN (some (.int (m:Int))) (some (.int 0)) (some (.int (-1)))=some (x0J (m:Int) (-1) ((m:Int) - 0).toNat):=eo_rngN ⟨rfl,by omega,by omega,by omega,by omega⟩
  have e2:x0J (m:Int) (-1) m=(dnL m).map nD:=by
   unfold x0J dnL
   rw[aV]
   refine c9 fun i hi=>?_
   have:=am.mp hi
   have e:(m:Int)+(i:Int)*(-1)=((m - i:Nat):Int):=by omega
   exact congrArg D.int e
  rw[e1,hz,e2]
 have c2:z2l (some ((dnL m).map nD)) (z2k (z0F (d2 inD (z0d 2) (z0d 1))) (z0j z1M [z0d 1,z0d 2]) [some (z0E T),some (thD (y8i T m))])=some ((rgL T m).map thD):=by
  rw[y1z (enc:=nD) (xs:=dnL m) (fun c=>(y8i T m).contains c) (fun c=>thD (plL (y8i T m) c)) (by simp[dnL];omega) (fun c hc=>by simp! only[nD,x4K]) fun c hc _=>by simp! only[nD,y8m (show(y8i T m).length≤1000 by omega)]]
  unfold rgL
  rw[aV]
  rfl
 simp! only[y3D,z5I,sq.1,z2r (show m≤1000000 by omega),c1,z2A,y0b,rn,c2,z0b]
theorem Rch.trans{T:List (List Bool)}{m a b c:Nat}(h:Rch T m a b)(h2:Rch T m b c):Rch T m a c:=by
 induction h2 with
 |here=>exact h
 |step _ hy e ih=>exact .step ih hy e
theorem rch_tot{T:List (List Bool)}{m a b:Nat}(F:Full m T)(ha:a<m)(hb:b<m):Rch T m a b∨Rch T m b a:=by
 by_cases e:a=b
 ·rw[e];exact .inl .here
 ·cases h:at2 T a b with
  |true=>exact .inl (.step .here hb h)
  |false=>exact .inr (.step .here ha (by rw[F.two b hb a ha (Ne.symm e),h];rfl))
theorem x4Z{T:List (List Bool)}{m a:Nat}:(rcL T m a).Nodup:=List.Pairwise.filter _ bK
theorem y4M{T:List (List Bool)}{m a b:Nat}(F:Full m T)(ha:a<m)(hb:b<m):Rch T m a b↔(rcL T m b).length≤(rcL T m a).length:=by
 constructor
 ·intro h
  exact List.Nodup.length_le_of_subset x4Z fun x hx=>rcL_mem.mpr ⟨(rcL_mem.mp hx).1,h.trans (rcL_mem.mp hx).2⟩
 ·intro h
  by_cases hn:Rch T m a b
  ·exact hn
  ·have h2:Rch T m b a:=(rch_tot F ha hb).resolve_left hn
   have nd:(b::rcL T m a).Nodup:=ay.mpr ⟨fun z=>hn (rcL_mem.mp z).2,x4Z⟩
   have:(b::rcL T m a).length≤(rcL T m b).length:=List.Nodup.length_le_of_subset nd fun x hx=>by
    rcases ah.mp hx with z | z
    ·rw[z];exact rcL_mem.mpr ⟨hb,.here⟩
    ·exact rcL_mem.mpr ⟨(rcL_mem.mp z).1,h2.trans (rcL_mem.mp z).2⟩
   rw[aZ]at this
   omega
theorem y2T{T:List (List Bool)}{m a b:Nat}(F:Full m T)(ha:a<m)(hb:b<m)(h:(rcL T m b).length<(rcL T m a).length):at2 T a b=true:=by
 cases e:at2 T a b with
 |true=>rfl
 |false=>
  have hab:a≠b:=fun z=>by rw[z]at h;omega
  have h1:Rch T m b a:=.step .here ha (by rw[F.two b hb a ha (Ne.symm hab),e];rfl)
  have:=(y4M F hb ha).mp h1
  omega
theorem rch_pos{T:List (List Bool)}{m a:Nat}(ha:a<m):0<(rcL T m a).length:=List.length_pos_of_mem (rcL_mem.mpr ⟨ha,.here⟩)
theorem uniqL{α:Type}{R:α->α->Prop}(as:∀x y,R x y->R y x->False):∀{l l':List α},l.Pairwise R->l'.Pairwise R->(∀x,x∈l↔x∈l')->l=l'
 |[],[],_,_,_=>rfl
 |[],b::l',_,_,h=>by have:=(h b).mpr ac;cases this
 |a::l,[],_,_,h=>by have:=(h a).mp ac;cases this
 |a::l,b::l',p,p',h=>by
  have p1:=aP.mp p
  have p2:=aP.mp p'
  have e:a=b:=by
   rcases ah.mp ((h a).mp ac)with z | z
   ·exact z
   ·rcases ah.mp ((h b).mpr ac)with y | y
    ·exact y.symm
    ·exact(as a b (p1.1 b y) (p2.1 a z)).elim
  subst e
  refine congrArg _ (uniqL as p1.2 p2.2 fun x=>⟨fun hx=>?_,fun hx=>?_⟩)
  ·rcases ah.mp ((h x).mp (ad _ hx))with z | z
   ·subst z;exact(as x x (p1.1 x hx) (p1.1 x hx)).elim
   ·exact z
  ·rcases ah.mp ((h x).mpr (ad _ hx))with z | z
   ·subst z;exact(as x x (p2.1 x hx) (p2.1 x hx)).elim
   ·exact z
def Upp(f:Nat->Nat)(r s:List Nat):Prop:=r≠[]∧s≠[]∧∀a∈r,∀b∈s,f b<f a
def cls(m:Nat)(f:Nat->Nat)(a:Nat):List Nat:=(ag m).filter fun b=>decide (f b=f a)
structure Rgs(m:Nat)(f:Nat->Nat)(L:List (List Nat)):Prop where
 pw:L.Pairwise (Upp f)
 mem:∀r,r∈L↔∃a<m,r=cls m f a
theorem y7b{cs:List Nat}{c:Nat}:(plL cs c).Pairwise (· < ·):=by
 unfold plL
 rw[bw]
 refine List.Pairwise.filter _ ?_
 have h:(cs.zipIdx.map fun z=>z.2).Pairwise (· < ·):=by
  rw[show(cs.zipIdx.map fun z=>z.2)=cc 0 cs.length from List.zipIdx_map_snd 0 cs]
  exact List.pairwise_lt_range'
 exact bw.mp h
theorem y1q{T:List (List Bool)}{m:Nat}:Rgs m (fun a=>(rcL T m a).length) (rgL T m):=by
 have hc:∀a c,(y8i T m)[a]? = some c↔a<m∧(rcL T m a).length=c:=fun a c=>by
  unfold y8i
  rw[aJ]
  by_cases h:a<m
  ·rw[cM h]
   simp[h]
  ·rw[br (by simp;omega)]
   simp[h]
 have pe:∀a<m,plL (y8i T m) (rcL T m a).length=cls m (fun a=>(rcL T m a).length) a:=fun a ha=>
  uniqL (R:=(· < ·)) (fun x y h h'=>by omega) y7b (List.Pairwise.filter _ bB) fun x=>by
   rw[plL_mem,hc]
   unfold cls
   rw[ak,am,decide_eq_true_iff]
 refine⟨?_,fun r=>?_⟩
 ·unfold rgL
  rw[bw]
  have hd:(dnL m).Pairwise (· > ·):=by
   unfold dnL
   rw[bw]
   refine List.Pairwise.imp_of_mem ?_ bB
   intro x y hx hy h
   have:=am.mp hy
   show m - y<m - x
   omega
  refine List.Pairwise.imp_of_mem ?_ (List.Pairwise.filter _ hd)
  intro c d hcm hdm hcd
  have hcm:=(ak.mp hcm).2
  have hdm:=(ak.mp hdm).2
  obtain⟨i,hi⟩:=c7 (ar.mp hcm)
  obtain⟨j,hj⟩:=c7 (ar.mp hdm)
  refine⟨e7 (plL_mem.mpr hi),e7 (plL_mem.mpr hj),fun a ha b hb=>?_⟩
  have h1:=(hc a c).mp (plL_mem.mp ha)
  have h2:=(hc b d).mp (plL_mem.mp hb)
  show(rcL T m b).length<(rcL T m a).length
  have:c>d:=hcd
  omega
 ·unfold rgL
  rw[aN]
  constructor
  ·rintro⟨c,hcm,rfl⟩
   have hcm:=(ak.mp hcm).2
   obtain⟨i,hi⟩:=c7 (ar.mp hcm)
   have h1:=(hc i c).mp hi
   exact⟨i,h1.1,by rw[←h1.2,pe i h1.1]⟩
  ·rintro⟨a,ha,rfl⟩
   refine⟨(rcL T m a).length,ak.mpr ⟨?_,ar.mpr (eQ ((hc a _).mpr ⟨ha,rfl⟩))⟩,pe a ha⟩
   unfold dnL
   have h1:=rcL_len (T:=T) (m:=m) (a:=a)
   have h2:=rch_pos (T:=T) ha
   exact aN.mpr ⟨m - (rcL T m a).length,am.mpr (by omega),by omega⟩
def wk(T:List (List Bool)):Nat->List Nat->Prop
 |_,[]=>True
 |x,y::r=>at2 T x y=true∧wk T y r
def lsN:Nat->List Nat->Nat
 |x,[]=>x
 |_,y::r=>lsN y r
theorem z5G:∀{a:List Nat} {x:Nat} {b:List Nat},lsN x (a++b)=lsN (lsN x a) b
 |[],_,_=>rfl
 |_::a,_,b=>z5G (a:=a) (b:=b)
theorem wk_app{T:List (List Bool)}:∀{a:List Nat} {x:Nat} {b:List Nat},wk T x (a++b)↔wk T x a∧wk T (lsN x a) b
 |[],_,_=>⟨fun h=>⟨trivial,h⟩,fun h=>h.2⟩
 |y::a,x,b=>by
  have ih:=wk_app (T:=T) (a:=a) (x:=y) (b:=b)
  constructor
  ·rintro⟨h1,h2⟩
   exact⟨⟨h1,(ih.mp h2).1⟩,(ih.mp h2).2⟩
  ·rintro⟨⟨h1,h2⟩,h3⟩
   exact⟨h1,ih.mpr ⟨h2,h3⟩⟩
theorem x0C:∀{a:List Nat} {x:Nat},lsN x a∈x::a
 |[],_=>ac
 |y::a,x=>ad _ (x0C (a:=a) (x:=y))
theorem y5Q{a:List Nat}{c x:Nat}:lsN c (a++[x])=x:=z5G
structure Cyc(T:List (List Bool))(c:Nat)(r:List Nat):Prop where
 nd:(c::r).Nodup
 wk:wk T c r
 cl:r≠[]->at2 T (lsN c r) c=true
inductive Det(T:List (List Bool))(L:List Nat)(h b:Nat):List Nat->Prop
 |one {x:Nat}:x∈L->at2 T h x=true->at2 T x b=true->Det T L h b [x]
 |two {x y:Nat}:x∈L->y∈L->at2 T h x=true->at2 T x y=true->at2 T y b=true->Det T L h b [x,y]
def y5h(T:List (List Bool))(L:List Nat)(h b:Nat):Prop:=(∀x∈L,at2 T h x=true->at2 T x b=true->False)∧∀x∈L,∀y∈L,at2 T h x=true->at2 T x y=true->at2 T y b=true->False
theorem Det.wk{T:List (List Bool)}{L:List Nat}{h b:Nat}{w:List Nat}(D:Det T L h b w):wk T h w∧at2 T (lsN h w) b=true∧w≠[]∧(∀x∈w,x∈L):=by
 cases D with
 |one h1 h2 h3=>exact⟨⟨h2,trivial⟩,h3,by simp,fun x hx=>by rw[ai.mp hx];exact h1⟩
 |two h1 h2 h3 h4 h5=>exact⟨⟨h3,h4,trivial⟩,h5,by simp,fun x hx=>by
   rcases ah.mp hx with z | z
   ·rw[z];exact h1
   ·rw[ai.mp z];exact h2⟩
theorem Det.nd{m:Nat}{T:List (List Bool)}(own:∀i<m,at2 T i i=false){L:List Nat}(lt:∀x∈L,x<m){h b:Nat}{w:List Nat}(D:Det T L h b w):w.Nodup:=by
 cases D with
 |one h1 h2 h3=>simp
 | @two x y h1 h2 h3 h4 h5=>
  have:x≠y:=fun z=>by
   subst z
   rw[own x (lt x h1)]at h4
   cases h4
  simp[this]
theorem Cyc.put{m:Nat}{T:List (List Bool)}(own:∀i<m,at2 T i i=false){c:Nat}{a b:List Nat}(C:Cyc T c (a++b)){L w:List Nat}(lt:∀x∈L,x<m)(hL:∀x∈L,x∉c::(a++b))(D:Det T L (lsN c a) (b.headD c) w):Cyc T c (a++w++b):=by
 obtain⟨d1,d2,d3,d4⟩:=D.wk
 have hw:=D.nd own lt
 have cw:=wk_app.mp C.wk
 refine⟨?_,?_,fun _=>?_⟩
 ·have p:(c::(a++w++b)).Perm (w++(c::(a++b))):=by
   have p1:(a++w++b).Perm (w++(a++b)):=by
    rw[←aK w a b]
    exact(bR (l₁:=a) (l₂:=w)).append_right b
   exact(p1.cons c).trans dG.symm
  rw[p.nodup_iff,bb]
  exact⟨hw,C.nd,fun x hx y hy e=>hL x (d4 x hx) (e ▸ hy)⟩
 ·rw[wk_app,wk_app,z5G]
  refine⟨⟨cw.1,d1⟩,?_⟩
  cases b with
  |nil=>exact trivial
  |cons y b=>exact⟨d2,cw.2.2⟩
 ·rw[z5G,z5G]
  cases b with
  |nil=>exact d2
  |cons y b=>
   have:=C.cl (by simp)
   rw[z5G]at this
   exact this
theorem Cyc.all{c:Nat}{r:List Nat}{P:Nat->Prop}(H:∀pre x post,c::r=pre++x::post->P x->P (post.headD c)){x:Nat}(hx:x∈c::r)(hp:P x):∀y∈c::r,P y:=by
 have h0:∀(post pre:List Nat) (x:Nat),c::r=pre++x::post->P x->P c:=fun post=>by
  induction post with
  |nil=>exact fun pre x e h=>H pre x [] e h
  |cons y post ih=>exact fun pre x e h=>ih (pre++[x]) y (by rw[e];simp) (H pre x (y::post) e h)
 obtain⟨pre,post,e⟩:=cO hx
 have hc:=h0 post pre x e hp
 have h1:∀(post pre:List Nat) (x:Nat),c::r=pre++x::post->P x->∀y∈x::post,P y:=fun post=>by
  induction post with
  |nil=>exact fun pre x e h y hy=>by rw[ai.mp hy];exact h
  |cons z post ih=>
   intro pre x e h y hy
   rcases ah.mp hy with q | q
   ·rw[q];exact h
   ·exact ih (pre++[x]) z (by rw[e];simp) (H pre x (z::post) e h) y q
 exact h1 r [] c rfl hc
def Stg(T:List (List Bool))(R:List Nat):Prop:=∀S:Nat->Prop,(∃x∈R,S x)->(∃y∈R,¬S y)->∃x∈R,∃y∈R,S x∧¬S y∧at2 T x y=true
theorem Full.tot{m:Nat}{T:List (List Bool)}(F:Full m T){x y:Nat}(hx:x<m)(hy:y<m)(hne:x≠y):at2 T x y=true∨at2 T y x=true:=by
 have:=F.two x hx y hy hne
 cases h:at2 T x y with
 |true=>exact .inl rfl
 |false=>
  rw[h]at this
  cases h2:at2 T y x with
  |true=>exact .inr rfl
  |false=>rw[h2]at this;cases this
theorem Full.no{m:Nat}{T:List (List Bool)}(F:Full m T){x y:Nat}(hx:x<m)(hy:y<m)(h1:at2 T x y=true)(h2:at2 T y x=true):False:=by
 by_cases hne:x=y
 ·subst hne
  rw[F.own x hx]at h1
  cases h1
 ·have:=F.two x hx y hy hne
  rw[h1,h2]at this
  cases this
theorem Cyc.full{m:Nat}{T:List (List Bool)}(F:Full m T){R:List Nat}(lt:∀x∈R,x<m)(hR:Stg T R){c:Nat}{r:List Nat}(hsub:∀x∈c::r,x∈R){L:List Nat}(hL:∀x,x∈L↔x∈R∧x∉c::r)(no:∀pre x post,c::r=pre++x::post->y5h T L x (post.headD c)):∀x∈R,x∈c::r:=by
 intro z0 hz0
 apply Classical.byContradiction
 intro hn0
 have hd:∀{pre:List Nat} {x:Nat} {post:List Nat},c::r=pre++x::post->post.headD c∈c::r:=fun {pre x post} e=>by
  cases post with
  |nil=>exact ac
  |cons y post=>rw[e];simp
 have two:∀z∈L,∀x∈c::r,at2 T x z=true->∀y∈c::r,at2 T y z=true:=fun z hz x hx hxz=>by
  obtain⟨hzR,hzn⟩:=(hL z).mp hz
  refine Cyc.all (P:=fun x=>at2 T x z=true) (fun pre x post e hp=>?_) hx hxz
  have hb:=hd e
  have hne:post.headD c≠z:=fun q=>hzn (q ▸ hb)
  rcases F.tot (lt _ (hsub _ hb)) (lt z hzR) hne with w | w
  ·exact w
  ·exact absurd w fun w=>(no pre x post e).1 z hz hp w
 obtain⟨x1,hx1,b,hb,s1,s2,hxb⟩:=hR (fun x=>x∈c::r) ⟨c,hsub c ac,ac⟩ ⟨z0,hz0,hn0⟩
 have hbL:b∈L:=(hL b).mpr ⟨hb,s2⟩
 have hbB:=two b hbL x1 s1 hxb
 obtain⟨x2,hx2,a,ha,t1,t2,hxa⟩:=hR (fun z=>z∈L∧∀y∈c::r,at2 T y z=true) ⟨b,hb,hbL,hbB⟩ ⟨c,hsub c ac,fun q=>((hL c).mp q.1).2 ac⟩
 have hac:a∉c::r:=fun q=>F.no (lt x2 hx2) (lt a ha) hxa (t1.2 a q)
 have haL:a∈L:=(hL a).mpr ⟨ha,hac⟩
 have haA:∀y∈c::r,at2 T a y=true:=fun y hy=>by
  have hne:a≠y:=fun q=>hac (q ▸ hy)
  rcases F.tot (lt a ha) (lt y (hsub y hy)) hne with w | w
  ·exact w
  ·exact absurd ⟨haL,two a haL y hy w⟩ t2
 exact(no [] c r rfl).2 x2 t1.1 a haL (t1.2 c ac) hxa (haA _ (hd (pre:=[]) (x:=c) (post:=r) rfl))
theorem x3Z{m:Nat}{T:List (List Bool)}(F:Full m T){a:Nat}:Stg T (cls m (fun a=>(rcL T m a).length) a):=by
 rintro S ⟨x0,hx0,sx⟩ ⟨y0,hy0,sy⟩
 apply Classical.byContradiction
 intro hn
 obtain⟨hx1,hx2⟩:=ak.mp hx0
 obtain⟨hy1,hy2⟩:=ak.mp hy0
 have hx1:=am.mp hx1
 have hy1:=am.mp hy1
 have hx2:(rcL T m x0).length=(rcL T m a).length:=of_decide_eq_true hx2
 have hy2:(rcL T m y0).length=(rcL T m a).length:=of_decide_eq_true hy2
 have hr:Rch T m x0 y0:=(y4M F hx1 hy1).mpr (by omega)
 have key:∀z,Rch T m x0 z->z<m∧((rcL T m z).length<(rcL T m a).length∨((rcL T m z).length=(rcL T m a).length∧S z)):=fun z h=>by
  induction h with
  |here=>exact⟨hx1,.inr ⟨hx2,sx⟩⟩
  | @step x y _ hy hxy ih=>
   refine⟨hy,?_⟩
   have le:(rcL T m y).length≤(rcL T m x).length:=(y4M F ih.1 hy).mp (.step .here hy hxy)
   rcases ih.2 with q | ⟨q1,q2⟩
   ·exact .inl (by omega)
   ·by_cases hc:(rcL T m y).length=(rcL T m a).length
    ·refine .inr ⟨hc,Classical.byContradiction fun ns=>hn ⟨x,ak.mpr ⟨am.mpr ih.1,decide_eq_true q1⟩,y,ak.mpr ⟨am.mpr hy,decide_eq_true hc⟩,q2,ns,hxy⟩⟩
    ·exact .inl (by omega)
 rcases (key y0 hr).2 with q | q
 ·omega
 ·exact sy q.2
theorem z6e{x:Option Out}{b:SS->Option Out}{I:SS->Prop}{Q:D->Prop}(h:hol x fun o=>(∃s,o = .nx s∧I s)∨∃d,o = .rt d∧Q d)(k:∀s,I s->hol (b s) fun o=>∃d,o = .rt d∧Q d):hol (y4k x b) fun o=>∃d,o = .rt d∧Q d:=by
 obtain⟨o,rfl,q⟩:=h
 rcases q with⟨s,rfl,q⟩ | ⟨d,rfl,q⟩
 ·exact k s q
 ·exact⟨_,rfl,d,rfl,q⟩
theorem y9W{m:Nat}{T:List (List Bool)}(sq:Sq m T){h b:Nat}(hh:h<m)(hb:b<m){L:List Nat}(lt:∀x∈L,x<m):hol (z6a [z0E T,.int (h:Int),.int (b:Int),thD L]) fun d=>∃w,d=thD w∧(Det T L h b w∨(w=[]∧y5h T L h b)):=by
 refine z7c rfl ?_
 simp! only[y0R,z2T]
 refine z6e (I:=fun s=>∃o4,s=[some (.sh (z0E T)),some (.sh (.int (h:Int))),some (.sh (.int (b:Int))),some (.sh (thD L)),o4,none]∧∀x∈L,at2 T h x=true->at2 T x b=true->False) ?_ ?_
 ·refine z1a (enc:=nD) (fun pre s=>∃o4,s=[some (.sh (z0E T)),some (.sh (.int (h:Int))),some (.sh (.int (b:Int))),some (.sh (thD L)),o4,none]∧∀x∈pre,at2 T h x=true->at2 T x b=true->False) ⟨_,rfl,fun x hx=>(by cases hx)⟩ ?_ fun s z=>.inl ⟨s,rfl,z⟩
  rintro pre x post e s ⟨o4,rfl,hp⟩
  have hxL:x∈L:=by rw[e];simp
  have hx:=lt x hxL
  have w1:z7d (some [D.int (x:Int)])=some ([x].map nD):=rfl
  have i1:=ix2 sq hh hx
  have i2:=ix2 sq hx hb
  obtain⟨p,h1⟩:∃p,at2 T h x=p:=⟨_,rfl⟩
  obtain⟨q,h2⟩:∃q,at2 T x b=q:=⟨_,rfl⟩
  rw[h1]at i1
  rw[h2]at i2
  have more:(p&&q)=false->∀y∈pre++[x],at2 T h y=true->at2 T y b=true->False:=fun hk y hy=>by
   rcases au.mp hy with z | z
   ·exact hp y z
   ·rw[ai.mp z,h1,h2]
    intro g1 g2
    rw[g1,g2]at hk
    cases hk
  cases hpq:p&&q with
  |false=>
   have mr:=more hpq
   simp! only[nD,i1,i2,hpq,z0b]
   exact⟨_,rfl,mr⟩
  |true=>
   obtain⟨g1,g2⟩:=av.mp hpq
   simp! only[nD,i1,i2,hpq,w1,z0b]
   exact .inr ⟨_,rfl,[x],rfl,.inl (.one hxL (h1.trans g1) (h2.trans g2))⟩
 ·rintro s ⟨o4,rfl,hn1⟩
  simp! only[z2T]
  refine z6e (I:=fun s=>∀x∈L,∀y∈L,at2 T h x=true->at2 T x y=true->at2 T y b=true->False) ?_ ?_
  ·refine z1a (enc:=nD) (fun pre s=>∃o4 o5,s=[some (.sh (z0E T)),some (.sh (.int (h:Int))),some (.sh (.int (b:Int))),some (.sh (thD L)),o4,o5]∧∀x∈pre,∀y∈L,at2 T h x=true->at2 T x y=true->at2 T y b=true->False) ⟨_,_,rfl,fun x hx=>(by cases hx)⟩ ?_ fun s ⟨_,_,_,z⟩=>.inl ⟨s,rfl,z⟩
   rintro pre x post e s ⟨o4,o5,rfl,hp⟩
   have hxL:x∈L:=by rw[e];simp
   have hx:=lt x hxL
   simp! only[z2T]
   have key:hol (z9D 5 (ifO (z8W (z0z (d2 ixD (d2 ixD (z0d 0) (z0d 1)) (z0d 4))) (z8W (z0z (d2 ixD (d2 ixD (z0d 0) (z0d 4)) (z0d 5))) (z0z (d2 ixD (d2 ixD (z0d 0) (z0d 5)) (z0d 2))))) (z6d (z0J (z0n [z0d 4,z0d 5]))) z0P) (L.map nD) [some (.sh (z0E T)),some (.sh (.int (h:Int))),some (.sh (.int (b:Int))),some (.sh (thD L)),some (.sh (nD x)),o5]) fun o=>(∃s,o = .nx s∧∃o5,s=[some (.sh (z0E T)),some (.sh (.int (h:Int))),some (.sh (.int (b:Int))),some (.sh (thD L)),some (.sh (nD x)),o5]∧∀y∈L,at2 T h x=true->at2 T x y=true->at2 T y b=true->False)∨∃d,o = .rt d∧∃w,d=thD w∧(Det T L h b w∨(w=[]∧y5h T L h b)):=by
    refine z1a (enc:=nD) (fun pre s=>∃o5,s=[some (.sh (z0E T)),some (.sh (.int (h:Int))),some (.sh (.int (b:Int))),some (.sh (thD L)),some (.sh (nD x)),o5]∧∀y∈pre,at2 T h x=true->at2 T x y=true->at2 T y b=true->False) ⟨_,rfl,fun x hx=>(by cases hx)⟩ ?_ fun s z=>.inl ⟨s,rfl,z⟩
    rintro pre y post e s ⟨o5,rfl,hq⟩
    have hyL:y∈L:=by rw[e];simp
    have hy:=lt y hyL
    have w2:z7d (some [D.int (x:Int),D.int (y:Int)])=some ([x,y].map nD):=rfl
    have i1:=ix2 sq hh hx
    have i2:=ix2 sq hx hy
    have i3:=ix2 sq hy hb
    obtain⟨p1,h1⟩:∃p,at2 T h x=p:=⟨_,rfl⟩
    obtain⟨p2,h2⟩:∃q,at2 T x y=q:=⟨_,rfl⟩
    obtain⟨p3,h3⟩:∃q,at2 T y b=q:=⟨_,rfl⟩
    rw[h1]at i1
    rw[h2]at i2
    rw[h3]at i3
    have more:(p1&&(p2&&p3))=false->∀z∈pre++[y],at2 T h x=true->at2 T x z=true->at2 T z b=true->False:=fun hk z hz=>by
     rcases au.mp hz with q | q
     ·exact hq z q
     ·rw[ai.mp q,h1,h2,h3]
      intro g1 g2 g3
      rw[g1,g2,g3]at hk
      cases hk
    cases hpq:p1&&(p2&&p3)with
    |false=>
     have mr:=more hpq
     simp! only[nD,i1,i2,i3,hpq,z0b]
     exact⟨_,rfl,mr⟩
    |true=>
     obtain⟨g1,g2⟩:=av.mp hpq
     obtain⟨g2,g3⟩:=av.mp g2
     simp! only[nD,i1,i2,i3,hpq,w2,z0b]
     exact .inr ⟨_,rfl,[x,y],rfl,.inl (.two hxL hyL (h1.trans g1) (h2.trans g2) (h3.trans g3))⟩
   obtain⟨o,eo,q⟩:=key
   refine⟨o,eo,?_⟩
   rcases q with⟨s',rfl,o5',rfl,hq⟩ | ⟨d,rfl,hq⟩
   ·refine⟨_,_,rfl,fun z hz=>?_⟩
    rcases au.mp hz with w | w
    ·exact hp z w
    ·rw[ai.mp w];exact hq
   ·exact .inr ⟨d,rfl,hq⟩
  ·intro s hn2
   have w0:z7d (some ([]:List D))=some (([]:List Nat).map nD):=rfl
   simp! only[w0,z0b]
   exact⟨_,rfl,[],rfl,.inr ⟨rfl,hn1,hn2⟩⟩
theorem cut_up{o:List Nat}{k:Nat}(h:k+1≤o.length):y2S (some (thD o)) (some none) (some (some ((k:Int)+1)))=some ((o.take (k+1)).map nD):=by
 show some (z7s (o.map nD) none (some ((k+1:Nat):Int)))=_
 rw[z9d (by simpa using h),b8]
def z9r(C R:List Nat):List Nat:=R.filter fun x=>!C.contains x
theorem left_mem{C R:List Nat}{x:Nat}:x∈z9r C R↔x∈R∧x∉C:=by
 unfold z9r
 rw[ak]
 refine and_congr_right fun _=>?_
 constructor
 ·intro h hc
  rw[ar.mpr hc]at h
  cases h
 ·intro h
  have:C.contains x=false:=by rw[←aR,ar];exact h
  rw[this]
  rfl
theorem x0t{c:Nat}{r pre post:List Nat}{x:Nat}(e:c::r=pre++x::post):∃k:Nat,((pre.length:Int)+1) % ((c::r).length:Int)=(k:Int)∧ixD (thD (c::r)) (.int (k:Int))=some (.int ((post.headD c:Nat):Int)):=by
 have hl:(c::r).length=pre.length+1+post.length:=by rw[e];simp;omega
 rw[hl]
 cases post with
 |nil=>
  refine⟨0,?_,ix0⟩
  show((pre.length:Int)+1) % ((pre.length+1+0:Nat):Int)=0
  have:((pre.length+1+0:Nat):Int)=(pre.length:Int)+1:=by omega
  rw[this,Int.emod_self]
 |cons y post=>
  refine⟨pre.length+1,?_,?_⟩
  ·have:((pre.length+1:Nat):Int)=(pre.length:Int)+1:=by omega
   rw[←this]
   exact Int.emod_eq_of_lt (by omega) (by simp;omega)
  ·refine x0N ?_
   rw[aJ,e]
   have:(pre++x::y::post)[pre.length+1]? = some y:=by
    rw[bi (by omega)]
    have:pre.length+1 - pre.length=1:=by omega
    rw[this]
    rfl
   rw[this]
   rfl
inductive Wid(T:List (List Bool))(R:List Nat)(c:Nat)(r:List Nat):List Nat->Prop
 |same:(∀pre x post,c::r=pre++x::post->y5h T (z9r (c::r) R) x (post.headD c))->Wid T R c r (c::r)
 |more {pre post w:List Nat} {x:Nat}:c::r=pre++x::post->Det T (z9r (c::r) R) x (post.headD c) w->Wid T R c r (pre++[x]++w++post)
theorem y7z{m:Nat}{T:List (List Bool)}(sq:Sq m T){c:Nat}{r R:List Nat}(hl:(c::r).length≤1000)(hRl:R.length≤1000)(lt:∀x∈c::r,x<m)(ltR:∀x∈R,x<m):hol (z3l [z0E T,thD (c::r),thD R]) fun d=>∃C,d=thD C∧Wid T R c r C:=by
 refine z7c rfl ?_
 have ib:=@x0t c r
 have hdl:∀{pre:List Nat} {x:Nat} {post:List Nat},c::r=pre++x::post->post.headD c∈c::r:=fun {pre x post} e=>by
  cases post with
  |nil=>exact ac
  |cons y post=>rw[e];simp
 have wsame:=@Wid.same T R c r
 have wmore:=@Wid.more T R c r
 obtain⟨C,hC⟩:∃C,C=c::r:=⟨_,rfl⟩
 rw[←hC]at ib hl lt wsame wmore hdl ⊢
 have cx:∀d3 d4 d5 d6 d7:Option D,z2l (some (R.map nD)) (z2k (z0F (d2 y3B (z0d 8) (z0d 1))) (z0d 8) [some (z0E T),some (thD C),some (thD R),d3,d4,d5,d6,d7])=some ((z9r C R).map nD):=fun d3 d4 d5 d6 d7=>
  y1z (fun x=>!C.contains x) nD hRl (fun x hx=>by simp! only[nD,z5o]) fun x _ _=>by simp! only[]
 have tl:∀W:List Nat,D.lst (W.map nD)=thD W:=fun _=>rfl
 have ltL:∀x∈z9r C R,x<m:=fun x hx=>ltR x (left_mem.mp hx).1
 have lll:(z9r C R).length≤1000:=aG (aX _ _) hRl
 obtain⟨L,hL⟩:∃L,L=z9r C R:=⟨_,rfl⟩
 rw[←hL]at cx ltL lll wsame wmore
 have en:y4T (thD C)=some (z0t 0 (C.map nD)):=rfl
 simp! only[z8e,z2T,cx,tl,en]
 refine z6e (I:=fun s=>∃o4 o5 o6 o7,s=[some (.sh (z0E T)),some (.sh (thD C)),some (.sh (thD R)),some (.sh (thD L)),o4,o5,o6,o7]∧∀pre x post,C=pre++x::post->y5h T L x (post.headD c)) ?_ ?_
 ·refine y0g (enc:=nD) (xs:=C) (fun p s=>∃o4 o5 o6 o7,s=[some (.sh (z0E T)),some (.sh (thD C)),some (.sh (thD R)),some (.sh (thD L)),o4,o5,o6,o7]∧∀pre x post,C=pre++x::post->pre.length<p.length->y5h T L x (post.headD c)) ?_ ?_ (post:=C) (pre:=[]) rfl ⟨_,_,_,_,rfl,fun pre x post _ h=>absurd h (by simp)⟩
  ·rintro pre x post e s ⟨o4,o5,o6,o7,rfl,hp⟩
   obtain⟨k,ek,ik⟩:=ib e
   have hx:=lt x (by rw[e];simp)
   have hb:=lt _ (hdl e)
   obtain⟨b,hbe⟩:∃b,b=post.headD c:=⟨_,rfl⟩
   rw[←hbe]at ik hb
   have hpos:0<C.length:=by rw[hC];simp
   have mk:y2c (.int ((pre.length:Int)+1)) (.int (C.length:Int))=some (.int (k:Int)):=by rw[z8q (by omega),ek]
   obtain⟨_,ed,w,rfl,hd⟩:=y9W sq hx hb ltL
   have ed:z6a [z0E T,.int (x:Int),.int (b:Int),thD L]=some (thD w):=ed
   simp! only[nD,z3S,mk,ik,ed]
   rcases hd with hd | ⟨rfl,hn⟩
   ·have hlw:w.length≤2:=by cases hd <;> simp
    obtain⟨y,w',hw⟩:∃y w',w=y::w':=by
     cases w with
     |nil=>exact absurd rfl hd.wk.2.2.1
     |cons y w'=>exact⟨y,w',rfl⟩
    have tr:z5V (thD w)=some true:=by rw[hw];rfl
    have hle:pre.length+1≤C.length:=by rw[e];simp
    have c1:=cut_up (o:=C) (k:=pre.length) hle
    have c2:=y1d (o:=C) (k:=pre.length)
    have t1:C.take (pre.length+1)=pre++[x]:=by
     rw[e,List.take_append,bA (by omega)]
     have:pre.length+1 - pre.length=1:=by omega
     rw[this]
     rfl
    have t2:C.drop (pre.length+1)=post:=by
     rw[e,List.drop_append,bO (by omega)]
     have:pre.length+1 - pre.length=1:=by omega
     rw[this]
     rfl
    have pl:pre.length+post.length≤1000:=by
     have:=congrArg List.length e
     simp at this
     omega
    rw[t1]at c1
    rw[t2]at c2
    rw[hbe]at hd
    have wm:=wmore e hd
    have k1:=z5j (a:=pre++[x]) (b:=w) (by simp;omega)
    have k2:=z5j (a:=pre++[x]++w) (b:=post) (by simp;omega)
    obtain⟨A2,hA2⟩:∃A,A=pre++[x]++w++post:=⟨_,rfl⟩
    rw[←hA2]at k2 wm
    obtain⟨A1,hA1⟩:∃A,A=pre++[x]++w:=⟨_,rfl⟩
    rw[←hA1]at k1 k2
    obtain⟨A0,hA0⟩:∃A,A=pre++[x]:=⟨_,rfl⟩
    rw[←hA0]at c1 k1
    simp! only[tr,c1,tl,k1,c2,k2,z0b]
    exact .inr ⟨_,rfl,A2,rfl,wm⟩
   ·simp! only[tru_nil,z0b]
    refine⟨_,_,_,_,rfl,fun pre' x' post' e' hlt=>?_⟩
    by_cases hq:pre'.length<pre.length
    ·exact hp pre' x' post' e' hq
    ·have hle:pre'.length=pre.length:=by simp at hlt;omega
     have:=List.append_inj (e'.symm.trans e) hle
     obtain⟨rfl,he⟩:=this
     cases he
     rw[hbe]at hn
     exact hn
  ·rintro s ⟨o4,o5,o6,o7,rfl,hp⟩
   exact .inl ⟨_,rfl,_,_,_,_,rfl,fun pre x post e=>hp pre x post e (by rw[e];simp)⟩
 ·rintro s ⟨o4,o5,o6,o7,rfl,hp⟩
  simp! only[z0b]
  exact⟨_,rfl,C,rfl,wsame hp⟩
theorem x4d{c x:Nat}{r pre post:List Nat}(e:c::r=pre++x::post):∃a,pre++[x]=c::a∧r=a++post∧lsN c a=x:=by
 cases pre with
 |nil=>
  cases e
  exact⟨[],rfl,rfl,rfl⟩
 |cons y pre=>
  have e1:c=y:=(List.cons.inj e).1
  have e2:r=pre++x::post:=(List.cons.inj e).2
  subst e1
  exact⟨pre++[x],rfl,by rw[e2];simp,y5Q⟩
theorem Wid.go{m:Nat}{T:List (List Bool)}(own:∀i<m,at2 T i i=false){R:List Nat}(ltR:∀x∈R,x<m){c:Nat}{r W:List Nat}(C:Cyc T c r)(hs:∀x∈c::r,x∈R)(h:Wid T R c r W)(hl:(c::r).length<W.length):∃r',W=c::r'∧Cyc T c r'∧∀x∈c::r',x∈R:=by
 cases h with
 |same _=>omega
 | @more pre post w x e D=>
  obtain⟨a,e1,e2,e3⟩:=x4d e
  subst e2
  rw[←e3]at D
  have P:=Cyc.put own C (fun z hz=>ltR z (left_mem.mp hz).1) (fun z hz=>(left_mem.mp hz).2) D
  refine⟨a++w++post,by rw[e1];simp,P,fun z hz=>?_⟩
  obtain⟨_,_,_,d4⟩:=D.wk
  rcases ah.mp hz with q | q
  ·rw[q];exact hs c ac
  ·rcases au.mp q with q | q
   ·rcases au.mp q with q | q
    ·exact hs z (by simp[q])
    ·exact(left_mem.mp (d4 z q)).1
   ·exact hs z (by simp[q])
theorem Wid.stay{T:List (List Bool)}{R:List Nat}{c:Nat}{r W:List Nat}(h:Wid T R c r W)(hl:¬(c::r).length<W.length):∀pre x post,c::r=pre++x::post->y5h T (z9r (c::r) R) x (post.headD c):=by
 cases h with
 |same h=>exact h
 |more e D=>
  exfalso
  apply hl
  rw[e]
  have:=cL.mpr D.wk.2.2.1
  simp
  omega
theorem x3n{m:Nat}{T:List (List Bool)}(F:Full m T)(hm:m≤60){c:Nat}{R':List Nat}(up:(c::R').Pairwise (· < ·))(ltR:∀x∈c::R',x<m)(hS:Stg T (c::R')):hol (z2v [z0E T,thD (c::R')]) fun d=>∃r,d=thD (c::r)∧Cyc T c r∧∀x,x∈c::r↔x∈c::R':=by
 refine z7c rfl ?_
 have mn:=y7Q up
 have hRn:(c::R').Nodup:=up.imp fun h=>az h
 have hRl:(c::R').length≤m:=by simpa using List.Nodup.length_le_of_subset hRn fun x hx=>am.mpr (ltR x hx)
 have hcR:c∈c::R':=ac
 obtain⟨R,hR⟩:∃R,R=c::R':=⟨_,rfl⟩
 rw[←hR]at mn hRn hRl hcR ltR hS ⊢
 have t1:D.lst [.int (c:Int)]=thD [c]:=rfl
 have wd:∀{r:List Nat},Cyc T c r->(∀x∈c::r,x∈R)->∃W,z3l [z0E T,thD (c::r),thD R]=some (thD W)∧Wid T R c r W:=fun {r} C hs=>by
  have hl:(c::r).length≤R.length:=List.Nodup.length_le_of_subset C.nd hs
  obtain⟨_,e,W,rfl,h⟩:=y7z F.sq (c:=c) (r:=r) (R:=R) (by omega) (by omega) (fun x hx=>ltR x (hs x hx)) ltR
  exact⟨W,e,h⟩
 have C0:Cyc T c []:=⟨by simp,trivial,fun h=>absurd rfl h⟩
 have hs0:∀x∈[c],x∈R:=fun x hx=>by rw[ai.mp hx];exact hcR
 obtain⟨W0,e0,h0⟩:=wd C0 hs0
 simp! only[z6R,mn,t1,e0]
 refine z6e (I:=fun s=>∃(r:List Nat) (o3:Option SD),s=[some (.sh (z0E T)),some (.sh (thD R)),some (.sh (thD (c::r))),o3]∧Cyc T c r∧∀x,x∈c::r↔x∈R) ?_ ?_
 ·refine z4f (fun n s=>∃(r W:List Nat),s=[some (.sh (z0E T)),some (.sh (thD R)),some (.sh (thD (c::r))),some (.sh (thD W))]∧Cyc T c r∧(∀x∈c::r,x∈R)∧Wid T R c r W∧R.length≤n+(c::r).length) (n:=R.length) ⟨[],W0,rfl,C0,hs0,h0,by omega⟩ ?_ (by omega)
  rintro n s ⟨r,W,rfl,C,hs,hw,hn⟩
  refine⟨decide (((c::r).length:Int)<(W.length:Int)),?_,fun hk=>?_,fun hk=>?_⟩
  ·have d1:decide ((W.length:Int)>((c::r).length:Int))=decide (((c::r).length:Int)<(W.length:Int)):=rfl
   obtain⟨Q,hQ⟩:∃Q,Q=c::r:=⟨_,rfl⟩
   rw[←hQ]at d1 ⊢
   simp! only[z3S,d1]
  ·have hk:=of_decide_eq_false hk
   refine .inl ⟨_,rfl,r,_,rfl,C,fun x=>⟨fun hx=>hs x hx,?_⟩⟩
   exact Cyc.full F ltR hS hs (L:=z9r (c::r) R) (fun x=>left_mem) (hw.stay (by omega)) x
  ·have hk:=of_decide_eq_true hk
   obtain⟨r',rfl,C',hs'⟩:=hw.go F.own ltR C hs (by omega)
   have hl':(c::r').length≤R.length:=List.Nodup.length_le_of_subset C'.nd hs'
   obtain⟨W',e',h'⟩:=wd C' hs'
   refine⟨n - 1,by omega,?_⟩
   have fin:∃(r W:List Nat),[some (.sh (z0E T)),some (.sh (thD R)),some (.sh (thD (c::r'))),some (.sh (thD W'))]=[some (SD.sh (z0E T)),some (.sh (thD R)),some (.sh (thD (c::r))),some (.sh (thD W))]∧Cyc T c r∧(∀x∈c::r,x∈R)∧Wid T R c r W∧R.length≤n - 1+(c::r).length:=⟨r',W',rfl,C',hs',h',by omega⟩
   obtain⟨Q,hQ⟩:∃Q,Q=c::r:=⟨_,rfl⟩
   rw[←hQ]
   obtain⟨Q',hQ'⟩:∃Q,Q=c::r':=⟨_,rfl⟩
   rw[←hQ']at e' fin ⊢
   simp! only[e',z0b]
   exact fin
 ·rintro s ⟨r,o3,rfl,C,hm⟩
  have fin:∃r',thD (c::r)=thD (c::r')∧Cyc T c r'∧∀x,x∈c::r'↔x∈R:=⟨r,rfl,C,hm⟩
  obtain⟨Q,hQ⟩:∃Q,Q=c::r:=⟨_,rfl⟩
  rw[←hQ]at fin ⊢
  simp! only[z0b]
  exact⟨_,rfl,fin⟩
theorem lix_th{o:List Nat}{x:Nat}(h:x∈o):lixF (thD o) (.int (x:Int))=some (.int ((o.findIdx fun n=>n==x:Nat):Int)):=by
 show((z1O (o.map nD)).bind fun ns=>(ns.findIdx? (fun n=>n==(x:Int))).map fun j=>D.int (j:Int))=_
 rw[nD_ints,y5w,aA,List.findIdx?_map]
 have e:((fun n:Int=>n==(x:Int))∘fun n:Nat=>((n:Nat):Int))=fun n=>n==x:=by
  funext n
  show((n:Int)==(x:Int))=(n==x)
  by_cases hz:n=x
  ·subst hz;simp
  ·have h1:((n:Int)==(x:Int))=false:=by rw[beq_eq_false_iff_ne];omega
   have h2:(n==x)=false:=by rw[beq_eq_false_iff_ne];exact hz
   rw[h1,h2]
 rw[e,List.findIdx?_eq_guard_findIdx_lt]
 have hl:o.findIdx (fun n=>n==x)<o.length:=bH ⟨x,h,by simp⟩
 simp[Option.guard,hl]
theorem x0R{a:Nat}:∀{pre post:List Nat},a∉pre->(pre++a::post).findIdx (fun n=>n==a)=pre.length
 |[],post,_=>by simp[List.findIdx_cons]
 |x::pre,post,h=>by
  have hx:(x==a)=false:=by rw[beq_eq_false_iff_ne];exact fun z=>h (z ▸ ac)
  have ih:=x0R (a:=a) (pre:=pre) (post:=post) fun z=>h (ad _ z)
  rw[cW,List.findIdx_cons,hx,ih]
  rfl
theorem x4e{T:List (List Bool)}{c:Nat}{r:List Nat}(C:Cyc T c r){a:Nat}(ha:a∈c::r)(hl:(c::r).length≤1000):∃q,z2M [thD (c::r),.int (a:Int)]=some (thD (a::q))∧wk T a q∧(a::q).Perm (c::r):=by
 obtain⟨pre,post,e⟩:=cO ha
 have nd:=C.nd
 rw[e,bb]at nd
 have hn:a∉pre:=fun z=>nd.2.2 a z a ac rfl
 have lx:=lix_th ha
 rw[e,x0R hn]at lx
 refine⟨post++pre,?_,?_,?_⟩
 ·refine z0m rfl ?_
  rw[e]at hl ⊢
  have c1:=y1Z (o:=pre++a::post) (k:=pre.length)
  have c2:=z9d (ds:=(pre++a::post).map nD) (k:=pre.length) (by simp)
  have c2:y2S (some (thD (pre++a::post))) (some none) (some (some (pre.length:Int)))=some (pre.map nD):=by
   show some (z7s ((pre++a::post).map nD) none (some (pre.length:Int)))=_
   rw[c2,←b8]
   simp
  have t1:(pre++a::post).drop pre.length=a::post:=by simp
  rw[t1]at c1
  have ct:=z5j (a:=a::post) (b:=pre) (by simp at hl ⊢;omega)
  obtain⟨Q,hQ⟩:∃Q,Q=pre++a::post:=⟨_,rfl⟩
  rw[←hQ]at lx c1 c2 ⊢
  have ex:a::(post++pre)=a::post++pre:=rfl
  rw[ex]
  obtain⟨Q2,hQ2⟩:∃Q,Q=a::post++pre:=⟨_,rfl⟩
  rw[←hQ2]at ct ⊢
  obtain⟨Q1,hQ1⟩:∃Q,Q=a::post:=⟨_,rfl⟩
  rw[←hQ1]at c1 ct
  have tl:∀W:List Nat,D.lst (W.map nD)=thD W:=fun _=>rfl
  simp! only[z4H,lx,c1,c2,tl,ct,z2A,z0b]
 ·cases pre with
  |nil=>
   cases e
   rw[aH]
   exact C.wk
  |cons y p=>
   have e1:c=y:=(List.cons.inj e).1
   have e2:r=p++a::post:=(List.cons.inj e).2
   subst e1
   have w:=C.wk
   have cl:=C.cl (by rw[e2];simp)
   rw[e2]at w cl
   rw[z5G]at cl
   obtain⟨w1,w2⟩:=wk_app.mp w
   rw[wk_app]
   exact⟨w2.2,cl,w1⟩
 ·rw[e]
  have:(a::(post++pre))=(a::post)++pre:=rfl
  rw[this]
  exact bR
theorem x3L{np nl:Nat}{b:SS->Option Out}{ds:List D}{Q:XO->Prop}(hl:ds.length=np)(h:hol (b (ds.map (fun d=>some (.sh d))++aD nl none)) fun o=>∃d,o = .rt d∧Q (.val d)):hol (z9e np nl b ds) Q:=by
 obtain⟨o,e,d,rfl,q⟩:=h
 refine⟨.val d,?_,q⟩
 unfold z9e
 rw[if_pos hl,e]
theorem cls_up{m:Nat}{f:Nat->Nat}{a:Nat}:(cls m f a).Pairwise (· < ·):=List.Pairwise.filter _ bB
theorem y6K{m:Nat}{f:Nat->Nat}{a x:Nat}(h:x∈cls m f a):x<m:=am.mp (ak.mp h).1
theorem y6E{m:Nat}{f:Nat->Nat}{a:Nat}(h:a<m):a∈cls m f a:=ak.mpr ⟨am.mpr h,decide_eq_true rfl⟩
theorem Rgs.perm{m:Nat}{f:Nat->Nat}{L:List (List Nat)}(h:Rgs m f L):L.flatten.Perm (ag m):=by
 refine(bE ?_ bK).mpr fun x=>?_
 ·unfold List.Nodup
  rw[List.pairwise_flatten]
  refine⟨fun r hr=>?_,h.pw.imp fun {r s} q=>?_⟩
  ·obtain⟨a,_,rfl⟩:=(h.mem r).mp hr
   exact cls_up.imp fun h=>az h
  ·intro x hx y hy e
   subst e
   have:=q.2.2 x hx x hy
   omega
 ·rw[cv,am]
  constructor
  ·rintro⟨r,hr,hx⟩
   obtain⟨a,_,rfl⟩:=(h.mem r).mp hr
   exact y6K hx
  ·intro hx
   exact⟨cls m f x,(h.mem _).mpr ⟨x,hx,rfl⟩,y6E hx⟩
theorem Rgs.cons{m:Nat}{f:Nat->Nat}{L:List (List Nat)}(h:Rgs m f L)(h0:0<m):∃r0 rest,L=r0::rest:=by
 have:cls m f 0∈L:=(h.mem _).mpr ⟨0,h0,rfl⟩
 cases L with
 |nil=>cases this
 |cons r s=>exact⟨r,s,rfl⟩
theorem x4z{m:Nat}{T:List (List Bool)}(F:Full m T)(hm:m≤60){r0:List Nat}{rest:List (List Nat)}(hr:rgL T m=r0::rest){a:Nat}(ha:a∈r0):∃q,z1S [z0E T,.int (a:Int)]=some (.val (thD (a::q)))∧wk T a q∧(a::q).Perm (ag m):=by
 have G:=y1q (T:=T) (m:=m)
 rw[hr]at G
 have ro:∀s∈r0::rest,∃c r',hol (z2v [z0E T,thD s]) (fun d=>d=thD (c::r'))∧Cyc T c r'∧(c::r').Perm s:=fun s hs=>by
  obtain⟨b,hb,rfl⟩:=(G.mem s).mp hs
  have up:=cls_up (m:=m) (f:=fun a=>(rcL T m a).length) (a:=b)
  have lt:∀x∈cls m (fun a=>(rcL T m a).length) b,x<m:=fun x hx=>y6K hx
  have st:=x3Z F (a:=b)
  have hne:=y6E (f:=fun a=>(rcL T m a).length) hb
  obtain⟨R,hR⟩:∃R,R=cls m (fun a=>(rcL T m a).length) b:=⟨_,rfl⟩
  rw[←hR]at up lt st hne ⊢
  cases R with
  |nil=>cases hne
  |cons c R'=>
   obtain⟨_,e,r',rfl,C,hm⟩:=x3n F hm up lt st
   refine⟨c,r',⟨_,e,rfl⟩,C,(bE C.nd (up.imp fun h=>az h)).mpr hm⟩
 suffices h:hol (z1S [z0E T,.int (a:Int)]) fun x=>∃q,x = .val (thD (a::q))∧wk T a q∧(a::q).Perm (ag m) by
  obtain⟨_,e,q,rfl,h⟩:=h
  exact⟨q,e,h⟩
 refine x3L rfl ?_
 have re:=y6Y F.sq hm
 rw[hr]at re
 have ltall:∀s∈r0::rest,s.length≤m:=fun s hs=>by
  obtain⟨b,hb,rfl⟩:=(G.mem s).mp hs
  have:=aX (fun c=>decide ((rcL T m c).length=(rcL T m b).length)) (ag m)
  rw[bx]at this
  exact this
 obtain⟨c0,s0,⟨_,er0,rfl⟩,C0,p0⟩:=ro r0 ac
 have hl0:(c0::s0).length≤1000:=by
  have:=p0.length_eq
  have:=ltall r0 ac
  omega
 obtain⟨q0,eb,w0,pq0⟩:=x4e C0 (p0.mem_iff.mpr ha) hl0
 have ix:ixD (.lst ((r0::rest).map thD)) (.int 0)=some (thD r0):=z5x (j:=0) rfl
 have cu:y2S (some (.lst ((r0::rest).map thD))) (some (some 1)) (some none)=some (rest.map thD):=by
  show some (z7s ((r0::rest).map thD) (some ((1:Nat):Int)) none)=_
  rw[y1I]
  rfl
 have sr:y7w (.lst (rest.map thD))=some (rest.map thD):=rfl
 have hc:(!r0.contains a)=false:=by rw[ar.mpr ha];rfl
 have tot:=G.perm
 have flen:(r0++rest.flatten).length=m:=by
  have:=tot.length_eq
  rw[bx]at this
  exact this
 obtain⟨Lr,hLr⟩:∃Lr,Lr=D.lst ((r0::rest).map thD):=⟨_,rfl⟩
 rw[←hLr]at re ix cu
 have fin0:∃q,thD (a::q0)=thD (a::q)∧wk T a q∧(a::q).Perm (r0++([]:List (List Nat)).flatten):=⟨q0,rfl,w0,by simpa using pq0.trans p0⟩
 obtain⟨Z0,hZ0⟩:∃Z,Z=c0::s0:=⟨_,rfl⟩
 rw[←hZ0]at er0 eb
 obtain⟨Y0,hY0⟩:∃Y,Y=a::q0:=⟨_,rfl⟩
 rw[←hY0]at eb fin0
 simp! only[z7j,re,ix,z5o,hc,er0,eb,cu,sr]
 refine z0w (I:=fun s=>∃(q:List Nat) (o4:Option SD),s=[some (.sh (z0E T)),some (.sh (.int (a:Int))),some (.sh Lr),some (.ow (thD (a::q))),o4]∧wk T a q∧(a::q).Perm (r0++rest.flatten)) ?_ ?_
 ·obtain⟨qq,eqq,wqq,pqq⟩:=fin0
  rw[eqq]
  refine z1a (enc:=thD) (fun pre s=>∃(q:List Nat) (o4:Option SD),s=[some (.sh (z0E T)),some (.sh (.int (a:Int))),some (.sh Lr),some (.ow (thD (a::q))),o4]∧wk T a q∧(a::q).Perm (r0++pre.flatten)) ⟨qq,_,rfl,wqq,pqq⟩ ?_ fun s z=>⟨s,rfl,z⟩
  rintro pre s post e st ⟨q,o4,rfl,wq,pq⟩
  have hs:s∈r0::rest:=ad _ (by rw[e];simp)
  obtain⟨c,r',⟨_,er,rfl⟩,C,ps⟩:=ro s hs
  have hbt:at2 T (lsN a q) c=true:=by
   have h1:lsN a q∈r0++pre.flatten:=pq.mem_iff.mp x0C
   have h2:∃t∈r0::pre,lsN a q∈t:=by
    rcases au.mp h1 with z | z
    ·exact⟨r0,ac,z⟩
    ·obtain⟨t,ht,hz⟩:=cv.mp z
     exact⟨t,ad _ ht,hz⟩
   obtain⟨t,ht,hz⟩:=h2
   have pw:=G.pw
   rw[e]at pw
   have pw:((r0::pre)++s::post).Pairwise (Upp fun a=>(rcL T m a).length):=pw
   have up:=(c6.mp pw).2.2 t ht s ac
   have hcs:c∈s:=ps.mem_iff.mp ac
   have htL:t∈r0::rest:=by
    rw[e]
    rcases ah.mp ht with z | z
    ·rw[z];exact ac
    ·exact ad _ (bc _ z)
   obtain⟨b1,hb1,et⟩:=(G.mem t).mp htL
   obtain⟨b2,hb2,es⟩:=(G.mem s).mp hs
   exact y2T F (by rw[et]at hz;exact y6K hz) (by rw[es]at hcs;exact y6K hcs) (up.2.2 _ hz c hcs)
  have l1:(a::q).length≤m:=by
   rw[pq.length_eq]
   rw[e]at flen
   simp at flen ⊢
   omega
  have l2:(c::r').length≤m:=by
   rw[ps.length_eq]
   exact ltall s hs
  have ex:=eo_extD (ds:=(a::q).map nD) (es:=(c::r').map nD) (y2f _) (by rw[aq,aq];omega)
  rw[←aS]at ex
  have ex:extDV (some (thD (a::q))) (some (thD (c::r')))=some (thD (a::q++c::r')):=ex
  have fin:∃(q':List Nat),thD (a::q++c::r')=thD (a::q')∧wk T a q'∧(a::q').Perm (r0++(pre++[s]).flatten):=⟨q++c::r',rfl,wk_app.mpr ⟨wq,hbt,C.wk⟩,by
   have:=pq.append ps
   simpa using this⟩
  obtain⟨Z,hZ⟩:∃Z,Z=a::q++c::r':=⟨_,rfl⟩
  rw[←hZ]at ex fin
  obtain⟨Z1,hZ1⟩:∃Z,Z=a::q:=⟨_,rfl⟩
  rw[←hZ1]at ex ⊢
  obtain⟨Z2,hZ2⟩:∃Z,Z=c::r':=⟨_,rfl⟩
  rw[←hZ2]at ex er
  simp! only[er,ex,z0b]
  obtain⟨q',e1,e2⟩:=fin
  exact⟨q',_,by rw[e1],e2⟩
 ·rintro s ⟨q,o4,rfl,wq,pq⟩
  have fin:∃q',XO.val (thD (a::q)) = .val (thD (a::q'))∧wk T a q'∧(a::q').Perm (ag m):=⟨q,rfl,wq,pq.trans tot⟩
  obtain⟨Z,hZ⟩:∃Z,Z=a::q:=⟨_,rfl⟩
  rw[←hZ]at fin ⊢
  simp! only[z0b]
  exact⟨_,rfl,fin⟩
theorem z4T{m:Nat}{T:List (List Bool)}(F:Full m T)(hm:m≤60){r0:List Nat}{rest:List (List Nat)}(hr:rgL T m=r0::rest):z2w [z0E T]=some (thD r0):=by
 refine z0m rfl ?_
 have re:=y6Y F.sq hm
 rw[hr,aF]at re
 have ix:atI (thD r0::rest.map thD) 0=some (thD r0):=z5x (j:=0) rfl
 simp! only[z6M,re,ix,z0b]
theorem x4h{m:Nat}{T:List (List Bool)}(F:Full m T)(hm:m≤60){r0:List Nat}{rest:List (List Nat)}(hr:rgL T m=r0::rest){a:Nat}(ha:a∈r0):∃q,z3e [z0E T,.int (a:Int)]=some (.tup [.str "order",thD (a::q).reverse])∧wk T a q∧(a::q).Perm (ag m):=by
 obtain⟨q,e,w,p⟩:=x4z F hm hr ha
 refine⟨q,z0m rfl ?_,w,p⟩
 have tr:=z4T F hm hr
 have hc:(!r0.contains a)=false:=by rw[ar.mpr ha];rfl
 obtain⟨Q,hQ⟩:∃Q,Q=a::q:=⟨_,rfl⟩
 rw[←hQ]at e ⊢
 have rv:revF [thD Q]=some (Q.reverse.map nD):=by
  show revF [.lst (Q.map nD)]=_
  rw[y4Q,List.map_reverse]
 have tl:∀W:List Nat,D.lst (W.map nD)=thD W:=fun _=>rfl
 simp! only[z4S,tr,z5o,hc,e,rv,tl,z0b]
theorem x0z{m:Nat}{T:List (List Bool)}(F:Full m T)(hm:m≤60){r0:List Nat}{rest:List (List Nat)}(hr:rgL T m=r0::rest){a:Nat}(ha:a∉r0):z3e [z0E T,.int (a:Int)]=some (.tup [.str "shut",thD r0]):=by
 refine z0m rfl ?_
 have tr:=z4T F hm hr
 have hc:(!r0.contains a)=true:=by
  have:r0.contains a=false:=by rw[←aR,ar];exact ha
  rw[this]
  rfl
 simp! only[z4S,tr,z5o,hc,z0b]
theorem rest_in{m:Nat}{T:List (List Bool)}(F:Full m T)(hm:m≤60){r0:List Nat}{rest:List (List Nat)}(hr:rgL T m=r0::rest){a:Nat}(ha:a∈r0):∃q,z4C [z0E T,.int (a:Int)]=some (.tup [.str "order",thD (a::q)])∧wk T a q∧(a::q).Perm (ag m):=by
 obtain⟨q,e,w,p⟩:=x4z F hm hr ha
 refine⟨q,z0m rfl ?_,w,p⟩
 have tr:=z4T F hm hr
 have hc:(!r0.contains a)=false:=by rw[ar.mpr ha];rfl
 obtain⟨Q,hQ⟩:∃Q,Q=a::q:=⟨_,rfl⟩
 rw[←hQ]at e ⊢
 have tl:∀W:List Nat,D.lst (W.map nD)=thD W:=fun _=>rfl
 simp! only[z6f,tr,z5o,hc,e,tl,z0b]
theorem x2Y{m:Nat}{T:List (List Bool)}(F:Full m T)(hm:m≤60){r0:List Nat}{rest:List (List Nat)}(hr:rgL T m=r0::rest){a:Nat}(ha:a∉r0):z4C [z0E T,.int (a:Int)]=some (.tup [.str "shut",thD r0]):=by
 refine z0m rfl ?_
 have tr:=z4T F hm hr
 have hc:(!r0.contains a)=true:=by
  have:r0.contains a=false:=by rw[←aR,ar];exact ha
  rw[this]
  rfl
 simp! only[z6f,tr,z5o,hc,z0b]
theorem wk_at{T:List (List Bool)}:∀{u:List Nat} {a:Nat} {q:List Nat} {x y:Nat} {v:List Nat},wk T a q->a::q=u++x::y::v->at2 T x y=true
 |[],a,q,x,y,v,h,e=>by
  cases e
  exact h.1
 |z::u,a,q,x,y,v,h,e=>by
  have e2:q=u++x::y::v:=(List.cons.inj e).2
  cases q with
  |nil=>simp at e2
  |cons b q=>exact wk_at (u:=u) h.2 e2
theorem x1M:∀{p:List Nat} {x:Nat},∃v,(x::p).reverse=lsN x p::v
 |[],x=>⟨[],rfl⟩
 |y::p,x=>by
  obtain⟨v,hv⟩:=x1M (p:=p) (x:=y)
  exact⟨v++[x],by rw[bU,hv];rfl⟩
theorem wk_back{T:List (List Bool)}{a:Nat}{q:List Nat}(h:wk T a q){x0:Nat}{o pre post:List Nat}{x:Nat}(e:(a::q).reverse=x0::o)(eo:o=pre++x::post):at2 T x (lsN x0 pre)=true:=by
 obtain⟨v,hv⟩:=x1M (p:=pre) (x:=x0)
 have e1:a::q=(x0::o).reverse:=by rw[←e,cF]
 have e2:a::q=post.reverse++x::lsN x0 pre::v:=by
  rw[e1,eo,←hv]
  simp
 exact wk_at h e2
theorem x3j{a:Nat}{q:List Nat}{x0:Nat}{o:List Nat}(e:(a::q).reverse=x0::o):lsN x0 o=a:=by
 obtain⟨v,hv⟩:=x1M (p:=o) (x:=x0)
 rw[←e,cF]at hv
 exact(List.cons.inj hv).1.symm
theorem y7C{m:Nat}{T:List (List Bool)}(sq:Sq m T){th:List Nat}(hl:th.length≤1000)(h:∀x∈th,x<m):z4Q [z0E T,thD th]=some (.bl (z5Z T th)):=by
 refine z0m rfl ?_
 by_cases h0:th=[]
 ·subst h0
  have d0:decide ((([]:List Nat).length:Int)=0)=true:=rfl
  simp! only[z4L,z3S,d0,z0b]
  rfl
 ·have d0:decide ((th.length:Int)=0)=false:=decide_eq_false fun e=>h0 (bL.mp (by omega))
  simp! only[z4L,z3S,d0,x2a]
  rw[cx2_all (fun k a=>bD ((th.drop (k+1)).all fun j=>at2 T a j)) hl fun i hi=>by
   have c:=z8i sq (h th[i] (cA hi)) (th:=th.drop (i+1)) (by simp;omega) fun x hx=>h x (List.mem_of_mem_drop hx)
   have tl:∀o:List Nat,D.lst (o.map nD)=thD o:=fun _=>rfl
   have c:z1F [z0E T,nD th[i],thD (th.drop (i+1))]=_:=c
   simp! only[y1d,tl,c]
   rfl]
  have e:(th.zipIdx.map fun z=>bD ((th.drop (z.2+1)).all fun j=>at2 T z.1 j))=(th.zipIdx.map fun z=>(th.drop (z.2+1)).all fun j=>at2 T z.1 j).map bD:=by rw[aV];rfl
  have e2:((th.zipIdx.map fun z=>(th.drop (z.2+1)).all fun j=>at2 T z.1 j).all fun b=>b)=z5Z T th:=by
   unfold z5Z
   rw[List.all_map,←x2d (T:=T) (th:=th) (k:=0) (pre:=[]) rfl]
   have:(!th.isEmpty)=true:=by simp[h0]
   rw[this]
   rfl
  simp! only[e,y6x,e2,z0b]
def btL(T:List (List Bool))(m:Nat)(th:List Nat):List Nat:=(ag m).filter fun a=>th.all fun j=>at2 T a j
theorem y0c{m:Nat}{T:List (List Bool)}(sq:Sq m T)(hm:m≤1000){th:List Nat}(hl:th.length≤1000)(h:∀x∈th,x<m):z2D [z0E T,thD th]=some (thD (btL T m th)):=by
 refine z0m rfl ?_
 simp! only[z8j,z5I,sq.1,z2r (show m≤1000000 by omega),z5C]
 rw[y1z (fun a=>th.all fun j=>at2 T a j) nD (by simp;omega) (fun a ha=>by
  have c:=z8i sq (am.mp ha) hl h
  simp! only[nD,c]) fun x hx _=>by simp! only[]]
 simp! only[z2A,z0b]
 rfl
theorem x1u{m:Nat}{T:List (List Bool)}(sq:Sq m T)(hm:m≤1000){th:List Nat}(hl:th.length≤1000)(h:∀x∈th,x<m):z6x [z0E T,thD th]=some (.bl (z5Z T th&&decide (((btL T m th).length:Int)=0))):=by
 refine z0m rfl ?_
 simp! only[y0L,y7C sq hl h,y0c sq hm hl h,z3S,z0b]
def z7f(T:List (List Bool)):Nat->List Nat->List Nat->List (List Nat)
 |0,_,_=>[]
 |_+1,c,[]=>[c]
 |n+1,c,x::f=>((x::f).map fun y=>z7f T n (c++[y]) ((x::f).filter fun z=>at2 T y z)).flatten
def fac:Nat->Nat
 |0=>1
 |n+1=>(n+1)*fac n
theorem x3d(n:Nat):fac n≤fac (n+1):=by
 show fac n≤(n+1)*fac n
 exact Nat.le_mul_of_pos_left _ (by omega)
theorem z7M{a b:Nat}(h:a≤b):fac a≤fac b:=by
 induction h with
 |refl=>exact ao _
 |step _ ih=>exact aG ih (x3d _)
theorem y5b{α:Type}{B:Nat}:∀{L:List (List α)},(∀l∈L,l.length≤B)->L.flatten.length≤L.length*B
 |[],_=>bg _
 |l::L,h=>by
  have ih:=y5b (L:=L) fun x hx=>h x (ad _ hx)
  have h1:=h l ac
  rw[dq,aC,aZ,Nat.succ_mul]
  omega
theorem y0v{T:List (List Bool)}{f:List Nat}{y:Nat}(hy:y∈f)(own:at2 T y y=false):(f.filter fun z=>at2 T y z).length<f.length:=by
 rw[List.length_filter_lt_length_iff_exists]
 exact⟨y,hy,by rw[own];exact aj⟩
theorem z7N{T:List (List Bool)}:∀{n:Nat} {c f:List Nat},(∀x∈f,at2 T x x=false)->(z7f T n c f).length≤fac f.length
 |0,_,f,_=>bg _
 |_+1,c,[],_=>ao _
 |n+1,c,x::f,own=>by
  have:∀l∈(x::f).map fun y=>z7f T n (c++[y]) ((x::f).filter fun z=>at2 T y z),l.length≤fac f.length:=fun l hl=>by
   obtain⟨y,hy,rfl⟩:=aN.mp hl
   refine aG (z7N fun z hz=>own z (ak.mp hz).1) (z7M ?_)
   have:=y0v hy (own y hy)
   rw[aZ]at this
   omega
  have:=y5b this
  rw[aq]at this
  exact this
theorem y6o{m:Nat}{T:List (List Bool)}(sq:Sq m T)(own:∀i<m,at2 T i i=false)(hm:m≤8):∀{n:Nat} {c f:List Nat},f.length<n->f.length≤8->c.length+f.length≤100->(∀x∈f,x<m)->z1q n [z0E T,thD c,thD f]=some (.lst ((z7f T n c f).map thD))
 |0,c,f,h,_,_,_=>absurd h (by omega)
 |n+1,c,[],h,h8,hc,hf=>by
  refine y6H rfl ?_
  have tr:z5V (thD [])=some false:=rfl
  simp_all! only[z2b,tr,z0b]
  rfl
 |n+1,c,x::f,h,h8,hc,hf=>by
  refine y6H rfl ?_
  obtain⟨F,hF⟩:∃F,F=x::f:=⟨_,rfl⟩
  have tr:z5V (thD F)=some true:=by rw[hF];rfl
  have e0:z7f T (n+1) c (x::f)=(F.map fun y=>z7f T n (c++[y]) (F.filter fun z=>at2 T y z)).flatten:=by rw[hF];rfl
  rw[e0]
  rw[←hF]at h h8 hc hf ⊢
  have nl:D.lst [] = .lst (([]:List (List Nat)).map thD):=rfl
  have ownF:∀x∈F,at2 T x x=false:=fun x hx=>own x (hf x hx)
  simp_all! only[z2b,tr,z2p,z2T]
  rw[nl]
  refine z0w (I:=fun s=>∃o1 o4,s=[some (.sh (z0E T)),o1,some (.sh (thD F)),some (.ow (.lst ((F.map fun y=>z7f T n (c++[y]) (F.filter fun z=>at2 T y z)).flatten.map thD))),o4]) ?_ ?_
  ·refine z1a (enc:=nD) (fun pre s=>∃o4,s=[some (.sh (z0E T)),some (.ow (thD c)),some (.sh (thD F)),some (.ow (.lst ((pre.map fun y=>z7f T n (c++[y]) (F.filter fun z=>at2 T y z)).flatten.map thD))),o4]) ⟨_,rfl⟩ ?_ fun s ⟨o4,e⟩=>⟨s,rfl,_,_,e⟩
   rintro pre y post e s ⟨o4,rfl⟩
   have hy:y∈F:=by rw[e];simp
   have t1:D.lst [.int (y:Int)]=thD [y]:=rfl
   have ct:=z5j (a:=c) (b:=[y]) (by simp;omega)
   have cx:z2l (some (F.map nD)) (z2k (z0z (d2 ixD (d2 ixD (z0d 0) (z0d 4)) (z0d 5))) (z0d 5) [some (z0E T),some (thD c),some (thD F),some (.lst ((pre.map fun y=>z7f T n (c++[y]) (F.filter fun z=>at2 T y z)).flatten.map thD)),some (.int (y:Int))])=some ((F.filter fun z=>at2 T y z).map nD):=
    y1z (fun z=>at2 T y z) nD (by omega) (fun z hz=>by
     simp! only[nD,ix2 sq (hf y hy) (hf z hz)]) fun z _ _=>by simp! only[]
   have fl:=y0v hy (ownF y hy)
   have ih:=y6o sq own hm (n:=n) (c:=c++[y]) (f:=F.filter fun z=>at2 T y z) (by omega) (by omega) (by simp;omega) fun z hz=>hf z (ak.mp hz).1
   have l1:(pre.map fun y=>z7f T n (c++[y]) (F.filter fun z=>at2 T y z)).flatten.length≤40320*8:=by
    refine aG (y5b (B:=40320) fun l hl=>?_) ?_
    ·obtain⟨z,hz,rfl⟩:=aN.mp hl
     refine aG (z7N fun q hq=>ownF q (ak.mp hq).1) ?_
     exact aG (z7M (show _≤8 from aG (aX _ _) h8)) (by decide)
    ·rw[aq]
     have:pre.length≤8:=by
      have:=congrArg List.length e
      simp at this
      omega
     exact aG (Nat.mul_le_mul_right _ this) (by decide)
   have l2:(z7f T n (c++[y]) (F.filter fun z=>at2 T y z)).length≤40320:=by
    refine aG (z7N fun q hq=>ownF q (ak.mp hq).1) ?_
    exact aG (z7M (show _≤8 from aG (aX _ _) h8)) (by decide)
   obtain⟨Y,hY⟩:∃Y,Y=z7f T n (c++[y]) (F.filter fun z=>at2 T y z):=⟨_,rfl⟩
   obtain⟨Z,hZ⟩:∃Z,Z=(pre.map fun y=>z7f T n (c++[y]) (F.filter fun z=>at2 T y z)).flatten:=⟨_,rfl⟩
   obtain⟨cy,hcy⟩:∃cy,cy=c++[y]:=⟨_,rfl⟩
   rw[←hcy]at ih ct
   rw[←hcy]at hY
   rw[←hcy]at l2
   rw[←hY]at ih l2
   rw[←hZ]at l1 cx ⊢
   have ex:extV (some (.lst (Z.map thD))) (some (.lst (Y.map thD)))=some (.lst ((Z++Y).map thD)):=by
    rw[eo_ext (by simp;omega),aS]
   have tl:∀W:List Nat,D.lst (W.map nD)=thD W:=fun _=>rfl
   simp! only[nD,t1,ct,z2A,tl,z2T,cx,ih,ex,z0b]
   have key:((pre++[y]).map fun y=>z7f T n (c++[y]) (F.filter fun z=>at2 T y z)).flatten=Z++Y:=by
    rw[aS,List.flatten_append,←hZ]
    congr 1
    show z7f T n (c++[y]) (F.filter fun z=>at2 T y z)++[]=Y
    rw[aH,hY,hcy]
   rw[key]
   exact⟨_,rfl⟩
  ·rintro s ⟨o1,o4,rfl⟩
   simp! only[z0b]
structure Ant(m:Nat)(T:List (List Bool)):Prop where
 sq:Sq m T
 own:∀i<m,at2 T i i=false
 ant:∀i<m,∀j<m,at2 T i j=true->at2 T j i=false
theorem z6z{T:List (List Bool)}{a:Nat}{r:List Nat}:chB T (a::r)=(r.all (fun j=>at2 T a j)&&chB T r):=rfl
theorem y1t{T:List (List Bool)}:∀{a b:List Nat},chB T (a++b)=(chB T a&&chB T b&&a.all fun x=>b.all fun y=>at2 T x y)
 |[],b=>by simp[chB]
 |x::a,b=>by
  have ih:=y1t (T:=T) (a:=a) (b:=b)
  rw[cW,z6z,z6z,List.all_append,ih,df]
  cases a.all (fun j=>at2 T x j) <;> cases b.all (fun j=>at2 T x j) <;> cases chB T a <;> cases chB T b <;> simp
theorem chB_iff{T:List (List Bool)}{th:List Nat}:chB T th=true↔th.Pairwise fun x y=>at2 T x y=true:=by
 induction th with
 |nil=>simp[chB]
 |cons a r ih=>rw[z6z,aM,ih,aP,aW]
theorem y0h{T:List (List Bool)}:∀{n:Nat} {c f e:List Nat},e∈z7f T n c f->∃q,e=c++q∧∀x∈q,x∈f
 |0,_,_,_,h=>nomatch h
 |_+1,c,[],e,h=>by
  have:e=c:=by simpa[z7f] using h
  exact⟨[],by simp[this],fun _ z=>nomatch z⟩
 |n+1,c,x::f,e,h=>by
  obtain⟨l,hl,he⟩:=cv.mp (show e∈((x::f).map fun y=>z7f T n (c++[y]) ((x::f).filter fun z=>at2 T y z)).flatten from h)
  obtain⟨y,hy,rfl⟩:=aN.mp hl
  obtain⟨q,rfl,hq⟩:=y0h he
  refine⟨y::q,by simp,fun z hz=>?_⟩
  rcases ah.mp hz with w | w
  ·rw[w];exact hy
  ·exact(ak.mp (hq z w)).1
theorem y6N{T:List (List Bool)}:∀{n:Nat} {c f r:List Nat},f.length<n->(∀x∈f,at2 T x x=false)->chB T (c++r)=true->(∀x∈r,x∈f)->(∀y∈f,∀x∈c,at2 T x y=true)->∃e∈z7f T n c f,(∀x∈c++r,x∈e)∧chB T e=true
 |0,_,_,_,h,_,_,_,_=>absurd h (by omega)
 |n+1,c,[],r,_,_,hc,hr,_=>by
  have:r=[]:=by
   cases r with
   |nil=>rfl
   |cons x r=>exact absurd (hr x ac) (by simp)
  subst this
  rw[aH]at hc ⊢
  exact⟨c,by simp[z7f],fun x hx=>hx,hc⟩
 |n+1,c,x::f,r,hn,own,hc,hr,hb=>by
  have go:∀(y:Nat) (r':List Nat),y∈x::f->chB T ((c++[y])++r')=true->(∀z∈r',z∈x::f)->∃e∈z7f T (n+1) c (x::f),(∀z∈(c++[y])++r',z∈e)∧chB T e=true:=fun y r' hy hc' hr'=>by
   have fl:=y0v hy (own y hy)
   have hyr:∀z∈r',at2 T y z=true:=fun z hz=>by
    rw[aK,y1t]at hc'
    have:=(av.mp (av.mp hc').1).2
    rw[List.singleton_append,z6z]at this
    exact aW.mp (av.mp this).1 z hz
   obtain⟨e,he,h1,h2⟩:=y6N (n:=n) (c:=c++[y]) (f:=(x::f).filter fun z=>at2 T y z) (r:=r') (by omega) (fun z hz=>own z (ak.mp hz).1) hc' (fun z hz=>ak.mpr ⟨hr' z hz,hyr z hz⟩) (fun z hz w hw=>by
    rcases au.mp hw with q | q
    ·exact hb z (ak.mp hz).1 w q
    ·rw[ai.mp q]
     have:=(ak.mp hz).2
     simpa using this)
   exact⟨e,cv.mpr ⟨_,aN.mpr ⟨y,hy,rfl⟩,he⟩,h1,h2⟩
  cases r with
  |nil=>
   rw[aH]at hc
   obtain⟨e,he,h1,h2⟩:=go x [] ac (by
    rw[aH,y1t,hc]
    rw[aM,aW]
    refine⟨by simp[chB],fun z hz=>?_⟩
    simp[hb x ac z hz]) (fun z hz=>nomatch hz)
   exact⟨e,he,fun z hz=>h1 z (by simp at hz ⊢;exact .inl hz),h2⟩
  |cons y r=>
   obtain⟨e,he,h1,h2⟩:=go y r (hr y ac) (by rw[aK];exact hc) fun z hz=>hr z (ad _ hz)
   exact⟨e,he,fun z hz=>h1 z (by rw[aK];exact hz),h2⟩
def insC(T:List (List Bool))(o:Nat)(c:List Nat):List Nat:=(c.filter fun x=>at2 T x o)++[o]++c.filter fun x=>at2 T o x
def y3t(T:List (List Bool))(a o:Nat)(found:List (List Nat)):List (List Nat):=if at2 T a o=true then found++(found.map (insC T o)).filter (z5Z T)else found
def hdL(T:List (List Bool))(a:Nat):Nat->List (List Nat)
 |0=>[[a]]
 |k+1=>y3t T a k (hdL T a k)
theorem hd_ok{m:Nat}{T:List (List Bool)}{a:Nat}(ha:a<m)(own:at2 T a a=false):∀{k:Nat},k≤m->∀c∈hdL T a k,chB T c=true∧(∃r,c=a::r)∧∀x∈c,x<m
 |0,_,c,hc=>by
  have:c=[a]:=by simpa[hdL] using hc
  subst this
  exact⟨by simp[chB],⟨[],rfl⟩,fun x hx=>by rw[ai.mp hx];exact ha⟩
 |k+1,hk,c,hc=>by
  have ih:=hd_ok (k:=k) ha own (by omega)
  have hc:c∈y3t T a k (hdL T a k):=hc
  unfold y3t at hc
  split at hc
  ·rename_i hak
   rcases au.mp hc with z | z
   ·exact ih c z
   ·obtain⟨hz,hch⟩:=ak.mp z
    obtain⟨c0,h0,rfl⟩:=aN.mp hz
    obtain⟨_,⟨r,rfl⟩,hlt⟩:=ih c0 h0
    refine⟨(av.mp hch).2,?_,fun x hx=>?_⟩
    ·unfold insC
     rw[bu,if_pos hak]
     exact⟨_,rfl⟩
    ·unfold insC at hx
     rcases au.mp hx with w | w
     ·rcases au.mp w with w | w
      ·exact hlt x (ak.mp w).1
      ·rw[ai.mp w];omega
     ·exact hlt x (ak.mp w).1
  ·exact ih c hc
theorem x5s{m:Nat}{T:List (List Bool)}(A:Ant m T){a:Nat}{r:List Nat}(hc:chB T (a::r)=true)(hlt:∀x∈a::r,x<m):∀{k:Nat},k≤m->(a::r.filter fun x=>decide (x<k))∈hdL T a k
 |0,_=>by
  have:(r.filter fun x=>decide (x<0))=[]:=by rw[bf];simp
  rw[this]
  simp[hdL]
 |k+1,hk=>by
  have ih:=x5s A hc hlt (k:=k) (by omega)
  have pw:=chB_iff.mp hc
  have nd:(a::r).Nodup:=pw.imp_of_mem fun {x y} hx hy z=>fun e=>by
   subst e
   rw[A.own x (hlt x hx)]at z
   cases z
  show _∈y3t T a k (hdL T a k)
  unfold y3t
  by_cases hkr:k∈r
  ·have hak:at2 T a k=true:=(aP.mp pw).1 k hkr
   rw[if_pos hak]
   refine aO _ (ak.mpr ⟨aN.mpr ⟨_,ih,?_⟩,?_⟩)
   ·obtain⟨p,q,rfl⟩:=cO hkr
    have pw2:=(aP.mp pw).2
    obtain⟨_,pq,pc⟩:=c6.mp pw2
    have hp:∀x∈p,at2 T x k=true:=fun x hx=>pc x hx k ac
    have hq:∀x∈q,at2 T k x=true:=fun x hx=>(aP.mp pq).1 x hx
    have km:k<m:=by omega
    have hp':∀x∈p,at2 T k x=false:=fun x hx=>A.ant x (hlt x (by simp[hx])) k km (hp x hx)
    have hq':∀x∈q,at2 T x k=false:=fun x hx=>A.ant k km x (hlt x (by simp[hx])) (hq x hx)
    have hka:at2 T k a=false:=A.ant a (hlt a ac) k km hak
    have nd2:=(ay.mp nd).2
    have nk:k∉p∧k∉q:=by
     obtain⟨_,n2,n3⟩:=bb.mp nd2
     exact⟨fun z=>n3 k z k ac rfl,(ay.mp n2).1⟩
    have f1:∀l:List Nat,k∉l->(l.filter fun x=>decide (x<k+1))=l.filter fun x=>decide (x<k):=fun l hl=>cR fun x hx=>by
     have:x≠k:=fun z=>hl (z ▸ hx)
     rw[decide_eq_decide]
     omega
    have e1:((p++k::q).filter fun x=>decide (x<k))=(p.filter fun x=>decide (x<k))++q.filter fun x=>decide (x<k):=by
     rw[ca,bu,if_neg (by simp)]
    have e2:((p++k::q).filter fun x=>decide (x<k+1))=(p.filter fun x=>decide (x<k))++k::q.filter fun x=>decide (x<k):=by
     rw[ca,bu,if_pos (by simp),f1 p nk.1,f1 q nk.2]
    rw[e1,e2]
    unfold insC
    have g1:((a::((p.filter fun x=>decide (x<k))++q.filter fun x=>decide (x<k))).filter fun x=>at2 T x k)=a::p.filter fun x=>decide (x<k):=by
     rw[bu,if_pos hak,ca]
     have h1:((p.filter fun x=>decide (x<k)).filter fun x=>at2 T x k)=p.filter fun x=>decide (x<k):=bZ.mpr fun x hx=>hp x (ak.mp hx).1
     have h2:((q.filter fun x=>decide (x<k)).filter fun x=>at2 T x k)=[]:=bf.mpr fun x hx=>by rw[hq' x (ak.mp hx).1];exact aj
     rw[h1,h2,aH]
    have g2:((a::((p.filter fun x=>decide (x<k))++q.filter fun x=>decide (x<k))).filter fun x=>at2 T k x)=q.filter fun x=>decide (x<k):=by
     rw[bu,if_neg (by rw[hka];exact aj),ca]
     have h1:((p.filter fun x=>decide (x<k)).filter fun x=>at2 T k x)=[]:=bf.mpr fun x hx=>by rw[hp' x (ak.mp hx).1];exact aj
     have h2:((q.filter fun x=>decide (x<k)).filter fun x=>at2 T k x)=q.filter fun x=>decide (x<k):=bZ.mpr fun x hx=>hq x (ak.mp hx).1
     rw[h1,h2,cJ]
    rw[g1,g2]
    simp
   ·refine av.mpr ⟨rfl,?_⟩
    rw[chB_iff]
    exact pw.sublist (List.Sublist.cons₂ a List.filter_sublist)
  ·have e:(r.filter fun x=>decide (x<k+1))=r.filter fun x=>decide (x<k):=cR fun x hx=>by
    have:x≠k:=fun z=>hkr (z ▸ hx)
    rw[decide_eq_decide]
    omega
   rw[e]
   split
   ·exact bc _ ih
   ·exact ih
theorem x5n{m:Nat}{T:List (List Bool)}(A:Ant m T){a:Nat}{r:List Nat}(hc:chB T (a::r)=true)(hlt:∀x∈a::r,x<m):(a::r)∈hdL T a m:=by
 have:=x5s A hc hlt (k:=m) (ao _)
 have e:(r.filter fun x=>decide (x<m))=r:=bZ.mpr fun x hx=>decide_eq_true (hlt x (ad _ hx))
 rwa [e]at this
def crP(T:List (List Bool))(m:Nat)(c:List Nat):Bool:=decide (((btL T m c).length:Int)=0)
def crB(T:List (List Bool))(m a:Nat):Bool:=(hdL T a m).any (crP T m)
def btN(T:List (List Bool))(m a:Nat):List Nat:=(ag m).filter fun j=>at2 T a j
theorem bt_nil{T:List (List Bool)}{m:Nat}{c:List Nat}:crP T m c=true↔∀x<m,∃y∈c,at2 T x y=false:=by
 unfold crP btL
 rw[decide_eq_true_iff]
 constructor
 ·intro h x hx
  have h:((ag m).filter fun a=>c.all fun j=>at2 T a j)=[]:=bL.mp (by omega)
  have:=bf.mp h x (am.mpr hx)
  rw[aW]at this
  by_cases hq:∃y∈c,at2 T x y=false
  ·exact hq
  ·exact absurd (fun y hy=>by
    cases e:at2 T x y with
    |true=>rfl
    |false=>exact absurd ⟨y,hy,e⟩ hq) this
 ·intro h
  have:((ag m).filter fun a=>c.all fun j=>at2 T a j)=[]:=bf.mpr fun x hx=>by
   obtain⟨y,hy,e⟩:=h x (am.mp hx)
   intro z
   rw[aW.mp z y hy]at e
   cases e
  rw[this]
  rfl
theorem cr_end{m:Nat}{T:List (List Bool)}(A:Ant m T){a n:Nat}(ha:a<m)(hn:m<n):((z7f T n [a] (btN T m a)).any fun e=>z5Z T e&&crP T m e)=crB T m a:=by
 have hlt:∀x∈btN T m a,x<m:=fun x hx=>am.mp (ak.mp hx).1
 rw[dP,bX]
 unfold crB
 rw[bX]
 constructor
 ·rintro⟨e,he,h⟩
  obtain⟨h1,h2⟩:=av.mp h
  obtain⟨q,rfl,hq⟩:=y0h he
  refine⟨[a]++q,x5n A (av.mp h1).2 fun x hx=>?_,h2⟩
  rcases ah.mp hx with z | z
  ·rw[z];exact ha
  ·exact hlt x (hq x z)
 ·rintro⟨c,hc,h⟩
  obtain⟨h1,⟨r,rfl⟩,h3⟩:=hd_ok ha (A.own a ha) (ao _) c hc
  have hbt:(btN T m a).length≤m:=aG (aX _ _) (by simp)
  have h1':(∀x∈r,at2 T a x=true):=aW.mp (av.mp (show(r.all (fun j=>at2 T a j)&&chB T r)=true from h1)).1
  obtain⟨e,he,g1,g2⟩:=y6N (T:=T) (n:=n) (c:=[a]) (f:=btN T m a) (r:=r) (by omega) (fun x hx=>A.own x (hlt x hx)) h1 (fun x hx=>ak.mpr ⟨am.mpr (h3 x (ad _ hx)),h1' x hx⟩) (fun y hy x hx=>by
   rw[ai.mp hx]
   have:=(ak.mp hy).2
   simpa using this)
  refine⟨e,he,av.mpr ⟨av.mpr ⟨?_,g2⟩,?_⟩⟩
  ·have:=g1 a (by simp)
   cases e with
   |nil=>cases this
   |cons _ _=>rfl
  ·rw[bt_nil]at h ⊢
   intro x hx
   obtain⟨y,hy,e'⟩:=h x hx
   exact⟨y,g1 y hy,e'⟩
theorem y5O{T:List (List Bool)}:∀{n:Nat} {c f e:List Nat},e∈z7f T n c f->chB T c=true->(∀y∈f,∀x∈c,at2 T x y=true)->chB T e=true
 |0,_,_,_,h,_,_=>nomatch h
 |_+1,c,[],e,h,hc,_=>by
  have:e=c:=by simpa[z7f] using h
  rw[this];exact hc
 |n+1,c,x::f,e,h,hc,hb=>by
  obtain⟨l,hl,he⟩:=cv.mp (show e∈((x::f).map fun y=>z7f T n (c++[y]) ((x::f).filter fun z=>at2 T y z)).flatten from h)
  obtain⟨y,hy,rfl⟩:=aN.mp hl
  refine y5O he ?_ fun z hz w hw=>?_
  ·rw[y1t,hc]
   rw[aM,aW]
   refine⟨by simp[chB],fun z hz=>?_⟩
   simp[hb y hy z hz]
  ·rcases au.mp hw with q | q
   ·exact hb z (ak.mp hz).1 w q
   ·rw[ai.mp q]
    have:=(ak.mp hz).2
    simpa using this
def y3y(T:List (List Bool))(m a:Nat):List (List Nat):=z7f T 12 [a] (btN T m a)
structure Ech(m:Nat)(T:List (List Bool))(a:Nat)(e:List Nat):Prop where
 ch:z5Z T e=true
 lt:∀x∈e,x<m
 len:e.length≤m
 hd:∃q,e=a::q
theorem y0i{m:Nat}{T:List (List Bool)}(A:Ant m T){a:Nat}(ha:a<m){e:List Nat}(he:e∈y3y T m a):Ech m T a e:=by
 obtain⟨q,rfl,hq⟩:=y0h he
 have hlt:∀x∈[a]++q,x<m:=fun x hx=>by
  rcases ah.mp hx with z | z
  ·rw[z];exact ha
  ·exact am.mp (ak.mp (hq x z)).1
 have hc:chB T ([a]++q)=true:=y5O he (by simp[chB]) fun y hy x hx=>by
  rw[ai.mp hx]
  have:=(ak.mp hy).2
  simpa using this
 have nd:([a]++q).Nodup:=(chB_iff.mp hc).imp_of_mem fun {x y} hx hy z=>fun e=>by
  subst e
  rw[A.own x (hlt x hx)]at z
  cases z
 exact⟨av.mpr ⟨rfl,hc⟩,hlt,by simpa using List.Nodup.length_le_of_subset nd fun x hx=>am.mpr (hlt x hx),q,rfl⟩
theorem x0B{T:List (List Bool)}{m a:Nat}:(btN T m a).length≤m:=aG (aX _ _) (by simp)
theorem x2V{m:Nat}{T:List (List Bool)}(A:Ant m T)(hm:m≤8){a:Nat}:(y3y T m a).length≤40320:=by
 refine aG (z7N fun x hx=>A.own x (am.mp (ak.mp hx).1)) ?_
 have:=x0B (T:=T) (m:=m) (a:=a)
 exact aG (z7M (show _≤8 by omega)) (by decide)
theorem x1B{m:Nat}{T:List (List Bool)}(A:Ant m T)(hm:m≤8){a:Nat}(ha:a<m):z1Y [z0E T,thD [a],thD (btN T m a)]=some (.lst ((y3y T m a).map thD)):=by
 have:=x0B (T:=T) (m:=m) (a:=a)
 exact y6o A.sq A.own hm (n:=12) (by omega) (by omega) (by simp;omega) fun x hx=>am.mp (ak.mp hx).1
def bpD(T:List (List Bool))(m:Nat)(c:List Nat):D:=.tup [thD c,nD ((btL T m c).headD 0)]
def x5d(T:List (List Bool))(m a:Nat):D:=match (y3y T m a).find? (crP T m)with
 |some c=>.tup [.str "chain",thD c]
 |none=>.tup [.str "beaten",.lst ((y3y T m a).map (bpD T m))]
theorem st_cr{m:Nat}{T:List (List Bool)}(A:Ant m T)(hm:m≤8){a:Nat}{c:List Nat}(h:Ech m T a c):z6x [z0E T,thD c]=some (.bl (crP T m c)):=by
 have h1:=h.len
 have:=x1u A.sq (by omega) (th:=c) (by omega) h.lt
 rw[h.ch,Bool.true_and]at this
 exact this
theorem y2M{α:Type}{p:α->Bool}:∀{l pre post:List α} {x:α},l=pre++x::post->(∀y∈pre,p y=false)->p x=true->l.find? p=some x
 |_,[],post,x,e,_,hx=>by rw[e,cJ,bG,hx]
 |_,y::pre,post,x,e,hp,hx=>by
  rw[e,cW,bG,hp y ac]
  exact y2M rfl (fun z hz=>hp z (ad _ hz)) hx
theorem y6s{m:Nat}{T:List (List Bool)}(A:Ant m T)(hm:m≤8){a:Nat}(ha:a<m):z2t [z0E T,.int (a:Int)]=some (x5d T m a):=by
 refine z0m rfl ?_
 have e1:=x1B A hm ha
 have e2:=y1V A.sq (by omega) ha
 have e2:z1H [z0E T,.int (a:Int)]=some (thD (btN T m a)):=e2
 have t1:D.lst [.int (a:Int)]=thD [a]:=rfl
 have f1:z7d (some [D.int (a:Int)])=some [D.int (a:Int)]:=rfl
 have l1:=x2V A hm (a:=a)
 have ok:∀c∈y3y T m a,Ech m T a c:=fun c hc=>y0i A ha hc
 unfold x5d
 obtain⟨E,hE⟩:∃E,E=y3y T m a:=⟨_,rfl⟩
 rw[←hE]at e1 l1 ok ⊢
 simp! only[z3D,f1,t1,e2,e1]
 refine y0d (I:=fun s=>∃o3,s=[some (.sh (z0E T)),some (.sh (.int (a:Int))),some (.sh (.lst (E.map thD))),o3]∧∀y∈E,crP T m y=false) ?_ ?_
 ·refine z1a (enc:=thD) (fun pre s=>∃o3,s=[some (.sh (z0E T)),some (.sh (.int (a:Int))),some (.sh (.lst (E.map thD))),o3]∧∀y∈pre,crP T m y=false) ⟨_,rfl,fun y hy=>by cases hy⟩ ?_ ?_
  ·rintro pre c post e s ⟨o3,rfl,hp⟩
   have hc:c∈E:=by rw[e];simp
   have st:=st_cr A hm (ok c hc)
   cases h:crP T m c with
   |true=>
    rw[h]at st
    rw[y2M e hp h]
    simp! only[st,z0b]
    exact .inr trivial
   |false=>
    rw[h]at st
    simp! only[st,z0b]
    refine⟨_,rfl,fun y hy=>?_⟩
    rcases au.mp hy with z | z
    ·exact hp y z
    ·rw[ai.mp z];exact h
  ·rintro s ⟨o3,rfl,hp⟩
   exact .inl ⟨_,rfl,_,rfl,hp⟩
 ·rintro s ⟨o3,rfl,hp⟩
  have hfn:E.find? (crP T m)=none:=e9.mpr fun y hy=>by rw[hp y hy];exact aj
  rw[hfn]
  have cx:z2l (some (E.map thD)) (z2k z6h (mkT (z0n [z0d 4,d2 ixD (z0j z2D [z0d 0,z0d 4]) (dC (.int 0))])) [some (z0E T),some (.int (a:Int)),some (.lst (E.map thD)),shO o3])=some (E.map (bpD T m)):=by
   rw[z4b (by rw[aq];omega)]
   refine z4X (bpD T m) fun c hc=>?_
   have h1:=(ok c hc).len
   have bt:=y0c A.sq (by omega) (th:=c) (by omega) (ok c hc).lt
   have hne:btL T m c≠[]:=fun z=>by
    have:=hp c hc
    unfold crP at this
    rw[z]at this
    simp at this
   have i0:ixD (thD (btL T m c)) (.int 0)=some (nD ((btL T m c).headD 0)):=by
    cases hb:btL T m c with
    |nil=>exact absurd hb hne
    |cons x w=>exact z5x (j:=0) rfl
   simp! only[bt,i0]
   rfl
  simp! only[cx,z0b]
theorem any_cr{m:Nat}{T:List (List Bool)}(A:Ant m T)(hm:m≤8){a:Nat}(ha:a<m):(y3y T m a).any (crP T m)=crB T m a:=by
 have h:=cr_end A ha (show m<12 by omega)
 have e:((z7f T 12 [a] (btN T m a)).any fun e=>z5Z T e&&crP T m e)=(y3y T m a).any (crP T m):=by
  show((y3y T m a).any fun e=>z5Z T e&&crP T m e)=_
  rw[dP,bX,bX]
  constructor
  ·rintro⟨c,hc,h⟩
   exact⟨c,hc,(av.mp h).2⟩
  ·rintro⟨c,hc,h⟩
   exact⟨c,hc,av.mpr ⟨(y0i A ha hc).ch,h⟩⟩
 rw[←e,h]
inductive Pap(T:List (List Bool))(m a:Nat):Prop
 |chain (c:List Nat):c∈y3y T m a->crP T m c=true->x5d T m a = .tup [.str "chain",thD c]->crB T m a=true->Pap T m a
 |beaten:(∀c∈y3y T m a,crP T m c=false)->x5d T m a = .tup [.str "beaten",.lst ((y3y T m a).map (bpD T m))]->crB T m a=false->Pap T m a
theorem pap_of{m:Nat}{T:List (List Bool)}(A:Ant m T)(hm:m≤8){a:Nat}(ha:a<m):Pap T m a:=by
 have h:=any_cr A hm ha
 cases hf:(y3y T m a).find? (crP T m)with
 |some c=>
  have h1:=List.mem_of_find?_eq_some hf
  have h2:=List.find?_some hf
  refine .chain c h1 h2 (by unfold x5d;rw[hf]) ?_
  rw[←h]
  exact bX.mpr ⟨c,h1,h2⟩
 |none=>
  have h1:=e9.mp hf
  refine .beaten (fun c hc=>by have:=h1 c hc;simpa using this) (by unfold x5d;rw[hf]) ?_
  rw[←h,dv]
  exact h1
theorem hd_ix{m:Nat}{T:List (List Bool)}{a:Nat}{e:List Nat}(h:Ech m T a e):ixD (thD e) (.int 0)=some (.int (a:Int)):=by
 obtain⟨q,rfl⟩:=h.hd
 exact ix0
theorem Full.ant{m:Nat}{T:List (List Bool)}(F:Full m T):Ant m T:=⟨F.sq,F.own,fun i hi j hj h=>by
 have hne:i≠j:=fun z=>by
  subst z
  rw[F.own i hi]at h
  cases h
 have:=F.two i hi j hj hne
 rw[h]at this
 cases e:at2 T j i with
 |false=>rfl
 |true=>rw[e]at this;cases this⟩
theorem z9F{T:List (List Bool)}:∀{c:List Nat},chB T c=true->z1u T c=c
 |[],_=>rfl
 |a::r,h=>by
  have h:=av.mp (show(r.all (fun j=>at2 T a j)&&chB T r)=true from h)
  have ih:=z9F h.2
  unfold z1u
  rw[ih,if_pos h.1]
theorem y1F{T:List (List Bool)}{c:List Nat}(hc:chB T c=true):∀{o:List Nat},(∀x∈o,∃y∈c,at2 T x y=false)->z1u T (o++c)=c
 |[],_=>z9F hc
 |x::o,h=>by
  have ih:=y1F hc (o:=o) fun y hy=>h y (ad _ hy)
  obtain⟨y,hy,e⟩:=h x ac
  rw[cW,z1u,ih,if_neg]
  intro z
  rw[aW.mp z y hy]at e
  cases e
def x4P(m:Nat)(c:List Nat):List Nat:=(ag m).filter fun x=>!c.contains x
theorem x2F{m:Nat}{c:List Nat}(nd:c.Nodup)(lt:∀x∈c,x<m):(x4P m c++c).Perm (ag m):=by
 refine(bE ?_ bK).mpr fun x=>?_
 ·refine bb.mpr ⟨List.nodup_range.filter _,nd,fun x hx y hy e=>?_⟩
  subst e
  have:=(ak.mp hx).2
  rw[ar.mpr hy]at this
  cases this
 ·rw[au,am]
  constructor
  ·rintro (h | h)
   ·exact am.mp (ak.mp h).1
   ·exact lt x h
  ·intro h
   by_cases hc:x∈c
   ·exact .inr hc
   ·refine .inl (ak.mpr ⟨am.mpr h,?_⟩)
    have:c.contains x=false:=by rw[←aR,ar];exact hc
    rw[this]
    rfl
theorem chB_nd{m:Nat}{T:List (List Bool)}(own:∀i<m,at2 T i i=false){c:List Nat}(hc:chB T c=true)(lt:∀x∈c,x<m):c.Nodup:=(chB_iff.mp hc).imp_of_mem fun {x y} hx hy z=>fun e=>by
 subst e
 rw[own x (lt x hx)]at z
 cases z
theorem k_bb:eqD (.str "beaten") (.str "beaten")=some (.bl true):=z3c (by decide +kernel) (by decide +kernel) (by decide +kernel)
theorem k_cb:eqD (.str "chain") (.str "beaten")=some (.bl false):=z3c (by decide +kernel) (by decide +kernel) (by decide +kernel)
theorem k_oo:eqD (.str "order") (.str "order")=some (.bl true):=z3c (by decide +kernel) (by decide +kernel) (by decide +kernel)
theorem k_bo:eqD (.str "beaten") (.str "order")=some (.bl false):=z3c (by decide +kernel) (by decide +kernel) (by decide +kernel)
theorem x3E{m:Nat}{T:List (List Bool)}(A:Ant m T)(hm:m≤8){a:Nat}(ha:a<m){c:List Nat}(hc:c∈y3y T m a)(hp:x5d T m a = .tup [.str "chain",thD c]):z3i [z0E T,.int (a:Int)]=some (.tup [.str "order",thD (x4P m c++c),thD c]):=by
 refine z0m rfl ?_
 have pe:=y6s A hm ha
 rw[hp]at pe
 have h:=y0i A ha hc
 have hl:=h.len
 have p0:ixD (.tup [.str "chain",thD c]) (.int 0)=some (.str "chain"):=rfl
 have p1:ixD (.tup [.str "chain",thD c]) (.int 1)=some (thD c):=rfl
 obtain⟨pd,hpd⟩:∃pd,pd=D.tup [.str "chain",thD c]:=⟨_,rfl⟩
 rw[←hpd]at p0 p1 pe
 have cx:∀d4:Option D,z2l (some (z9O 0 m)) (z2k (z0F (d2 y3B (z0d 5) (z0d 3))) (z0d 5) [some (z0E T),some (.int (a:Int)),some pd,some (thD c),d4])=some ((x4P m c).map nD):=fun d4=>by
  rw[z5C]
  exact y1z (fun x=>!c.contains x) nD (by simp;omega) (fun x hx=>by simp! only[nD,z5o]) fun x _ _=>by simp! only[]
 have tl:∀W:List Nat,D.lst (W.map nD)=thD W:=fun _=>rfl
 have ol:(x4P m c).length≤m:=by
  have:=aX (fun x=>!c.contains x) (ag m)
  rw[bx]at this
  exact this
 have ct:=z5j (a:=x4P m c) (b:=c) (by omega)
 simp! only[z5a,pe,p0,k_cb,p1,z5I,A.sq.1,z2r (show m≤1000000 by omega),cx,z2A,tl,ct,z0b]
theorem y8P{m:Nat}{T:List (List Bool)}(A:Ant m T)(hm:m≤8){a:Nat}(ha:a<m){Q:D}(hp:x5d T m a = .tup [.str "beaten",Q]):z3i [z0E T,.int (a:Int)]=some (.tup [.str "beaten",Q]):=by
 refine z0m rfl ?_
 have pe:=y6s A hm ha
 rw[hp]at pe
 have p0:ixD (.tup [.str "beaten",Q]) (.int 0)=some (.str "beaten"):=rfl
 obtain⟨pd,hpd⟩:∃pd,pd=D.tup [.str "beaten",Q]:=⟨_,rfl⟩
 rw[←hpd]at p0 pe ⊢
 simp! only[z5a,pe,p0,k_bb,z0b]
theorem x0Y{T:List (List Bool)}{s x:Nat}{o:List Nat}:z1l T s (x::o)=z1l T (if at2 T x s=true then x else s) o:=rfl
theorem y5N{m:Nat}{T:List (List Bool)}(F:Full m T){r0:List Nat}(hb:∀a∈r0,∀b<m,b∉r0->at2 T a b=true)(lt:∀a∈r0,a<m):∀{o:List Nat} {s:Nat},s<m->(∀x∈o,x<m)->(s∈r0∨∃x∈o,x∈r0)->z1l T s o∈r0
 |[],s,_,_,h=>h.elim id fun⟨_,z,_⟩=>nomatch z
 |x::o,s,hs,ho,h=>by
  have hx:=ho x ac
  rw[x0Y]
  refine y5N F hb lt (by split <;> assumption) (fun y hy=>ho y (ad _ hy)) ?_
  by_cases hsr:s∈r0
  ·refine .inl ?_
   split
   ·rename_i hxs
    by_cases hxr:x∈r0
    ·exact hxr
    ·exact(F.no hx hs hxs (hb s hsr x hx hxr)).elim
   ·exact hsr
  ·rcases h with h | ⟨y,hy,hyr⟩
   ·exact absurd h hsr
   ·rcases ah.mp hy with rfl | hy
    ·rw[if_pos (hb y hyr s hs hsr)]
     exact .inl hyr
    ·exact .inr ⟨y,hy,hyr⟩
theorem x0r{m:Nat}{T:List (List Bool)}(F:Full m T){r0:List Nat}{rest:List (List Nat)}(hr:rgL T m=r0::rest):(∀a∈r0,a<m)∧(∃a,a∈r0)∧∀a∈r0,∀b<m,b∉r0->at2 T a b=true:=by
 have R:=y1q (T:=T) (m:=m)
 obtain⟨a0,ha0,e0⟩:=(R.mem r0).mp (by rw[hr];exact ac)
 have lt:∀a∈r0,a<m:=fun a ha=>by
  rw[e0]at ha
  exact am.mp (ak.mp ha).1
 refine⟨lt,⟨a0,by rw[e0];exact ak.mpr ⟨am.mpr ha0,by simp⟩⟩,fun a ha b hb hn=>?_⟩
 have hin:cls m (fun a=>(rcL T m a).length) b∈rgL T m:=(R.mem _).mpr ⟨b,hb,rfl⟩
 have hbb:b∈cls m (fun a=>(rcL T m a).length) b:=ak.mpr ⟨am.mpr hb,by simp⟩
 rw[hr]at hin
 rcases ah.mp hin with z | z
 ·exact absurd (by rw[←z];exact hbb) hn
 ·have pw:=R.pw
  rw[hr]at pw
  have:=(aP.mp pw).1 _ z
  exact y2T F (lt a ha) hb (this.2.2 a ha b hbb)
theorem y2O{T:List (List Bool)}{a:Nat}{q:List Nat}(h:wk T a q){x0:Nat}{o:List Nat}(e:(a::q).reverse=x0::o):z1l T x0 o=a:=by
 have pre:∀{p post:List Nat},o=p++post->z1l T x0 p=lsN x0 p:=by
  intro p
  induction hn:p.length generalizing p with
  |zero=>intro post _;rw[bL.mp hn];rfl
  |succ n ih=>
   intro post eo
   have hne:p≠[]:=fun z=>by rw[z]at hn;cases hn
   obtain⟨p',x,rfl⟩:∃p' x,p=p'++[x]:=⟨p.dropLast,p.getLast hne,(dN hne).symm⟩
   have eo':o=p'++x::post:=by rw[eo];simp
   have i:=ih (p:=p') (by simpa using hn) eo'
   rw[z8D,i,if_pos (wk_back h e eo'),y5Q]
 rw[pre (post:=[]) (by simp),x3j e]
theorem y3x{T:List (List Bool)}{x:Nat}{r:List Nat}:z1u T (x::r)=if((z1u T r).all fun j=>at2 T x j)=true then x::z1u T r else z1u T r:=rfl
theorem y4l{T:List (List Bool)}:∀{o:List Nat},chB T (z1u T o)=true
 |[]=>rfl
 |x::r=>by
  rw[y3x]
  split
  ·rename_i h
   rw[z6z,h,y4l]
   rfl
  ·exact y4l
theorem y4V{T:List (List Bool)}:∀{o:List Nat},∀x∈o,at2 T x x=false->∃y∈z1u T o,at2 T x y=false
 |z::r,x,hx,own=>by
  rw[y3x]
  by_cases h:((z1u T r).all fun j=>at2 T z j)=true
  ·rw[if_pos h]
   rcases ah.mp hx with rfl | hx
   ·exact⟨x,ac,own⟩
   ·obtain⟨y,hy,e⟩:=y4V x hx own
    exact⟨y,ad _ hy,e⟩
  ·rw[if_neg h]
   rcases ah.mp hx with rfl | hx
   ·rw[aR]at h
    obtain⟨y,hy,e⟩:=List.all_eq_false.mp h
    exact⟨y,hy,by simpa using e⟩
   ·exact y4V x hx own
def y0w(T:List (List Bool)):List Nat->Nat
 |a::r=>z1l T a r
 |[]=>0
def kS(k:Nat):Str:=if k=0 then "plain" else if k=1 then "ahead" else "rest"
def y6B(T:List (List Bool))(k:Nat)(o:List Nat):Nat:=if k=0 then y0w T o else if k=1 then(z1u T o).headD 0 else y0w T o.reverse
noncomputable def z7K(T:List (List Bool))(m k a:Nat):Bool:=if k=1 then crB T m a else((rgL T m).headD []).contains a
section
variable{m:Nat}{T:List (List Bool)}
theorem led_eq(F:Full m T)(hm:m≤900)(h0:0<m){o:List Nat}(hp:o.Perm (ag m)){k:Nat}(hk:k<3):z1w [z0E T,.str (kS k),thD o]=some (.int (y6B T k o:Nat)):=by
 have hlen:=z1i hp
 have hk:k=0∨k=1∨k=2:=by omega
 rcases hk with rfl | rfl | rfl
 ·cases o with
  |nil=>simp at hlen;omega
  |cons a r=>
   show z1w [z0E T,.str "plain",thD (a::r)]=some (.int ((z1l T a r:Nat):Int))
   refine z0m rfl ?_
   simp! only[z3k,k_pp,x4o F.sq (z3s hp),z0b]
 ·have hne:z1u T o≠[]:=by
   cases o with
   |nil=>simp at hlen;omega
   |cons a r=>exact(z6b (T:=T) (r:=r) (a:=a)).1
  show z1w [z0E T,.str "ahead",thD o]=some (.int (((z1u T o).headD 0:Nat):Int))
  cases hc:z1u T o with
  |nil=>exact absurd hc hne
  |cons c r=>
   have b2:=x0L F.sq hm hp
   rw[hc]at b2
   refine z0m rfl ?_
   simp! only[z3k,k_ap,k_aa,b2,ix0,List.headD_cons,z0b]
 ·have hr2:o.reverse.Perm (ag m):=(dl o).trans hp
  show z1w [z0E T,.str "rest",thD o]=some (.int ((y0w T o.reverse:Nat):Int))
  cases hr:o.reverse with
  |nil=>rw[hr]at hr2;have:=z1i hr2;simp at this;omega
  |cons l q=>
   rw[hr]at hr2
   show z1w [z0E T,.str "rest",thD o]=some (.int ((z1l T l q:Nat):Int))
   have b2:=rest_eq F.sq hr (z3s hr2)
   refine z0m rfl ?_
   simp! only[z3k,k_rp,k_ra,b2,z0b]
theorem y2J(F:Full m T)(h0:0<m){o:List Nat}(hp:o.Perm (ag m)):y0w T o<m∧((rgL T m).headD []).contains (y0w T o)=true:=by
 obtain⟨r0,rest,hr⟩:=(y1q (T:=T) (m:=m)).cons h0
 obtain⟨lt,⟨a0,ha0⟩,hb⟩:=x0r F hr
 have hlen:=z1i hp
 cases o with
 |nil=>simp at hlen;omega
 |cons a r=>
  have pl:=z3s hp
  have h:=y5N F hb lt (pl a ac) (fun x hx=>pl x (ad _ hx)) (by
   have:a0∈a::r:=hp.mem_iff.mpr (am.mpr (lt a0 ha0))
   rcases ah.mp this with z | z
   ·exact .inl (by rw[←z];exact ha0)
   ·exact .inr ⟨a0,z,ha0⟩)
  refine⟨lt _ h,?_⟩
  rw[hr]
  exact ar.mpr h
theorem x4y(F:Full m T)(h0:0<m){o:List Nat}(hp:o.Perm (ag m)){k:Nat}(hk:k<3):y6B T k o<m∧z7K T m k (y6B T k o)=true:=by
 have hk:k=0∨k=1∨k=2:=by omega
 rcases hk with rfl | rfl | rfl
 ·exact y2J F h0 hp
 ·have hlen:=z1i hp
  have hne:z1u T o≠[]:=by
   cases o with
   |nil=>simp at hlen;omega
   |cons a r=>exact(z6b (T:=T) (r:=r) (a:=a)).1
  show(z1u T o).headD 0<m∧crB T m ((z1u T o).headD 0)=true
  have ch:=y4l (T:=T) (o:=o)
  have lt:∀x∈z1u T o,x<m:=fun x hx=>z3s hp x (chBk_sub.subset hx)
  have st:∀x<m,∃y∈z1u T o,at2 T x y=false:=fun x hx=>y4V x (hp.mem_iff.mpr (am.mpr hx)) (F.own x hx)
  cases hc:z1u T o with
  |nil=>exact absurd hc hne
  |cons c r=>
   rw[hc]at ch lt st
   refine⟨lt c ac,?_⟩
   unfold crB
   rw[bX]
   exact⟨c::r,x5n F.ant ch lt,bt_nil.mpr st⟩
 ·exact y2J F h0 ((dl o).trans hp)
end
theorem k_so:eqD (.str "shut") (.str "order")=some (.bl false):=z3c (by decide +kernel) (by decide +kernel) (by decide +kernel)
theorem y6y{m:Nat}{T:List (List Bool)}(F:Full m T)(h0:0<m)(hm:m≤8){k:Nat}(hk:k<3){a:Nat}(ha:a<m):
  ∃(P:D) (x:Str) (e:D),z0M [z0E T,.str (kS k),.int (a:Int)]=some (.val P)∧ixD P (.int 0)=some (.str x)∧eqD (.str x) (.str "order")=some (.bl (z7K T m k a)) ∧
   (z7K T m k a=true->ixD P (.int 1)=some e∧∃o:List Nat,e=thD o∧o.Perm (ag m)∧y6B T k o=a)∧(z7K T m k a=false->e = .non):=by
 obtain⟨r0,rest,hr⟩:=(y1q (T:=T) (m:=m)).cons h0
 have hd0:(rgL T m).headD []=r0:=by rw[hr];rfl
 have hk:k=0∨k=1∨k=2:=by omega
 rcases hk with rfl | rfl | rfl
 ·show ∃(P:D) (x:Str) (e:D),z0M [z0E T,.str "plain",.int (a:Int)]=some (.val P)∧ixD P (.int 0)=some (.str x)∧eqD (.str x) (.str "order")=some (.bl (((rgL T m).headD []).contains a))∧(((rgL T m).headD []).contains a=true->ixD P (.int 1)=some e∧∃o:List Nat,e=thD o∧o.Perm (ag m)∧y0w T o=a)∧(((rgL T m).headD []).contains a=false->e = .non)
  rw[hd0]
  by_cases h:a∈r0
  ·have hc:r0.contains a=true:=ar.mpr h
   obtain⟨q,e,w,p⟩:=x4h F (by omega) hr h
   rw[hc]
   refine⟨.tup [.str "order",thD (a::q).reverse], "order",thD (a::q).reverse,z2Y rfl ?_,rfl,k_oo,fun _=>⟨rfl,(a::q).reverse,rfl,(dl _).trans p,?_⟩,(fun z=>nomatch z)⟩
   ·simp! only[z1n,k_pp,e,z0b]
   ·cases hz:(a::q).reverse with
    |nil=>simp at hz
    |cons x0 o=>exact y2O w hz
  ·have hc:r0.contains a=false:=by rw[←aR,ar];exact h
   have e:=x0z F (by omega) hr h
   rw[hc]
   refine⟨.tup [.str "shut",thD r0], "shut",.non,z2Y rfl ?_,rfl,k_so,(fun z=>nomatch z),fun _=>rfl⟩
   simp! only[z1n,k_pp,e,z0b]
 ·show ∃(P:D) (x:Str) (e:D),z0M [z0E T,.str "ahead",.int (a:Int)]=some (.val P)∧ixD P (.int 0)=some (.str x)∧eqD (.str x) (.str "order")=some (.bl (crB T m a))∧(crB T m a=true->ixD P (.int 1)=some e∧∃o:List Nat,e=thD o∧o.Perm (ag m)∧(z1u T o).headD 0=a)∧(crB T m a=false->e = .non)
  have A:=F.ant
  cases pap_of A hm ha with
  |chain c hc hcr hp hcb=>
   have tc:=x3E A hm ha hc hp
   have h:=y0i A ha hc
   have ch:=(av.mp h.ch).2
   have pm:=x2F (chB_nd A.own ch h.lt) h.lt
   have ov:z1u T (x4P m c++c)=c:=y1F ch fun x hx=>bt_nil.mp hcr x (am.mp (ak.mp hx).1)
   rw[hcb]
   refine⟨.tup [.str "order",thD (x4P m c++c),thD c], "order",thD (x4P m c++c),z2Y rfl ?_,rfl,k_oo,fun _=>⟨rfl,_,rfl,pm,?_⟩,(fun z=>nomatch z)⟩
   ·simp! only[z1n,k_ap,k_aa,tc,z0b]
   ·rw[ov]
    have ix:=hd_ix h
    cases c with
    |nil=>cases ix
    |cons c0 r=>
     have ix:some (D.int (c0:Int))=some (.int (a:Int)):=by rw[←ix];exact(ix0 (c:=c0) (r:=r)).symm
     cases ix
     rfl
  |beaten hn hp hcb=>
   have tc:=y8P A hm ha hp
   rw[hcb]
   refine⟨.tup [.str "beaten",.lst ((y3y T m a).map (bpD T m))], "beaten",.non,z2Y rfl ?_,rfl,k_bo,(fun z=>nomatch z),fun _=>rfl⟩
   simp! only[z1n,k_ap,k_aa,tc,z0b]
 ·show ∃(P:D) (x:Str) (e:D),z0M [z0E T,.str "rest",.int (a:Int)]=some (.val P)∧ixD P (.int 0)=some (.str x)∧eqD (.str x) (.str "order")=some (.bl (((rgL T m).headD []).contains a))∧(((rgL T m).headD []).contains a=true->ixD P (.int 1)=some e∧∃o:List Nat,e=thD o∧o.Perm (ag m)∧y0w T o.reverse=a)∧(((rgL T m).headD []).contains a=false->e = .non)
  rw[hd0]
  by_cases h:a∈r0
  ·have hc:r0.contains a=true:=ar.mpr h
   obtain⟨q,e,w,p⟩:=rest_in F (by omega) hr h
   rw[hc]
   refine⟨.tup [.str "order",thD (a::q)], "order",thD (a::q),z2Y rfl ?_,rfl,k_oo,fun _=>⟨rfl,a::q,rfl,p,?_⟩,(fun z=>nomatch z)⟩
   ·simp! only[z1n,k_rp,k_ra,k_rr,e,z0b]
   ·cases hz:(a::q).reverse with
    |nil=>simp at hz
    |cons x0 o=>exact y2O w hz
  ·have hc:r0.contains a=false:=by rw[←aR,ar];exact h
   have e:=x2Y F (by omega) hr h
   rw[hc]
   refine⟨.tup [.str "shut",thD r0], "shut",.non,z2Y rfl ?_,rfl,k_so,(fun z=>nomatch z),fun _=>rfl⟩
   simp! only[z1n,k_rp,k_ra,k_rr,e,z0b]
section
variable{g h:SS->Option Out}{s:SS}{o:Out}
theorem alt_l(e:g s=some o):altO g h s=some o:=by unfold altO;rw[e]
end
def y6v(x:Nat)(o:List Nat):List (List Nat):=(ag (o.length+1)).map fun k=>o.take k++[x]++o.drop k
def y3C:Nat->List (List Nat)
 |0=>[[]]
 |n+1=>(y3C n).flatMap (y6v n)
theorem z7J:∀{n:Nat} {o:List Nat},o∈y3C n->o.Perm (ag n)
 |0,o,h=>by rw[ai.mp h];exact .refl _
 |n+1,o,h=>by
  obtain⟨p,hp,h2⟩:=List.mem_flatMap.mp h
  obtain⟨k,_,rfl⟩:=aN.mp h2
  have ih:=z7J hp
  rw[cI]
  have e:(p.take k++[n]++p.drop k).Perm (p++[n]):=by
   rw[aK]
   refine(List.perm_append_comm_assoc _ _ _).trans ?_
   rw[cr]
   exact bR
  exact e.trans (ih.append_right _)
theorem x1T:∀{n:Nat} {o:List Nat},o.Perm (ag n)->o∈y3C n
 |0,o,h=>by
  have:o=[]:=List.perm_nil.mp h
  rw[this];exact ai.mpr rfl
 |n+1,o,h=>by
  have hn:n∈o:=h.mem_iff.mpr (am.mpr (by omega))
  obtain⟨l,r,rfl⟩:=cO hn
  have pm:(l++r).Perm (ag n):=by
   rw[cI]at h
   have h2:(n::(l++r)).Perm (n::ag n):=dG.symm.trans (h.trans bR)
   exact(List.perm_cons n).mp h2
  refine List.mem_flatMap.mpr ⟨l++r,x1T pm,aN.mpr ⟨l.length,am.mpr (by simp;omega),?_⟩⟩
  simp
theorem y8J{n:Nat}(h:n≤5):(y3C n).length≤120:=by
 have:n=0∨n=1∨n=2∨n=3∨n=4∨n=5:=by omega
 rcases this with rfl | rfl | rfl | rfl | rfl | rfl <;> exact bT rfl
theorem x2G{k:Nat}{L:List (List Nat)}(h:∀o∈L,o.length=k):(L.flatMap (y6v k)).length=L.length*(k+1):=by
 induction L with
 |nil=>simp
 |cons o r ih=>
  rw[List.flatMap_cons,aC,ih fun o ho=>h o (ad _ ho),aZ,Nat.succ_mul]
  unfold y6v
  rw[aq,bx,h o ac]
  omega
theorem cut_dr{o:List Nat}{k:Nat}:y2S (some (thD o)) (some (some (k:Int))) (some none)=some ((o.drop k).map nD):=by
 show some (z7s (o.map nD) (some (k:Int)) none)=_
 rw[y1I,←cS]
theorem cut_tk{o:List Nat}{k:Nat}(h:k≤o.length):y2S (some (thD o)) (some none) (some (some (k:Int)))=some ((o.take k).map nD):=by
 show some (z7s (o.map nD) none (some (k:Int)))=_
 rw[z9d (by rw[aq];exact h),←b8]
theorem y7f{m:Nat}(hm:m≤5):z2q [.int (m:Int)]=some (.lst ((y3C m).map thD)):=by
 refine z0m rfl ?_
 have n0:D.lst [D.lst []] = .lst ((y3C 0).map thD):=rfl
 have fz:x2l 0 ([none,none,none]:SS)=[none,none,none]:=rfl
 simp! only[z3K,z2p,fz,n0,z2r (show m≤1000000 by omega)]
 refine z0w (I:=fun s=>∃o2 o3 o4 o5,s=[some (.sh (.int (m:Int))),some (.sh (.lst ((y3C m).map thD))),o2,o3,o4,o5]) ?_ ?_
 ·refine y0k (fun k s=>∃o2 o3 o4 o5,s=[some (.sh (.int (m:Int))),some (.sh (.lst ((y3C k).map thD))),o2,o3,o4,o5]) ⟨_,_,_,_,rfl⟩ ?_ fun s z=>⟨s,rfl,z⟩
  rintro k hk s ⟨o2,o3,o4,o5,rfl⟩
  rw[dF]
  obtain⟨L,hL⟩:∃L,L=y3C k:=⟨_,rfl⟩
  have hlen:∀o∈L,o.length=k:=fun o ho=>by rw[hL]at ho;exact z1i (z7J ho)
  have hLl:L.length≤120:=by rw[hL];exact y8J (by omega)
  have hs:y3C (k+1)=L.flatMap (y6v k):=by rw[hL];rfl
  rw[hs,←hL]
  have sq:y7w (.lst (L.map thD))=some (L.map thD):=rfl
  have e0:D.lst [] = .lst (([]:List (List Nat)).map thD):=rfl
  simp! only[z2p,sq]
  rw[e0]
  refine z0w (I:=fun s=>∃o4 o5,s=[some (.sh (.int (m:Int))),some (.sh (.lst (L.map thD))),some (.sh (.int (k:Int))),some (.ow (.lst ((L.flatMap (y6v k)).map thD))),o4,o5]) ?_ ?_
  ·refine z1a (enc:=thD) (fun pre s=>∃o4 o5,s=[some (.sh (.int (m:Int))),some (.sh (.lst (L.map thD))),some (.sh (.int (k:Int))),some (.ow (.lst ((pre.flatMap (y6v k)).map thD))),o4,o5]) ⟨_,_,rfl⟩ ?_ fun s z=>⟨s,rfl,z⟩
   rintro pre o post e s ⟨o4,o5,rfl⟩
   have ol:o.length=k:=hlen o (by rw[e];simp)
   have pl:(pre.flatMap (y6v k)).length=pre.length*(k+1):=x2G fun x hx=>hlen x (by rw[e];simp[hx])
   have ple:pre.length≤120:=by
    have:=congrArg List.length e
    rw[aC]at this
    omega
   have pb:(pre.flatMap (y6v k)).length≤720:=by
    rw[pl]
    exact aG (Nat.mul_le_mul ple (show k+1≤6 by omega)) (by omega)
   rw[List.flatMap_append]
   have e2:(pre.flatMap (y6v k))++[o].flatMap (y6v k)=(pre.flatMap (y6v k))++(ag (o.length+1)).map fun j=>o.take j++[k]++o.drop j:=by
    congr 1
    simp[y6v]
   rw[e2]
   obtain⟨P,hP⟩:∃P,P=pre.flatMap (y6v k):=⟨_,rfl⟩
   rw[←hP]at pb ⊢
   have ln:z3V [thD o]=some (.int (o.length:Int)):=z3S
   have rn:rng1 (some (.int ((o.length:Int)+1)))=some (z9O 0 (o.length+1)):=by
    have:=z2r (show o.length+1≤1000000 by omega)
    exact this
   simp! only[ln,rn]
   refine y0k (fun j s=>∃o5,s=[some (.sh (.int (m:Int))),some (.sh (.lst (L.map thD))),some (.sh (.int (k:Int))),some (.ow (.lst ((P++(ag j).map fun j=>o.take j++[k]++o.drop j).map thD))),some (.sh (thD o)),o5]) ⟨o5,by simp⟩ ?_ fun s ⟨o5,z⟩=>⟨_,_,z⟩
   rintro j hj s ⟨o5,rfl⟩
   rw[dF]
   have c1:=cut_tk (o:=o) (k:=j) (by omega)
   have c2:=cut_dr (o:=o) (k:=j)
   have t1:D.lst [.int (k:Int)]=thD [k]:=rfl
   have ct1:=z5j (a:=o.take j) (b:=[k]) (by simp;omega)
   have ct2:=z5j (a:=o.take j++[k]) (b:=o.drop j) (by simp;omega)
   have er:P++(ag (j+1)).map (fun j=>o.take j++[k]++o.drop j)=(P++(ag j).map fun j=>o.take j++[k]++o.drop j)++[o.take j++[k]++o.drop j]:=by rw[cI,aS,←aK];rfl
   rw[er]
   obtain⟨G,hG⟩:∃G,G=P++(ag j).map fun j=>o.take j++[k]++o.drop j:=⟨_,rfl⟩
   have gl:G.length≤1000000:=by rw[hG];simp;omega
   rw[←hG]
   obtain⟨W,hW⟩:∃W,W=o.take j++[k]++o.drop j:=⟨_,rfl⟩
   obtain⟨W1,hW1⟩:∃W1,W1=o.take j++[k]:=⟨_,rfl⟩
   rw[←hW1]at ct1 ct2
   rw[←hW1]at hW
   rw[←hW]at ct2
   rw[←hW1,←hW]
   have ap:=y0u (enc:=thD) (xs:=G) (x:=W) gl
   have tl:∀W:List Nat,D.lst (W.map nD)=thD W:=fun _=>rfl
   simp! only[c1,c2,t1,tl,ct1,ct2,z2A,ap,z0b]
   exact⟨_,rfl⟩
  ·rintro s ⟨o4,o5,rfl⟩
   obtain⟨R,hR⟩:∃R,R=(L.flatMap (y6v k)).map thD:=⟨_,rfl⟩
   rw[←hR]
   simp! only[z0b]
   exact⟨_,_,_,_,rfl⟩
 ·rintro s ⟨o2,o3,o4,o5,rfl⟩
  simp! only[z0b]
section
variable{m:Nat}{T:List (List Bool)}
theorem y4Z(F:Full m T)(h0:0<m)(hm:m≤8){k:Nat}(hk:k<3):∃E:Nat->D,z3O [z0E T,.str (kS k)]=some (.val (.lst ((ag m).map E)))∧∀a<m,isN (E a) = !z7K T m k a∧(z7K T m k a=true->∃o:List Nat,E a=thD o∧o.Perm (ag m)∧y6B T k o=a):=by
 have each:∀a:Nat,∃z:D×Str×D,a<m->(z0M [z0E T,.str (kS k),.int (a:Int)]=some (.val z.1)∧ixD z.1 (.int 0)=some (.str z.2.1)∧eqD (.str z.2.1) (.str "order")=some (.bl (z7K T m k a))∧(z7K T m k a=true->ixD z.1 (.int 1)=some z.2.2∧∃o:List Nat,z.2.2=thD o∧o.Perm (ag m)∧y6B T k o=a)∧(z7K T m k a=false->z.2.2 = .non)):=fun a=>by
  by_cases ha:a<m
  ·obtain⟨P,x,e,h1,h2,h3,h4,h5⟩:=y6y F h0 hm hk ha
   exact⟨(P,x,e),fun _=>⟨h1,h2,h3,h4,h5⟩⟩
  ·exact⟨(.non, "",.non),fun z=>absurd z ha⟩
 obtain⟨f,hf⟩:=Classical.skolem.mp each
 refine⟨fun a=>(f a).2.2,z2Y rfl ?_,fun a ha=>?_⟩
 ·have c1:z2l (some ((ag m).map nD)) (z2k z6h (z1Q z0M [(z0d 0),(z0d 1),(z0d 3)]) [some (z0E T),some (.str (kS k)),none])=some ((ag m).map fun a=>(f a).1):=z5h (enc:=nD) (fun a=>(f a).1) (by simp;omega) fun a ha=>by
   have h1:=(hf a (am.mp ha)).1
   simp! only[nD,h1]
  have c2:z2l (some ((ag m).map fun a=>(f a).1)) (z2k z6h (dIf (z0F (d2 eqD (d2 ixD (z0d 3) (dC (.int 0))) (dC (.str "order")))) (d2 ixD (z0d 3) (dC (.int 1))) (dC .non)) [some (z0E T),some (.str (kS k)),some (.lst ((ag m).map fun a=>(f a).1))])=some ((ag m).map fun a=>(f a).2.2):=z5h (enc:=fun a=>(f a).1) (fun a=>(f a).2.2) (by simp;omega) fun a ha=>by
   obtain⟨_,h2,h3,h4,h5⟩:=hf a (am.mp ha)
   obtain⟨L,hL⟩:∃L,L=D.lst ((ag m).map fun a=>(f a).1):=⟨_,rfl⟩
   rw[←hL]
   cases hh:z7K T m k a with
   |true=>
    rw[hh]at h3
    simp! only[h2,h3,(h4 hh).1]
   |false=>
    rw[hh]at h3
    simp! only[h2,h3,h5 hh]
  have a1:=alt_l (h:=exc1 (z4a (z0j z3V [(z0d 0)])) (z3g z0M [(z0d 0),(z0d 1),(z0d 3)])) (s:=[some (.sh (z0E T)),some (.sh (.str (kS k))),none]) (g:=z6B 2 (mkL (z1v (z4a (z0j z3V [(z0d 0)])) z6h (z1Q z0M [(z0d 0),(z0d 1),(z0d 3)])))) (o:=.nx [some (.sh (z0E T)),some (.sh (.str (kS k))),some (.sh (.lst ((ag m).map fun a=>(f a).1)))]) (by
   simp! only[show shO none=none from rfl,z5I,F.sq.1,z2r (show m≤1000000 by omega),z5C,c1])
  obtain⟨P,hP⟩:∃P,P=(ag m).map fun a=>(f a).1:=⟨_,rfl⟩
  rw[←hP]at a1 c2
  simp! only[z5Q,a1,c2,z0b]
 ·obtain⟨_,_,_,h4,h5⟩:=hf a ha
  cases hh:z7K T m k a with
  |true=>
   obtain⟨o,e,p,q⟩:=(h4 hh).2
   exact⟨by show isN (f a).2.2=false;rw[e];rfl,fun _=>⟨o,e,p,q⟩⟩
  |false=>exact⟨by show isN (f a).2.2=true;rw[h5 hh];rfl,fun z=>nomatch z⟩
theorem had_iff(F:Full m T)(h0:0<m)(hm:m≤8){k:Nat}(hk:k<3):(ag m).filter (fun a=>((y3C m).map (y6B T k)).contains a)=(ag m).filter (z7K T m k):=by
 refine cR fun a ha=>?_
 have ha:=am.mp ha
 cases hh:z7K T m k a with
 |true=>
  obtain⟨_,_,_,_,_,_,h4,_⟩:=y6y F h0 hm hk ha
  obtain⟨_,o,_,hp,e⟩:=h4 hh
  exact ar.mpr (aN.mpr ⟨o,x1T hp,e⟩)
 |false=>
  rw[←aR,ar]
  intro z
  obtain⟨o,ho,e⟩:=aN.mp z
  have:=(x4y F h0 (z7J ho) hk).2
  rw[e,hh]at this
  cases this
end
theorem y5r{x y:Int}(hab:x≠y):∀{bs:List (Int×List Int)},(∀b∈bs,x∈b.2∧y∈b.2)->z2g bs y x = -z2g bs x y
 |[],_=>rfl
 |b::bs,h=>by
  have ih:=y5r hab (bs:=bs) fun c hc=>h c (ad _ hc)
  obtain⟨h1,h2⟩:=h b ac
  have e:∀u v,z2g (b::bs) u v=(if ahd b.2 u v=true then b.1 else -b.1)+z2g bs u v:=fun u v=>rfl
  rw[e,e,ih,y4f h1 h2 hab]
  cases ahd b.2 x y <;> simp <;> omega
theorem y5k{m:Nat}{bs:List (Int×List Int)}{i j:Nat}(hi:i<m)(hj:j<m):at2 (z6l m bs) i j=(!decide (i=j)&&decide (0<z2g bs (i:Int) (j:Int))):=x1j hi hj
theorem y2m{m:Nat}{bs:List (Int×List Int)}(hg:∀b∈bs,Good m b)(ho:z3U bs % 2=1):Full m (z6l m bs):=by
 refine⟨tabL_sq,fun i hi=>by rw[y5k hi hi];simp,fun i hi j hj hij=>?_⟩
 have an:=y5r (x:=(j:Int)) (y:=(i:Int)) (by omega) (bs:=bs) fun b hb=>⟨(hg b hb).mem hj,(hg b hb).mem hi⟩
 have od:=y3T (a:=(j:Int)) (b:=(i:Int)) bs
 rw[y5k hi hj,y5k hj hi,decide_eq_false hij,decide_eq_false (Ne.symm hij),an]
 by_cases q:0<z2g bs (j:Int) (i:Int)
 ·rw[decide_eq_true q,decide_eq_false (by omega)];rfl
 ·rw[decide_eq_false q,decide_eq_true (by omega)];rfl
theorem st_votV{bs:List (Int×List Int)}{k:Nat}{c:Int×List Int}(h:k<bs.length):st0V (some (z1P bs)) (some (.int (k:Int))) (some (z2u c))=some (z1P (bs.set k c)):=by
 show(ixN (bs.map z2u).length (k:Int)).map (fun j=>D.lst ((bs.map z2u).set j (z2u c)))=_
 rw[ixN_of (by simpa using h),bN,←List.map_set]
 rfl
def iN(o:List Nat):List Int:=o.map fun n=>((n:Nat):Int)
theorem x1z{o:List Nat}{m:Nat}(h:o.Perm (ag m)):(iN o).Perm (x2m m):=h.map _
theorem y8B{o:List Nat}:tupF [thD o]=some (z9f (iN o)):=by
 show some (D.tup (o.map nD))=some (D.tup ((o.map _).map D.int))
 rw[aV]
 rfl
theorem y5B{b:Int×List Int}:y5d (some [z2u b])=some [z2u b]:=z7Y (z4N [b])
def Vg(m:Nat)(b:Int×List Int):Prop:=1≤b.1∧b.1≤10 ^ 30 - 1∧b.2.Perm (x2m m)
theorem y9u{m:Nat}(hm:m≤8)(ns:List Int)(hns:ns.length≤63):hol (z2N [.scr ns,.int (m:Int)]) fun d=>∃bs,d=z1P bs∧(∀b∈bs,Good m b)∧z3U bs % 2=1∧bs.length≤100:=by
 refine z7c rfl ?_
 obtain⟨cs,ec,hcl⟩:=x3b ns (some 3) (some 101)
 have p30:powI (.int 10) (.int 30)=some (.int (10 ^ 30)):=pow_lit 30 (by omega)
 obtain⟨X,eX⟩:∃a:Int,a=10 ^ 30:=⟨_,rfl⟩
 have gX:2≤X:=by rw[eX];decide
 rw[←eX]at p30
 obtain⟨c1,e1⟩:=y0r ns 1
 obtain⟨c2,e2⟩:=y0r ns 2
 have e1:z0s [.scr ns,.int 1]=some (.int c1):=e1
 have e2:z0s [.scr ns,.int 2]=some (.int c2):=e2
 have md:∀c:Int,∃r:Int,y2c (.int c) (.int (X - 1))=some (.int r)∧0≤r∧r≤X - 2:=fun c=>⟨_,z8q (by omega),Int.emod_nonneg _ (by omega),by have:=Int.emod_lt_of_pos c (show 0<X - 1 by omega);omega⟩
 have v0:D.lst []=z1P []:=rfl
 simp! only[z4g,z2p,v0,ec]
 refine z0w (I:=fun s=>∃bs o3,s=[some (.sh (.scr ns)),some (.sh (.int (m:Int))),some (.ow (z1P bs)),o3]∧(∀b∈bs,Vg m b)∧bs.length≤63) ?_ ?_
 ·refine z1a (enc:=D.int) (xs:=cs) (fun pre s=>∃bs o3,s=[some (.sh (.scr ns)),some (.sh (.int (m:Int))),some (.ow (z1P bs)),o3]∧(∀b∈bs,Vg m b)∧bs.length=pre.length) ⟨[],_,rfl,(fun b hb=>nomatch hb),rfl⟩ ?_ ?_
  ·rintro pre c post e s ⟨bs,o3,rfl,hg,hl⟩
   have hpl:pre.length≤63:=by
    have:=congrArg List.length e
    rw[aC]at this
    omega
   have d1:divI (.int c) (.int 40320)=some (.int (c / 40320)):=x5a ⟨by omega,by omega⟩
   have d2:y2c (.int c) (.int 40320)=some (.int (c % 40320)):=z8q (by omega)
   obtain⟨r,hr,r0,r1⟩:=md (c / 40320)
   obtain⟨_,eo,o,rfl,hp⟩:=z8A (c % 40320) m (by omega)
   obtain⟨b,hb⟩:∃b:Int×List Int,b=(1+r,iN o):=⟨_,rfl⟩
   have tb:D.tup [.int (1+r),z9f (iN o)]=z2u b:=by rw[hb];rfl
   have ap:=y6l (bs:=bs) (b:=b) (by omega)
   simp! only[d1,d2,p30,hr,eo,y8B,tb,y5B,ap,z0b]
   refine⟨bs++[b],_,rfl,fun x hx=>?_,by rw[aC,aC,hl];rfl⟩
   rcases au.mp hx with hx | hx
   ·exact hg x hx
   ·rw[ai.mp hx,hb];exact⟨by show 1≤1+r;omega,by show 1+r≤10 ^ 30 - 1;rw[←eX];omega,x1z hp⟩
  ·rintro s ⟨bs,o3,rfl,hg,hl⟩
   exact⟨_,rfl,bs,_,rfl,hg,by omega⟩
 rintro s ⟨bs,o3,rfl,hg,hl⟩
 have lv:∀bs:List (Int×List Int),z3V [z1P bs]=some (.int (bs.length:Int)):=fun bs=>by
  show some (D.int ((bs.map z2u).length:Int))=_
  rw[aq]
 obtain⟨r,hr,r0,r1⟩:=md c2
 obtain⟨_,eo,o,rfl,hp⟩:=z8A c1 m (by omega)
 have tb:D.tup [.int (1+r),z9f (iN o)]=z2u (1+r,iN o):=rfl
 have ap:=y6l (bs:=bs) (b:=(1+r,iN o)) (by omega)
 simp! only[lv,e1,e2,p30,hr,eo,y8B,tb,y5B,ap]
 refine z0w (I:=fun s=>∃bs o3,s=[some (.sh (.scr ns)),some (.sh (.int (m:Int))),some (.ow (z1P bs)),o3]∧(∀b∈bs,Vg m b)∧bs.length≤64∧0<bs.length) ?_ ?_
 ·by_cases h:bs.length=0
  ·have d0:decide ((bs.length:Int)=0)=true:=decide_eq_true (by omega)
   rw[d0]
   simp! only[z0b]
   refine⟨_,rfl,bs++[(1+r,iN o)],_,rfl,fun x hx=>?_,by simp;omega,by simp⟩
   rcases au.mp hx with hx | hx
   ·exact hg x hx
   ·rw[ai.mp hx];exact⟨by show 1≤1+r;omega,by show 1+r≤10 ^ 30 - 1;rw[←eX];omega,x1z hp⟩
  ·have d0:decide ((bs.length:Int)=0)=false:=decide_eq_false (by omega)
   rw[d0]
   simp! only[z0b]
   exact⟨_,rfl,bs,_,rfl,hg,by omega,by omega⟩
 clear hg hl ap
 rintro s ⟨bs,o3,rfl,hg,hl,h0⟩
 have cx:∀q,z2l (some (bs.map z2u)) (z2k z6h (d2 ixD (z0d 4) (dC (.int 0))) [some (.scr ns),some (.int (m:Int)),some (z1P bs),q])=some ((bs.map (·.1)).map .int):=fun q=>by
  rw[aV]
  exact z5h (enc:=z2u) (fun b=>.int b.1) (by omega) fun b _=>by simp! only[z8n]
 have m2:y2c (.int (bs.map (·.1)).sum) (.int 2)=some (.int (z3U bs % 2)):=z8q (by omega)
 cases bs with
 |nil=>exact absurd h0 (by decide)
 |cons b rs=>
  obtain⟨g1,g2,g3⟩:=hg b ac
  have x0:ixD (z1P (b::rs)) (.int 0)=some (z2u b):=y2X
  have b0:ixD (z2u b) (.int 0)=some (.int b.1):=z8n
  have b1:ixD (z2u b) (.int 1)=some (z9f b.2):=z5H
  have tb:D.tup [.int (b.1+1),z9f b.2]=z2u (b.1+1,b.2):=rfl
  have im:y5i (some (z2u (b.1+1,b.2)))=some (z2u (b.1+1,b.2)):=eo_imm (by
   have:=z4N [(b.1+1,b.2)]
   show(true&&((z9f b.2).imm&&true))=true
   rw[show(z9f b.2).imm=true from y1c b.2]
   rfl)
  have sv:st0V (some (z1P (b::rs))) (some (.int 0)) (some (z2u (b.1+1,b.2)))=some (z1P ((b.1+1,b.2)::rs)):=st_votV (bs:=b::rs) (k:=0) (c:=(b.1+1,b.2)) (by simp)
  obtain⟨V,hV⟩:∃V,V=b::rs:=⟨_,rfl⟩
  rw[←hV]at cx m2 x0 sv hg hl ⊢
  simp! only[z5M,cx,x5A,m2,x0,b0,b1,tb,im,sv]
  have gd:∀x,Vg m x->Good m x:=fun x h=>⟨h.1,by have:=h.2.1;omega,h.2.2⟩
  by_cases h:z3U V % 2=0
  ·rw[decide_eq_true h]
   simp! only[z0b]
   refine⟨_,rfl,_,rfl,fun x hx=>?_,?_,by rw[hV]at hl;simp at hl ⊢;omega⟩
   ·rcases ah.mp hx with rfl | hx
    ·exact⟨by show 1≤b.1+1;omega,by show b.1+1≤10 ^ 30;omega,g3⟩
    ·exact gd x (hg x (by rw[hV];exact ad _ hx))
   ·rw[hV]at h
    unfold z3U at h ⊢
    simp only[aF,cE]at h ⊢
    omega
  ·rw[decide_eq_false h]
   simp! only[z0b]
   exact⟨_,rfl,_,rfl,fun x hx=>gd x (hg x hx),by omega,by omega⟩
section
variable{m:Nat}{bs:List (Int×List Int)}
theorem x3o(hg:∀b∈bs,Good m b){x y:Nat}(hx:x<m)(hy:y<m):z2G [z1P bs,.int (x:Int),.int (y:Int)]=some (.int (z2g bs (x:Int) (y:Int))):=by
 refine z0m rfl ?_
 simp! only[z5k,z5M]
 refine z0w (I:=fun s=>∃o4,s=[some (.sh (z1P bs)),some (.sh (.int (x:Int))),some (.sh (.int (y:Int))),some (.sh (.int (z2g bs (x:Int) (y:Int)))),o4]) ?_ ?_
 ·refine z1a (fun pre s=>∃o4,s=[some (.sh (z1P bs)),some (.sh (.int (x:Int))),some (.sh (.int (y:Int))),some (.sh (.int (z2g pre (x:Int) (y:Int)))),o4]) ⟨_,rfl⟩ ?_ fun s z=>⟨s,rfl,z⟩
  rintro pre b post e s ⟨o4,rfl⟩
  have hb:b∈bs:=by rw[e];simp
  have mx:=(hg b hb).mem hx
  have my:=(hg b hb).mem hy
  have e3:z2g (pre++[b]) (x:Int) (y:Int)=z2g pre (x:Int) (y:Int)+(if ahd b.2 (x:Int) (y:Int)=true then b.1 else -b.1):=by simp[z2g]
  have e4:decide (((plc b.2 (x:Int):Nat):Int)<((plc b.2 (y:Int):Nat):Int))=ahd b.2 (x:Int) (y:Int):=by unfold ahd;exact decide_eq_decide.mpr (by omega)
  cases ha:ahd b.2 (x:Int) (y:Int)with
  |true=>
   rw[ha,if_pos rfl]at e3
   rw[ha]at e4
   simp! only[z8n,z5H,z6K mx,z6K my,e4,z0b]
   exact⟨_,by rw[e3]⟩
  |false=>
   rw[ha,if_neg aj]at e3
   rw[ha]at e4
   simp! only[z8n,z5H,z6K mx,z6K my,e4,z0b]
   exact⟨_,by rw[e3];rfl⟩
 ·rintro s ⟨o4,rfl⟩
  simp! only[z0b]
theorem x2Q(hm:m≤8)(hg:∀b∈bs,Good m b):z2V [z1P bs,.int (m:Int)]=some (z0E (z6l m bs)):=by
 refine z0m rfl ?_
 have rg:=z2r (show m≤1000000 by omega)
 have t0:D.lst [] = .lst (([]:List (List Bool)).map z9z):=rfl
 simp! only[z3Z,z2p,rg,t0]
 refine z0w (I:=fun s=>∃o3,s=[some (.sh (z1P bs)),some (.sh (.int (m:Int))),some (.ow (z0E (z6l m bs))),o3]) ?_ ?_
 ·refine y0k (fun k s=>∃o3,s=[some (.sh (z1P bs)),some (.sh (.int (m:Int))),some (.ow (.lst (((ag k).map fun(i:Nat)=>(ag m).map fun(j:Nat)=>!decide (i=j)&&decide (0<z2g bs (i:Int) (j:Int))).map z9z))),o3]) ⟨_,rfl⟩ ?_ ?_
  ·rintro i hi s ⟨o3,rfl⟩
   have zi:(0:Int)+(i:Int)=(i:Int):=by omega
   obtain⟨G,hG⟩:∃G,G=(ag i).map fun(i:Nat)=>(ag m).map fun(j:Nat)=>!decide (i=j)&&decide (0<z2g bs (i:Int) (j:Int)):=⟨_,rfl⟩
   obtain⟨r,hr⟩:∃r,r=(ag m).map fun(j:Nat)=>!decide (i=j)&&decide (0<z2g bs (i:Int) (j:Int)):=⟨_,rfl⟩
   have cx:∀p q,z2l (some (z9O 0 m)) (z2k z6h (y9t (d2 neD (z0d 3) (z0d 4)) (d2 gtI (z0j z2G [(z0d 0),(z0d 3),(z0d 4)]) (dC (.int 0)))) [some (z1P bs),p,q,some (.int (i:Int))])=some (r.map bD):=fun p q=>by
    rw[z5C,hr,aV]
    refine z5h (enc:=nD) (xs:=ag m) (fun j=>bD (!decide (i=j)&&decide (0<z2g bs (i:Int) (j:Int)))) (by simp;omega) fun j hj=>?_
    have l:=x3o hg hi (am.mp hj)
    by_cases h:i=j
    ·subst h
     simp_all! only[nD,bD]
    ·have d:decide ((i:Int)=(j:Int))=false:=decide_eq_false (by omega)
     have d':decide (i=j)=false:=decide_eq_false h
     simp_all! only[nD,bD,d,d',l]
   have fl:=z5N (z5p r)
   have rl:D.lst (r.map bD)=z9z r:=rfl
   have gl:G.length≤1000000:=by rw[hG];simp;omega
   have ap:=y0u (enc:=z9z) (xs:=G) (x:=r) gl
   rw[←hG]
   have er:(ag (i+1)).map (fun(i:Nat)=>(ag m).map fun(j:Nat)=>!decide (i=j)&&decide (0<z2g bs (i:Int) (j:Int)))=G++[r]:=by
    rw[cI,aS,←hG,hr]
    rfl
   rw[er]
   simp! only[zi,rg,cx,fl,rl,ap,z0b]
   exact⟨_,rfl⟩
  ·rintro s ⟨o3,rfl⟩
   refine⟨_,rfl,o3,?_⟩
   unfold z0E z6l y3E
   rfl
 ·rintro s ⟨o3,rfl⟩
  simp! only[z0b]
theorem lend_eq(hm:m≤8)(h0:0<m)(hl:bs.length≤1000)(hg:∀b∈bs,Good m b)(ho:z3U bs % 2=1){k:Nat}(hk:k<3){o:List Nat}(hp:o.Perm (ag m)):z1V [z1P bs,.int (m:Int),z0E (z6l m bs),.str (kS k),thD o]=some (.int (y6B (z6l m bs) k o:Nat)):=by
 have F:=y2m hg ho
 have hlen:=z1i hp
 have lt:=z3s hp
 have nd:o.Nodup:=hp.nodup_iff.mpr bK
 cases o with
 |nil=>simp at hlen;omega
 |cons a r=>
  have rl:r.length+1=m:=by simpa using hlen
  have st:=streeX (m:=m) (by omega) hp
  have hk:k=0∨k=1∨k=2:=by omega
  rcases hk with rfl | rfl | rfl
  ·show z1V [z1P bs,.int (m:Int),z0E (z6l m bs),.str "plain",thD (a::r)]=some (.int ((z1l (z6l m bs) a r:Nat):Int))
   refine z0m rfl ?_
   rw[x0e hg ho lt nd]
   simp! only[z3m,k_pp,st,y3H hm hl hg ho lt nd,z0b]
  ·show z1V [z1P bs,.int (m:Int),z0E (z6l m bs),.str "ahead",thD (a::r)]=some (.int (((z1u (z6l m bs) (a::r)).headD 0:Nat):Int))
   refine z0m rfl ?_
   have eh:=y1m F lt nd
   have e2:(z1u (z6l m bs) (a::r)).headD 0=z9l (z6l m bs) (stT a r):=by
    cases hc:z1u (z6l m bs) (a::r)with
    |nil=>rw[hc]at eh;cases eh
    |cons c q=>rw[hc]at eh;exact Option.some.inj eh
   have ae:=x2w (T:=z6l m bs) F.sq (t:=stT a r) (by rw[z6L];omega) (by
    rw[z7k]
    have:r.length≤7:=by omega
    exact aG (c8 (by decide) this) (by decide)) fun x hx=>lt x (z4k hx)
   rw[e2]
   simp! only[z3m,k_ap,k_aa,st,ae,z0b]
  ·show z1V [z1P bs,.int (m:Int),z0E (z6l m bs),.str "rest",thD (a::r)]=some (.int ((y0w (z6l m bs) (a::r).reverse:Nat):Int))
   refine z0m rfl ?_
   obtain⟨l,q,e1,e2⟩:=y5o F lt nd
   have re:=x3D (m:=m) (by omega) hp
   have ae:=y9x (T:=z6l m bs) F.sq (by omega) (r:=r) (a:=a) (by omega) lt
   have e3:y0w (z6l m bs) (l::q)=y5J (z6l m bs) a r:=e2.symm
   rw[e1,e3]
   simp! only[z3m,k_rp,k_ra,re,ae,z0b]
end
section
variable{m:Nat}{T:List (List Bool)}
theorem had_at(F:Full m T)(h0:0<m)(hm:m≤8){k:Nat}(hk:k<3){a:Nat}(ha:a<m):((y3C m).map (y6B T k)).contains a=z7K T m k a:=by
 have h:=had_iff F h0 hm hk
 have e:a∈(ag m).filter (fun a=>((y3C m).map (y6B T k)).contains a)↔a∈(ag m).filter (z7K T m k):=by rw[h]
 rw[ak,ak,am]at e
 rw[dP]
 exact⟨fun z=>(e.mp ⟨ha,z⟩).2,fun z=>(e.mpr ⟨ha,z⟩).2⟩
theorem best_eq(F:Full m T)(h0:0<m)(hm:m≤8){k:Nat}(hk:k<3){w:List Nat}(hp:w.Perm (ag m)):∃b q o,z4K [z0E T,.str (kS k),thD w]=some (.tup [.int ((b:Nat):Int),thD o])∧w.filter (z7K T m k)=b::q∧o.Perm (ag m)∧y6B T k o=b:=by
 obtain⟨E,e1,e2⟩:=y4Z F h0 hm hk
 have lt:=z3s hp
 obtain⟨b,q,hb⟩:∃b q,w.filter (z7K T m k)=b::q:=by
  cases hf:w.filter (z7K T m k)with
  |cons b q=>exact⟨b,q,rfl⟩
  |nil=>
   obtain⟨h1,h2⟩:=x4y F h0 hp hk
   have:y6B T k w∈w.filter (z7K T m k):=ak.mpr ⟨hp.mem_iff.mpr (am.mpr h1),h2⟩
   rw[hf]at this
   cases this
 have hbm:b∈w.filter (z7K T m k):=by rw[hb];exact ac
 have hbw:=ak.mp hbm
 have hbl:=lt b hbw.1
 obtain⟨o,eo,po,lo⟩:=(e2 b hbl).2 hbw.2
 refine⟨b,q,o,?_,hb,po,lo⟩
 refine z0m rfl ?_
 have ix:∀a<m,ixD (.lst ((ag m).map E)) (.int (a:Int))=some (E a):=fun a ha=>by
  show atI _ _=_
  exact z5x (by rw[aJ,cM ha];rfl)
 have oa:=y0F (m:=m) (by omega) h0 hp
 have ln:z3V [z0E T]=some (.int (m:Int)):=by rw[z5I,F.sq.1]
 obtain⟨L,hL⟩:∃L,L=(ag m).map E:=⟨_,rfl⟩
 rw[←hL]at e1 ix
 have wl:w.length≤1000:=by have:=z1i hp;omega
 have sw:y7w (thD w)=some (w.map nD):=rfl
 have cx:∀p,z2l (some (w.map nD)) (z2k (y8T (d2 ixD (z0d 3) (z0d 5))) (z0d 5) [some (z0E T),some (.str (kS k)),some (thD w),some (.lst L),p])=some ((w.filter (z7K T m k)).map nD):=fun p=>by
  refine y1z (enc:=nD) (xs:=w) (z7K T m k) nD wl (fun x hx=>?_) fun x _ _=>by simp! only[]
  have hx:=lt x hx
  have en:=(e2 x hx).1
  simp! only[nD,ix x hx]
  rw[en,Bool.not_not]
 rw[hb]at cx
 have a0:atI ((b::q).map nD) 0=some (.int (b:Int)):=by rw[aF];exact y2X
 obtain⟨Q,hQ⟩:∃Q,Q=(b::q).map nD:=⟨_,rfl⟩
 rw[←hQ]at cx a0
 have ib:=ix b hbl
 rw[eo]at ib
 simp! only[z6G,e1,ln,oa,sw,cx,a0,ib,z0b]
end
theorem law_true(ns:List Int)(hns:ns.length≤63):y7S [.scr ns]=some (.bl true):=by
 refine z0m rfl ?_
 obtain⟨c0,e0⟩:=y0r ns 0
 have e0:z0s [.scr ns,.int 0]=some (.int c0):=e0
 obtain⟨c2,e2⟩:=y0r ns 2
 have e2:z0s [.scr ns,.int 2]=some (.int c2):=e2
 obtain⟨a,ea,ha⟩:=y8t (x:=c0) (n:=5) (by omega)
 have m5:y2c (.int c0) (.int 5)=some (.int (a:Int)):=by rw[z8q (by omega)];exact congrArg _ (congrArg _ ea)
 obtain⟨m,hm⟩:∃m:Nat,m=1+a:=⟨_,rfl⟩
 have mm:1+(a:Int)=(m:Int):=by omega
 have h0:0<m:=by omega
 have hm5:m≤5:=by omega
 obtain⟨_,ev,bs,rfl,hg,ho,hl⟩:=y9u (m:=m) (by omega) ns hns
 have le:=x2Q (m:=m) (bs:=bs) (by omega) hg
 have te:=y7L (m:=m) (by omega) (bs:=bs) (by omega) hg ho
 have F:=y2m hg ho
 have lo:=fun(k:Nat) (hk:k<3) (o:List Nat) (hp:o.Perm (ag m))=>lend_eq (m:=m) (bs:=bs) (by omega) h0 (by omega) hg ho hk hp
 obtain⟨T,hT⟩:∃T,T=z6l m bs:=⟨_,rfl⟩
 rw[←hT]at le te F lo
 have li:z9i [z1P bs]=some (bs.map z2u):=rfl
 have tv:D.lst (bs.map z2u)=z1P bs:=rfl
 have nt:neD (z0E T) (z0E T)=some (.bl false):=x1w (okN_tab T) (by omega)
 obtain⟨_,ew,w,rfl,hp⟩:=z8A c2 m (by omega)
 have os:=y7f hm5
 have ol:=y8J hm5
 simp! only[g_law,e0,m5,mm,ev,le,li,tv,te,nt,e2,ew,os]
 obtain⟨L,hL⟩:∃L,L=(y3C m).map thD:=⟨_,rfl⟩
 rw[←hL]
 have ks:([D.str "plain",.str "ahead",.str "rest"]:List D)=(ag 3).map fun k=>.str (kS k):=rfl
 obtain⟨K,hK⟩:∃K,K=([D.str "plain",.str "ahead",.str "rest"]:List D):=⟨_,rfl⟩
 rw[←hK]
 rw[←hK]at ks
 rw[ks]
 refine z0w (I:=fun s=>∃o6 o7 o8,s=[some (.sh (.scr ns)),some (.sh (.int (m:Int))),some (.sh (z1P bs)),some (.sh (z0E T)),some (.sh (thD w)),some (.sh (.lst L)),o6,o7,o8]) ?_ ?_
 ·refine z1a (enc:=fun k=>D.str (kS k)) (xs:=ag 3) (fun _ s=>∃o6 o7 o8,s=[some (.sh (.scr ns)),some (.sh (.int (m:Int))),some (.sh (z1P bs)),some (.sh (z0E T)),some (.sh (thD w)),some (.sh (.lst L)),o6,o7,o8]) ⟨_,_,_,rfl⟩ ?_ fun s z=>⟨s,rfl,z⟩
  rintro pre k post ek s ⟨o6,o7,o8,rfl⟩
  have hk:k<3:=by
   have:k∈ag 3:=by rw[ek];simp
   exact am.mp this
  obtain⟨b,q,o,be,hf,po,bo⟩:=best_eq F h0 (show m≤8 by omega) hk hp
  have le:=lo k hk o po
  rw[bo]at le
  have lw:∀o:List Nat,z9i [thD o]=some (o.map nD):=fun _=>rfl
  have tl:∀o:List Nat,D.lst (o.map nD)=thD o:=fun _=>rfl
  have i0:atI [D.int (b:Int),thD o] 0=some (.int (b:Int)):=rfl
  have i1:atI [D.int (b:Int),thD o] 1=some (thD o):=rfl
  have nb:neD (.int (b:Int)) (.int (b:Int))=some (.bl false):=x1w x1N (by omega)
  obtain⟨es,hes⟩:∃es,es=(y3C m).map (y6B T k):=⟨_,rfl⟩
  have c1:∀p7 p8,z2l (some L) (z2k z6h (z0j z1w [(z0d 3),(z0d 6),(z0d 9)]) [some (.scr ns),some (.int (m:Int)),some (z1P bs),some (z0E T),some (thD w),some (.lst L),some (.str (kS k)),p7,p8])=some (es.map nD):=fun p7 p8=>by
   obtain⟨Z,hZ⟩:∃Z,Z=D.lst L:=⟨_,rfl⟩
   rw[←hZ,hL,hes,aV]
   refine z5h (enc:=thD) (xs:=y3C m) (fun o=>nD (y6B T k o)) (by omega) fun o ho=>?_
   have l:=led_eq F (show m≤900 by omega) h0 (z7J ho) hk
   simp! only[l]
   rfl
  have c2:∀p7,z2l (some (w.map nD)) (z2k (z0F (d2 inD (z0d 9) (z0d 8))) (z0d 9) [some (.scr ns),some (.int (m:Int)),some (z1P bs),some (z0E T),some (thD w),some (.lst L),some (.str (kS k)),p7,some (thD es)])=some ((w.filter (z7K T m k)).map nD):=fun p7=>by
   refine y1z (enc:=nD) (xs:=w) (z7K T m k) nD (by have:=z1i hp;omega) (fun x hx=>?_) fun x _ _=>by simp! only[]
   have ct:=had_at F h0 (show m≤8 by omega) hk (z3s hp x hx)
   rw[←hes]at ct
   simp! only[nD,x4K,ct]
  rw[hf]at c2
  have a0:atI ((b::q).map nD) 0=some (.int (b:Int)):=by rw[aF];exact y2X
  obtain⟨Q,hQ⟩:∃Q,Q=(b::q).map nD:=⟨_,rfl⟩
  rw[←hQ]at c2 a0
  have sw:∀o:List Nat,y7w (thD o)=some (o.map nD):=fun _=>rfl
  simp_all! only[li,tv,te,lw,tl,be,i0,i1,le,nb,sw,c1,c2,a0,z0b]
  exact⟨_,_,_,rfl⟩
 ·rintro s ⟨o6,o7,o8,rfl⟩
  simp! only[z0b]
end Prg
open PySem PySem.W PyProof.Rows
set_option maxRecDepth 100000 in
set_option maxHeartbeats 0 in
theorem PySem.Challenge.cw_askorder_k48_whole_chair_from_votes_holds : PySem.Challenge.rw_askorder_k48_whole_chair_from_votes.Holds := by
 w_on;o_law;k_head;(case hw=>w_witness2)
 k_fill
 refine Prg.walk (l:=PySem.Challenge.rw_askorder_k48_whole_chair_from_votes) rfl rfl Prg.law_true (fun w h Y=>PySem.W.kIn_of Y) ?F
 case F=>
  intro w mg fa h KX G hmg
  refine' Prg.all_mk KX G hmg ?iT ?iU ?gL ?jh ?fR ?jY ?jM ?j7 ?ir ?ji ?jN ?gM ?iu ?jA ?iV ?gN ?gg ?fI ?iW ?iX ?jO ?jP ?jj ?jB ?jQ ?gO ?gm ?jC ?iw ?jZ ?gP ?jk ?jl ?iy ?jm ?jD ?jR ?jn ?jo ?jE ?iY ?iZ ?jp ?iz ?iA ?i4 ?jF ?i5 ?gn ?iB ?iC ?iD ?iE ?i6 ?jq ?i7 ?iF ?gQ ?jr ?ko ?kq ?c_law ?kr ?gz ?i8 ?jV ?j8 ?gW ?js ?iJ ?jG ?jt ?jS ?iK ?jH ?ku ?i9 ?kw ?iG ?j9 ?kz ?kA ?j0 ?j1 ?jT ?kC ?ju ?kD ?ka
  (case ko | kq | c_law | kr | gz | jV | gW | iJ | jt | iK | ku | i9 | kw | iG | j9 | kz | kA | j0 | j1 | jT | kC | ju | kD | ka=>k_is)
  (case iT | iU | gL | jh | fR | jY | jM | j7 | ir | ji | jN | gM | iu | jA | iV | gN | gg | fI | iW | iX | jO | jP | jj | jB | jQ | gO | gm | jC | iw | jZ | gP | jk | jl | iy | jm | jD | jR | jn | jo | jE | iY | iZ | jp | iz | iA | i4 | jF | i5 | gn | iB | iC | iD | iE | i6 | jq | i7 | iF | gQ | jr=>exact⟨_,_,by k_is,L2.fun_mk (by k_is) (by k_is) (by k_is)⟩)
  (case i8 | j8 | js | jG | jS | jH=>first | k_exc | kernel_rfl!)
