import PyProof.Rows.All
import Wide.All
import OpenK.AllK
import Wide.FinOn
import PyProof.EqAt
import PyProof.EqKinds
import PyProof.TupleCall
import KE.BitLaws
import Open.SpecLaws
import KE.OsHead
import KE.OsGo
import VastofSpec
import PyProof.SetKind
import PyProof.Rows.SetFrom
import PyProof.FactsAll.set
import PyProof.DictIter
import PyProof.CollectWalk
import PyProof.CollectIter
import PyProof.Rows.SortShellAny
import KE.KDictSum
import PySem.Challenge.RW_wholekept_s01_answers
import KE.KStateDown
import PyProof.Rows.SortWalkRead
import VastofNeutral
import PyProof.ZipIter
import PyProof.AttrMissHeap
import PyVastof
set_option Elab.async false
set_option linter.all false
set_option maxRecDepth 100000
set_option maxHeartbeats 4000000
open List renaming length_map → ae, mem_map → az, mem_append → aD, mem_singleton → aE, mem_cons → aF, mem_cons_of_mem → aJ, map_map → aK, getElem?_eq_some_iff → aM, mem_of_getElem? → aP, mem_append_left → aQ, take_add_one → aT, map_append → aW, mem_cons_self → aY, take_length → aZ, getElem?_map → a9, nodup_append → be, size_toArray → bg, mem_filter → bj, map_cons → bo, length_filter_le → bp, length_take_le' → br, getElem?_eq_getElem → bu, length_append → bD, length_cons → bG, map_congr_left → bK, mem_append_right → bN, nodup_cons → bO, eq_nil_of_length_eq_zero → bP, all_eq_true → bU, any_eq_true → bY, take_sublist → b_, pairwise_cons → cj, filter_cons → cw, getElem?_drop → cz, nodup_nil → cA, filter_map → cF, append_nil → cP, drop_drop → cQ, filter_sublist → cS, contains_iff_mem → cU, drop_eq_getElem_cons → df, getElem?_eq_none → du, filter_append → dC, length_drop → dF, filterMap_cons → eQ, getElem?_set_self → eS, length_take → fe, mem_of_find?_eq_some → fI, find?_cons → fK, filter_congr → fL, sum_cons → fR, takeWhile_cons → fX, lookup_cons → fY, drop_eq_nil_of_le → gr, any_eq_false → gJ, flatMap_cons → gK, any_cons → iG, map_take → iH, range → iZ, append_of_mem → i6, lookup → ja, length → jc, map_nil → jA, take_of_length_le → jB, getElem?_of_mem → kH, foldl_cons → lM, flatMap_append → lO, length_take_le → lP, getD_eq_getElem?_getD → mU, append_assoc → nJ, length_range → nM, map_id → nN, getElem?_cons_zero → pB, mem_flatMap → pC, range_succ_eq_map → qv, length_nil → qB, nil_append → qC, eq_nil_or_concat → rG, getElem?_set_ne → s_, forIn_nil → tp, mem_iff_getElem → tw, all_cons → uy, find?_eq_none → wj, any_map → xg, cons_append → za, of_mem_zip → AA, forIn_cons → AB, find?_some → AE, mem_range → BI, take_zero → BK, length_eraseIdx_of_lt → BN, append_eq_append_iff → CA, getElem?_take_of_lt → DB, length_erase_of_mem → DC, map_drop → DE, getElem?_cons_succ → DL, Perm → DM, all_map → Fu, pairwise_lt_range → Fx, take_append_drop → FE, getElem?_toArray → FH, mem_erase_of_ne → GN, mem_of_mem_take → GP, filter_eq_self → Hg, mem_filterMap → Ih, filter_filter → Ik, foldl_append → Iy, drop_sublist → Iz, all_eq_false → IA, not_mem_nil → Jk, append_inj' → Jl, flatMap_map → Jm, filter_nil → Jt
open PySem.W renaming Frag → aj, findIn → dy, emptyDict → dN, fnOf → dO, keepIn → eG, instObj → fJ, codeIn → jx, plainGet → pA, isFn → qt, lookIn → tj, plainGet_of → ug, methodObj → xc, hasDictIn → xf, takerIn → Ay, makesIn → Az, length_le_weightAllW → AD, cellsFrom_some → Fs, methodCall_KW → FC, callWith_K0 → Hf, callWith_K → Ii, plainOver → Iw, handedIn → Jf, WRecords → Jh
open Nat renaming le_trans → ay, le_refl → aN, zero_le → aV, lt_of_lt_of_le → bB, ne_of_lt → bF, lt_of_le_of_lt → bX, le_of_lt → cB, lt_succ_of_lt → cV, lt_succ_self → dE, lt_irrefl → dJ, le_succ → jb, le_of_succ_le → nD, add_sub_cancel_left → pD, ne_of_gt → qr, le_of_eq → qu, zero_add → qw, pow_le_pow_right → tq, pow_succ → xj, le_add_right → zd, min_eq_left → AF, mod_lt → BM, mul_le_mul_right → GL, not_lt_of_le → Jj
open Vastof renaming listAt → aG, step → aR, Call → bQ, placed → cJ, refused → cX, askAll → dz, digit → dP, order → dS, graph → eB, fresh → eW, PARCEL → e8, ask1 → f9, tops → f_, missing → jC, commit → kC, stage → ma, sweep → md, place → me, take → nE, lose → nF, read → nG, renamedAll → nP, add → qx, start → xk, write → xn, closure → BL, PLACE → Fy, recordOf → Ju, parcelOf → Jv
open Bool renaming false_ne_true → aI, noConfusion → cE, false_eq_true → cO, and_eq_true → dG, eq_false_iff → dQ, eq_iff_iff → dX, and_eq_true_iff → kF, or_eq_true → lL, not_eq_true → Ji
open PySem.F renaming plainAttrs_list → aU, slot_list_append → bR, type_list_append → bS, slot_list_extend → cu, type_list_extend → cv, called_set → ej, slot_zip_getattribute → kI, slot_dict_get → rD, slot_list_pop → rE, type_list_pop → rF, slot_dict_delitem → Cy, plain_extend_loop → Cz, args_dict_get_3 → DJ, plainAttrs_dict → DK, plain_list_iadd → DN, entry_dict_get → Fv, slot_dict_pop → FD, plain_set_new → FG, slot_set_iter → FI
open Option.some renaming inj → a0, injEq → cH
open PySem renaming boot_len → bf, mem_of_lookup → bT, intKind → cR, Within → Fq
open Array renaming getElem?_eq_getElem → bM, getElem?_toList → cC, length_toList → dU, getElem?_eq_none → eV, getD_eq_getD_getElem? → gL, toList_push → xm, getElem?_eq_some_iff → BJ, forIn_toList → Il
open Int renaming toNat_natCast → cy
open PyFlat renaming call → cY, calls → gu, rows → hX, told → ze, row → BP, played → DG
open False renaming elim → dB
open Classical renaming byContradiction → d8
open Prod.mk renaming injEq → eC
open PyProof.Rows renaming callWith_type1 → eU, sortedHeap_old → AH, sortedHeap_at → BO
open VastofNeutral renaming step → fm, text → i7, encode → kG
open Sum.inl renaming inj → f7
open Option renaming bind_some → ie, map_some → qA, bind_eq_bind → uh, isSome_map → xh, bind_none → zc, isSome_iff_exists → DA, map_eq_some_iff → Ft, map_eq_none_iff → Fw, isSome_some → Ij, getD_none → Jg
open PyProof.Rows.F renaming plain_set_update_loop → iD, entry_set_update_loop → ui
open PyVastof renaming answers → kz, answers_asked → qz, calls → tz
open PySem.Paired renaming length → lN
open Ne renaming symm → l_
open Prod renaming ext → xi
open Except.ok renaming inj → DD
open List.Pairwise renaming sublist → FF, filter → GO
open NeutralIO renaming bytes → Jw
namespace L2
open PySem PySem.Spec PyProof.Rows
abbrev Key:=Sum Int Str
def nQ:Key->Value->Bool
 |.inl k,v=>Value.isInt k v
 |.inr x,v=>Value.isStrOf x v
def keyH(w:World):Key->Int
 |.inl k=>hashInt k
 |.inr x=>hashStr w x
theorem dY:∀{k:Key}{v:Value},nQ k v=true->(∃i t,k=Sum.inl i/\v=Value.int i t)\/(∃x t,k=Sum.inr x/\v=Value.str x t)
 |.inl i,v,h=>by
  obtain⟨t,e⟩:=Value.isInt_shape (k:=i) (v:=v) h;exact .inl ⟨i,t,rfl,e⟩
 |.inr x,v,h=>by obtain⟨t,e⟩:=Value.isStrOf_shape (x:=x) (v:=v) h;exact .inr ⟨x,t,rfl,e⟩
theorem CB(i:Int)(t:Tok):nQ (.inl i) (.int i t)=true:=by simp[nQ,Value.isInt]
theorem CC(x:Str)(t:Tok):nQ (.inr x) (.str x t)=true:=by simp[nQ,Value.isStrOf]
theorem Hh(a b:Int):decide ((Sum.inl a:Key)=Sum.inl b)=(a==b):=by
 by_cases e:a=b
 ·subst e;simp
 ·have h:¬(Sum.inl a:Key)=Sum.inl b:=λq=>e (f7 q);rw[decide_eq_false h];exact(beq_eq_false_iff_ne.mpr e).symm
theorem Hi(a b:Str):decide ((Sum.inr a:Key)=Sum.inr b)=decide (a=b):=by
 by_cases e:a=b
 ·subst e;simp
 ·have h:¬(Sum.inr a:Key)=Sum.inr b:=λq=>e (Sum.inr.inj q);rw[decide_eq_false h,decide_eq_false e]
theorem Hj(a:Int)(b:Str):decide ((Sum.inl a:Key)=Sum.inr b)=false:=decide_eq_false (λq=>nomatch q)
theorem Hk(a:Str)(b:Int):decide ((Sum.inr a:Key)=Sum.inl b)=false:=decide_eq_false (λq=>nomatch q)
def cM(prog:Program)(w:World):PySem.KeyKind prog w Key where
 is:=nQ
 hash:=keyH w
 inj:=λv a b ha hb=>by
  rcases dY ha with⟨i,t,rfl,rfl⟩|⟨x,t,rfl,rfl⟩
  ·rcases dY hb with⟨j,u,rfl,e⟩|⟨y,u,rfl,e⟩
   ·injection e with e1 _;rw[e1]
   ·exact nomatch e
  ·rcases dY hb with⟨j,u,rfl,e⟩|⟨y,u,rfl,e⟩
   ·exact nomatch e
   ·injection e with e1 _;rw[e1]
 byValue:=λk v h=>by rcases dY h with⟨i,t,rfl,rfl⟩|⟨x,t,rfl,rfl⟩<;>rfl
 pyHash:=λhv h=>by
  rcases dY hv with⟨i,t,rfl,rfl⟩|⟨x,t,rfl,rfl⟩
  ·exact wpAny_pyHash_int h
  ·exact wpAny_pyHash_str h
 eqBool:=λhu hv h=>by
  rcases dY hu with⟨i,t,rfl,rfl⟩|⟨x,t,rfl,rfl⟩
  ·rcases dY hv with⟨j,u,rfl,rfl⟩|⟨y,u,rfl,rfl⟩
   ·rw[Hh]at h;exact wpAny_eqBool_int h
   ·rw[Hj]at h;exact SeqAt.EqAt.int_str i t y u _ _ _ _ h
  ·rcases dY hv with⟨j,u,rfl,rfl⟩|⟨y,u,rfl,rfl⟩
   ·rw[Hk]at h;exact SeqAt.EqAt.str_int x t j u _ _ _ _ h
   ·rw[Hi]at h;exact wpAny_eqBool_str h
 «strs»:=λk x t v h=>by
  rcases dY h with⟨i,u,rfl,e⟩|⟨y,u,rfl,e⟩
  ·exact nomatch e
  ·injection e with e1 _;subst e1;cases v<;>rfl
theorem zf(prog:Program)(w:World)(i:Int)(t:Tok):(cM prog w).is (.inl i) (.int i t)=true:=CB i t
theorem zg(prog:Program)(w:World)(x:Str)(t:Tok):(cM prog w).is (.inr x) (.str x t)=true:=CC x t
end L2
namespace L2
open PySem PySem.Spec PyProof.Rows
inductive V where
 |non|bl (b:Bool)|int (i:Int)|str (x:Str)|byt (b:Array UInt8)|flt (b:UInt64)|ref (a:Addr)|ty (n:String)
 deriving DecidableEq
def RelV:V->Value->Prop
 |.non,u=>u=Value.none
 |.bl b,u=>u=Value.bool b
 |.int i,u=>∃t,u=Value.int i t
 |.str x,u=>∃t,u=Value.str x t
 |.byt b,u=>∃t,u=Value.bytes b t
 |.flt b,u=>∃t,u=Value.float b t
 |.ref a,u=>u=Value.ref a
 |.ty n,u=>u=Value.type n
abbrev cG:List V->List Value->Prop:=Paired RelV
theorem cG.length{xs:List V}{us:List Value}(r:cG xs us):xs.length=us.length:=Paired.length r
theorem cG.get:∀{xs:List V}{us:List Value}{i:Nat}{x:V},cG xs us->xs[i]?=some x->∃u,us[i]?=some u/\RelV x u
 |_,_,_,_,.nil,e=>by simp at e
 |_,_,0,_,.cons r _,e=>by simp at e;subst e;exact⟨_,rfl,r⟩
 |_,_,i+1,x,.cons _ t,e=>by obtain⟨u,h1,h2⟩:=cG.get (i:=i) (x:=x) t (by simpa using e);exact⟨u,by simpa using h1,h2⟩
theorem cG.append:∀{xs ys:List V}{us ws:List Value},cG xs us->cG ys ws->cG (xs++ys) (us++ws)
 |_,_,_,_,.nil,s=>s
 |_,_,_,_,.cons r t,s=>.cons r (cG.append t s)
theorem cG.take:∀{xs:List V}{us:List Value}(n:Nat),cG xs us->cG (xs.take n) (us.take n)
 |_,_,0,_=>.nil
 |_,_,_+1,.nil=>.nil
 |_,_,n+1,.cons r t=>.cons r (cG.take n t)
theorem cG.drop:∀{xs:List V}{us:List Value}(n:Nat),cG xs us->cG (xs.drop n) (us.drop n)
 |_,_,0,r=>r
 |_,_,_+1,.nil=>.nil
 |_,_,n+1,.cons _ t=>cG.drop n t
def mf:Option V->Option Value->Prop
 |some v,some u=>RelV v u
 |none,none=>True
 |_,_=>False
def KV{κ:Type}:List (κ×V)->List (κ×Value)->Prop:=Paired λ(p:κ×V)(q:κ×Value)=>p.1=q.1/\RelV p.2 q.2
def kV:Key->V
 |.inl i=>.int i
 |.inr x=>.str x
inductive HO where
 |lst (xs:List V)
 |tup (xs:List V)
 |dK (kvs:List (Key×V))|dT (kvs:List (List Key×V))
 |set (S:Int->Bool) (n:Nat)
 |ins (C dx:Addr) (fs:List (Str×V))
 |own (x:Addr)
 |xd (fs:List (Str×V))
 |met (f x:Addr)
 |rng (lo hi:Int)
 |frz (o:Obj) (u:HO)
 |tbl (ps:Array Value)
 |ext (φ:Heap->Prop)
abbrev Hp:=Addr->Option HO
def upd(H:Hp)(a:Addr)(o:HO):Hp:=λb=>if b=a then some o else H b
theorem ao{H:Hp}{a:Addr}{o:HO}:upd H a o a=some o:=by unfold upd;rw[if_pos rfl]
theorem aA{H:Hp}{a b:Addr}{o:HO}(h:b≠a):upd H a o b=H b:=by unfold upd;rw[if_neg h]
theorem mh{H:Hp}{a:Addr}{o u:HO}:upd (upd H a o) a u=upd H a u:=by funext b;unfold upd;split<;>rfl
theorem cn{H:Hp}{a b:Addr}{o u:HO}(h:H a=some o)(h':H b=some u)(d:o≠u):a≠b:=by intro e;subst e;rw[h]at h';exact d (a0 h')
theorem aB{H:Hp}{a b:Addr}{o:HO}(h:H a=some o)(h':H b=none):a≠b:=by intro e;subst e;rw[h]at h';cases h'
section
variable (P:Program)(w:World)
def fS(H:Hp)(h:Heap)(a:Addr):HO->Prop
 |.lst xs=>xs.length<=sizeLine/\∃(its:List Value)(n:Nat),cG xs its/\h.get? a=some {cls:=.type "list",data:=.seq its.toArray n}
 |.tup xs=>xs.length<=sizeLine/\∃its:List Value,cG xs its/\IsTup h a its.toArray
 |.dK kvs=>kvs.length<=sizeLine/\(a==sysModules)=false/\∃vs,KV kvs vs/\h.DictOf (cM P w) a vs
 |.dT kvs=>kvs.length<=sizeLine/\(a==sysModules)=false/\∃xs:List (List Key×Addr×Value),Paired (λ(p:List Key×V)(q:List Key×Addr×Value)=>p.1=q.1/\H q.2.1=some (.tup (p.1.map kV))/\RelV p.2 q.2.2) kvs xs/\∃o es ep,h.get? a=some o/\o.ExactDict/\o.data=.dict es ep/\es.toList=xs.map (entryOfKey (tupleKind (cM P w)))/\(xs.map (·.1)).Nodup
 |.set S n=>h.SetOf (intKind P w) a S n
 |.ins C dx fs=>H dx=some (.own a)/\fs.length<=1000/\dx≠a/\h.get? a=some (fJ C dx)/\∃mA,h.Ns1 dx mA/\(∀f,mf (fs.lookup f) (mA f))/\Fq mA (fs.map (·.1))
 |.own _=>∃o,h.get? a=some o
 |.xd fs=>∃mA,h.Ns1 a mA/\∀f,mf (fs.lookup f) (mA f)
 |.rng lo hi=>∃t u v,h.get? a=some {cls:=.type "range",data:=.fields #[.int lo t,.int hi u,.int 1 v]}
 |.frz o u=>h.get? a=some o/\fS H h a u
 |.tbl ps=>h.get? a=some {cls:=.none,data:=.fields ps}
 |.met f x=>h.get? a=some (xc (.ref f) (.ref x))
 |.ext φ=>φ h/\(∃o,h.get? a=some o)/\∀h1 h2:Heap,φ h1->(∀o,h1.get? a=some o->h2.get? a=some o)->φ h2
def nS(H:Hp)(h:Heap):Prop:=∀a o,H a=some o->fS P w H h a o
end
section
variable {P:Program}{w:World}{H H':Hp}{h h':Heap}{a:Addr}{o:HO}
theorem fS.lt(x:fS P w H h a o):a<h.objs.size:=by
 cases o with
 |lst xs=>obtain⟨_,_,_,_,e⟩:=x;exact Heap.lt_size e
 |tup xs=>obtain⟨_,_,_,p⟩:=x;exact p.lt
 |dK kvs=>obtain⟨_,_,_,_,o,_,_,e,_⟩:=x;exact Heap.lt_size e
 |dT kvs=>obtain⟨_,_,_,_,o,_,_,e,_⟩:=x;exact Heap.lt_size e
 |set S n=>obtain⟨o,_,_,_,e,_⟩:=x;exact Heap.lt_size e
 |ins C dx fs=>obtain⟨_,_,_,e,_⟩:=x;exact Heap.lt_size e
 |own y=>obtain⟨_,e⟩:=x;exact Heap.lt_size e
 |xd fs=>obtain⟨_,⟨_,_,_,e,_⟩,_⟩:=x;exact Heap.lt_size e
 |rng lo hi=>obtain⟨_,_,_,e⟩:=x;exact Heap.lt_size e
 |frz ob u=>obtain⟨e,_⟩:=x;exact Heap.lt_size e
 |tbl ps=>exact Heap.lt_size (show h.get? a=some _ from x)
 |met f y=>exact Heap.lt_size (show h.get? a=some _ from x)
 |ext φ=>obtain⟨_,⟨_,e⟩,_⟩:=x;exact Heap.lt_size e
theorem Paired.mapP{α β:Type}{F G:α->β->Prop}:∀{l₁:List α}{l₂:List β},Paired F l₁ l₂->(∀a b,F a b->G a b)->Paired G l₁ l₂
 |_,_,.nil,_=>.nil
 |_,_,.cons r t,f=>.cons (f _ _ r) (Paired.mapP t f)
theorem fS.stay(x:fS P w H h a o)(k:∀b u,(b=a\/H b=some (.own a))->h.get? b=some u->h'.get? b=some u)(ho:∀b,H b=some (.own a)->H' b=some (.own a))(ht:∀b xs,H b=some (.tup xs)->H' b=some (.tup xs)):fS P w H' h' a o:=by
 induction o with
 |lst xs=>obtain⟨z,its,n,r,e⟩:=x;exact⟨z,its,n,r,k _ _ (.inl rfl) e⟩
 |tup xs=>obtain⟨z,its,r,ob,e,c⟩:=x;exact⟨z,its,r,ob,k _ _ (.inl rfl) e,c⟩
 |dK kvs=>obtain⟨z,y,vs,r,ob,es,ep,e,c⟩:=x;exact⟨z,y,vs,r,ob,es,ep,k _ _ (.inl rfl) e,c⟩
 |dT kvs=>
  obtain⟨z,y,xs,r,ob,es,ep,e,c⟩:=x
  exact⟨z,y,xs,Paired.mapP r λp q z=>⟨z.1,ht _ _ z.2.1,z.2.2⟩,ob,es,ep,k _ _ (.inl rfl) e,c⟩
 |set S n=>obtain⟨ob,es,ep,t,e,c⟩:=x;exact⟨ob,es,ep,t,k _ _ (.inl rfl) e,c⟩
 |ins C dx fs=>
  obtain⟨d,z,ne,e,mA,⟨od,es,ep,e2,c⟩,r⟩:=x
  exact⟨ho _ d,z,ne,k _ _ (.inl rfl) e,mA,⟨od,es,ep,k _ _ (.inr d) e2,c⟩,r⟩
 |own y=>obtain⟨ob,e⟩:=x;exact⟨ob,k _ _ (.inl rfl) e⟩
 |xd fs=>obtain⟨mA,⟨od,es,ep,e,c⟩,r⟩:=x;exact⟨mA,⟨od,es,ep,k _ _ (.inl rfl) e,c⟩,r⟩
 |rng lo hi=>obtain⟨t,u,v,e⟩:=x;exact⟨t,u,v,k _ _ (.inl rfl) e⟩
 |frz ob u ih=>obtain⟨e,q⟩:=x;exact⟨k _ _ (.inl rfl) e,ih q⟩
 |tbl ps=>
  have e:h.get? a=some {cls:=.none,data:=.fields ps}:=x
  show h'.get? a=some {cls:=.none,data:=.fields ps}
  exact k a _ (.inl rfl) e
 |met f y=>
  have e:h.get? a=some (xc (.ref f) (.ref y)):=x
  show h'.get? a=some (xc (.ref f) (.ref y))
  exact k a _ (.inl rfl) e
 |ext φ=>obtain⟨p,⟨o,e⟩,st⟩:=x;exact⟨st _ _ p λo q=>k _ _ (.inl rfl) q,⟨o,k _ _ (.inl rfl) e⟩,st⟩
theorem nS.lt(x:nS P w H h)(e:H a=some o):a<h.objs.size:=(x a o e).lt
theorem nS.fresh(x:nS P w H h)(e:h.objs.size<=a):H a=none:=by
 cases q:H a with
 |none=>rfl
 |some u=>exact absurd (bB (x.lt q) e) (dJ _)
theorem nS.kept(x:nS P w H h)(k:∀b u,h.get? b=some u->h'.get? b=some u):nS P w H h':=λa o e=>
 (x a o e).stay (λb u _ q=>k b u q) (λ_ q=>q) λ_ _ q=>q
theorem nS.laid(x:nS P w H h)(k:∀b u,h.get? b=some u->h'.get? b=some u)(hp:h.objs.size<=a)(new:fS P w (upd H a o) h' a o):nS P w (upd H a o) h':=λb u e=>by
 have hn:=x.fresh hp;by_cases hb:b=a
 ·subst hb;rw[ao]at e;cases e;exact new
 ·rw[aA hb]at e;exact(x b u e).stay (λc v _ q=>k c v q) (λc q=>by rw[aA (aB q hn)];exact q) λc xs q=>by rw[aA (aB q hn)];exact q
end
def Rd(H:Hp)(a:Addr)(u:HO):Prop:=H a=some u\/∃o,H a=some (.frz o u)
theorem Rd.ok{P:Program}{w:World}{H:Hp}{h:Heap}{a:Addr}{u:HO}(r:Rd H a u)(x:nS P w H h):fS P w H h a u:=by
 rcases r with r|⟨o,r⟩
 ·exact x a u r
 ·obtain⟨_,q⟩:=x a _ r;exact q
def Fz:Option HO->Prop
 |some (.lst _)=>True
 |some (.dK _)=>True
 |some (.dT _)=>True
 |some (.set _ _)=>True
 |some (.ins _ _ _)=>True
 |some (.ext _)=>True
 |_=>False
section
variable {P:Program}{w:World}{H:Hp}{h h':Heap}{x e:Addr}{o':HO}
theorem nS.write(ok:nS P w H h)(mu:Fz (H x))(he:e=x\/H e=some (.own x))(k:∀b u,b≠e->h.get? b=some u->h'.get? b=some u)(heo:∃u,h'.get? e=some u)(new:fS P w (upd H x o') h' x o'):nS P w (upd H x o') h':=λb u q=>by
 have nown:∀c y,H c=some (.own y)->c≠x:=λc y r z=>by subst z;rw[r]at mu;exact mu
 have ntup:∀c xs,H c=some (.tup xs)->c≠x:=λc xs r z=>by subst z;rw[r]at mu;exact mu
 by_cases hb:b=x
 ·subst hb;rw[ao]at q;cases q;exact new
 ·rw[aA hb]at q;by_cases hbe:b=e
  ·have q':H b=some (.own x):=by
    rcases he with z|z
    ·exact absurd (hbe.trans z) hb
    ·rw[hbe];exact z
   rw[q]at q';cases q';obtain⟨v,hv⟩:=heo;exact⟨v,by rw[hbe];exact hv⟩
  ·refine(ok b u q).stay (λc v hc r=>k c v ?_ r) (λc r=>by rw[aA (nown c b r)];exact r) λc xs r=>by rw[aA (ntup c xs r)];exact r
   rcases hc with rfl|hc
   ·exact hbe
   ·rintro rfl;rcases he with z|z
    ·exact nown c b hc z
    ·rw[hc]at z;cases z;exact hb rfl
end
structure Un(fs ex:List Addr)(H H':Hp)(h h':Heap):Prop where
 keep:∀b o,h.get? b=some o->H b=none->b∉fs->b∉ex->h'.get? b=some o
 slot:∀b o,h.get? b=some o->H b=none->b∈fs->b∉ex->∃sl,h'.get? b=some {o with slots:=sl}
 free:∀b o,h.get? b=some o->H b=none->b∉ex->H' b=none
 there:∀b o,h.get? b=some o->b∉ex->∃o',h'.get? b=some o'
 tups:∀b xs,H b=some (.tup xs)->H' b=some (.tup xs)
 frzs:∀b o u,H b=some (.frz o u)->H' b=some (.frz o u)
 tbls:∀b ps,H b=some (.tbl ps)->∃more,H' b=some (.tbl (ps++more))
section
variable {fs fs' ex ex':List Addr}{H H1 H2:Hp}{h h1 h2 h':Heap}{a x e:Addr}{o:HO}
theorem Un.any(u:Un fs ex H H1 h h1){b:Addr}{ob:Obj}(q:h.get? b=some ob)(n:H b=none)(hx:b∉ex):∃sl,h1.get? b=some {ob with slots:=sl}:=by
 by_cases hb:b∈fs
 ·exact u.slot b ob q n hb hx
 ·exact⟨ob.slots,u.keep b ob q n hb hx⟩
theorem Un.kept(k:∀b u,h.get? b=some u->h'.get? b=some u):Un fs ex H H h h':=⟨λb ob q _ _ _=>k b ob q,λb ob q _ _ _=>⟨ob.slots,k b ob q⟩,λ_ _ _ n _=>n,λb ob q _=>⟨ob,k b ob q⟩,λ_ _ q=>q,λ_ _ _ q=>q,λ_ ps q=>⟨#[],by rw[q];simp⟩⟩
theorem Un.refl:Un fs ex H H h h:=Un.kept λ_ _ q=>q
theorem Un.laid(k:∀b u,h.get? b=some u->h'.get? b=some u)(hp:h.objs.size<=a)(hn:H a=none):Un fs ex H (upd H a o) h h' where
 keep:=λb u q _ _ _=>k b u q
 slot:=λb u q _ _ _=>⟨u.slots,k b u q⟩
 free:=λb u q n _=>by rw[aA (bF (bB (Heap.lt_size q) hp))];exact n
 there:=λb u q _=>⟨u,k b u q⟩
 tups:=λb xs q=>by rw[aA (aB q hn)];exact q
 frzs:=λb u xs q=>by rw[aA (aB q hn)];exact q
 tbls:=λb ps q=>⟨#[],by rw[aA (aB q hn),q];simp⟩
theorem Un.write(mu:Fz (H x))(he:e=x\/H e=some (.own x))(k:∀b u,b≠e->h.get? b=some u->h'.get? b=some u)(heo:∃u,h'.get? e=some u):Un fs ex H (upd H x o) h h':=by
 have hx:∀b,H b=none->b≠x:=λb n z=>by subst z;rw[n]at mu;exact mu
 have hb:∀b,H b=none->b≠e:=λb n z=>by
  subst z;rcases he with r|r
  ·exact hx b n r
  ·rw[n]at r;cases r
 have hm:∀b u,H b=some u->¬Fz (some u)->b≠x:=λb u q nm z=>by subst z;rw[q]at mu;exact nm mu
 refine⟨λb u q n _ _=>k b u (hb b n) q,λb u q n _ _=>⟨u.slots,k b u (hb b n) q⟩,λb u q n _=>by rw[aA (hx b n)];exact n,λb u q _=>?_,λb xs q=>by rw[aA (hm b _ q λz=>z)];exact q,λb u xs q=>by rw[aA (hm b _ q λz=>z)];exact q,λb ps q=>⟨#[],by rw[aA (hm b _ q λz=>z),q];simp⟩⟩;by_cases hbe:b=e
 ·subst hbe;exact heo
 ·exact⟨u,k b u hbe q⟩
end
def Jn(h:Heap)(H:Hp):List Addr:=(iZ h.objs.size).filter λa=>(H a).isSome
def x8(h:Heap)(H:Hp):Heap:=PySem.W.hideAll h (Jn h H)
theorem CD(h:Heap)(H:Hp):(x8 h H).objs.size=h.objs.size:=PySem.W.hideAll_size _ _
theorem DO{h:Heap}{H:Hp}{b:Addr}{o:Obj}(e:h.get? b=some o)(n:H b=none):(x8 h H).get? b=some o:=PySem.W.hideAll_get _ e λhm=>by have q:(H b).isSome=true:=(bj.mp hm).2;rw[n]at q;simp at q
theorem FJ{h:Heap}{H:Hp}{b:Addr}{o:Obj}(e:(x8 h H).get? b=some o):h.get? b=some o/\H b=none:=by
 have e':h.get? b=some o:=PySem.W.of_hideAll (Jn h H) e;refine⟨e',?_⟩;cases q:H b with
 |none=>rfl
 |some x=>
  have hm:b∈Jn h H:=bj.mpr ⟨BI.mpr (Heap.lt_size e'),by simp[q]⟩
  have z:(x8 h H).get? b=none:=PySem.W.hideAll_none (Jn h H) hm
  rw[z]at e;cases e
end L2
namespace L2
open PySem PySem.Spec PyProof.Rows
structure Mod(K:aj)(mg:Str->Option Value)(base:Heap):Prop where
 kin:K.In base
 glob:base.Ns mainGlobals mg
 blt:∃mb,base.Ns builtinsNs mb/\∀x:Str,x≠"__name__"->mb x=bootBuiltins x
 nolimit:base.NoLimit
structure Cx where
 prog:Program
 w:World
 K:aj
 mg:Str->Option Value
 base:Heap
 A:Around
 N:List Str
 s_0:Shared
 H_0:Hp
 env:Env
 outer:List Env
 stack:List Env
 ex:List Addr
 fn:Str->Bool
 calm:Bool
 pn:List (Addr×Obj)
 xe:Value->Shared->Prop
def DP(l:List Env):List Addr:=l.filterMap (·.frame)
abbrev Cx.fs(X:Cx):List Addr:=DP X.outer
def IB(sc:Scope)(x:Str):Prop:=sc.names.lookup x=some .local\/sc.names.lookup x=some .cell\/sc.names.lookup x=some .free
def Loc(sc:Scope)(x:Str):Prop:=sc.names.lookup x=some .local\/sc.names.lookup x=some .cell
def Look(env:Env)(h:Heap)(m:Str->Option Value)(x:Str)(u:Value):Prop:=(env.kindOf x=some .local/\m x=some u)\/((env.kindOf x=some .cell\/env.kindOf x=some .free)/\∃c,env.cells.lookup x=some c/\h.IsCell c (some u))
structure Cx.Ok(X:Cx):Prop where
 mod:Mod X.K X.mg X.base
 kind:X.env.scope.kind=.function
 glob:X.env.globals=mainGlobals
 blt:X.env.builtins=builtinsNs
 above:X.s_0.heap.objs.size<=X.env.locals
 inj:∀x y c,X.env.cells.lookup x=some c->X.env.cells.lookup y=some c->x=y
 has:∀x,(X.env.kindOf x=some .cell\/X.env.kindOf x=some .free)->∃c,X.env.cells.lookup x=some c
 cab:∀x c,X.fn x=true->X.env.cells.lookup x=some c->X.s_0.heap.objs.size<=c
 hd:X.calm=true->X.A.handled=none
 frames:X.A.frames=some X.stack
 stk:X.stack=X.outer\/(X.stack=X.env::X.outer/\X.env.frame=some X.env.locals)
 exf:∀b∈X.ex,b≠X.env.locals/\∀x c,X.env.cells.lookup x=some c->c≠b
 bs:∀b o,X.base.get? b=some o->X.s_0.heap.get? b=some o/\X.H_0 b=none
 bsz:X.base.objs.size<=X.s_0.heap.objs.size
 noex:∀b o,X.base.get? b=some o->b∉X.ex
 exfs:∀b∈X.ex,b∉X.fs
 funs:X.s_0.heap.FunFrames X.base X.outer
 frf:∀b∈X.fs,X.H_0 b=none
structure Inv(X:Cx)(pins:List (Addr×Obj))(σ:List (Option V))(H:Hp)(s:Shared):Prop where
 ok:X.Ok
 os:s.os=X.s_0.os
 bare:AllBare s.gens
 base:Un X.fs X.ex X.H_0 H X.s_0.heap s.heap
 loc:∃m,s.heap.Ns X.env.locals m/\∀(i:Nat)(x:Str)(v:V),X.N[i]?=some x->σ[i]?=some (some v)->IB X.env.scope x->∃u,RelV v u/\Look X.env s.heap m x u
 cell:∀x c,X.env.cells.lookup x=some c->∃v,s.heap.IsCell c v
 free:H X.env.locals=none
 freeC:∀x c,X.env.cells.lookup x=some c->H c=none
 pin:∀p∈X.pn++pins,s.heap.get? p.1=some p.2/\H p.1=none/\p.1≠X.env.locals/\p.1∉X.fs/\∀v,p.2.data≠.cell v
 hok:nS X.prog X.w H s.heap
 len:σ.length=X.N.length
section
variable {X:Cx}{pins:List (Addr×Obj)}{σ:List (Option V)}{H H':Hp}{s:Shared}{h':Heap}
theorem Cx.Ok.nofr(ok:X.Ok){b:Addr}{o:Obj}(e:X.base.get? b=some o):b∉X.fs:=λhb=>by have:=(ok.funs.mem hb).1;rw[e]at this;cases this
theorem Inv.bs(I:Inv X pins σ H s):∀b o,X.base.get? b=some o->s.heap.get? b=some o/\H b=none:=λb o e=>
 ⟨I.base.keep b o (I.ok.bs b o e).1 (I.ok.bs b o e).2 (I.ok.nofr e) (I.ok.noex b o e),I.base.free b o (I.ok.bs b o e).1 (I.ok.bs b o e).2 (I.ok.noex b o e)⟩
theorem Inv.bk(I:Inv X pins σ H s):∀b o,X.base.get? b=some o->s.heap.get? b=some o:=λb o e=>(I.bs b o e).1
theorem Inv.mod(I:Inv X pins σ H s):Mod X.K X.mg X.base:=I.ok.mod
theorem Inv.kIn(I:Inv X pins σ H s):X.K.In s.heap:=I.ok.mod.kin.keeps I.bk
theorem Inv.fr(I:Inv X pins σ H s):∃m,Fr X.base X.env.locals s.heap m:=let⟨m,hn,_⟩:=I.loc;⟨m,hn,I.bk,ay I.ok.bsz I.ok.above⟩
theorem Inv.lt(I:Inv X pins σ H s):X.env.locals<s.heap.objs.size:=let⟨_,hn,_⟩:=I.loc;hn.lt
theorem Inv.sz(I:Inv X pins σ H s):X.s_0.heap.objs.size<=s.heap.objs.size:=ay I.ok.above (cB I.lt)
theorem Inv.nofs(I:Inv X pins σ H s){a:Addr}(h:s.heap.objs.size<=a):a∉X.fs:=λhb=>by obtain⟨_,o,ho,_⟩:=I.ok.funs.mem hb;exact absurd (bB (Heap.lt_size ho) (ay I.sz h)) (dJ _)
theorem Inv.cne(I:Inv X pins σ H s):∀x c,X.env.cells.lookup x=some c->c≠X.env.locals:=λx c e z=>by obtain⟨v,o,ho,hd⟩:=I.cell x c e;obtain⟨m,⟨o',es,ep,ho',hd',_⟩,_⟩:=I.loc;rw[z,ho']at ho;cases ho;rw[hd']at hd;cases hd
theorem Inv.funs(I:Inv X pins σ H s):s.heap.FunFrames X.base X.outer:=by
 have all:∀(l:List Env),(∀b∈DP l,b∈X.fs)->X.s_0.heap.FunFrames X.base l->s.heap.FunFrames X.base l:=by
  intro l;induction l with
  |nil=>intro _ _;trivial
  |cons env r ih=>
   intro hs hl
   obtain⟨hk,⟨L,o,hf,hn,ho,hd⟩,hr⟩:=hl
   have hL:L∈X.fs:=hs L (by unfold DP;rw[eQ,hf];exact aY)
   obtain⟨sl,e⟩:=I.base.slot L o ho (I.ok.frf L hL) hL λz=>I.ok.exfs L z hL
   exact⟨hk,⟨L,_,hf,hn,e,hd⟩,ih (λb hb=>hs b (by unfold DP;rw[eQ,hf];exact aJ _ hb)) hr⟩
 exact all X.outer (λ_ hb=>hb) I.ok.funs
theorem Inv.stack(I:Inv X pins σ H s):s.heap.FunFrames X.base X.stack:=by
 rcases I.ok.stk with e|⟨e,hf⟩
 ·rw[e];exact I.funs
 ·rw[e];obtain⟨m,hn,_⟩:=I.loc;refine .cons (by rw[I.ok.kind];decide) hf hn ?_ I.funs;exact Heap.get?_none_of_le (ay I.ok.bsz I.ok.above)
theorem Inv.stkSub(I:Inv X pins σ H s):∀b∈DP X.stack,b∈X.env.locals::X.fs:=λb hb=>by
 rcases I.ok.stk with e|⟨e,hf⟩
 ·rw[e]at hb;exact aJ _ hb
 ·rw[e]at hb;unfold DP at hb;rw[eQ,hf]at hb;exact hb
theorem Inv.stkFree(I:Inv X pins σ H s):∀b∈DP X.stack,H b=none:=λb hb=>by
 rcases aF.mp (I.stkSub b hb)with e|hb
 ·rw[e];exact I.free
 ·obtain⟨_,o,ho,_⟩:=I.ok.funs.mem hb;exact I.base.free b o ho (I.ok.frf b hb) λz=>I.ok.exfs b z hb
theorem Inv.step{g':Array GenState}{t':Nat}{d':Drawn}{ch:List Addr}(I:Inv X pins σ H s)(hch:∀b∈ch,(b∈X.ex\/X.s_0.heap.objs.size<=b)/\b≠X.env.locals/\(∀x c,X.env.cells.lookup x=some c->c≠b)/\∀p∈X.pn++pins,p.1≠b)(keep:∀b o,b≠X.env.locals->b∉X.fs->b∉ch->s.heap.get? b=some o->H b=none->h'.get? b=some o)(slot:∀b o,b≠X.env.locals->b∈X.fs->b∉ch->s.heap.get? b=some o->H b=none->∃sl,h'.get? b=some {o with slots:=sl})(free:∀b o,b∉ch->s.heap.get? b=some o->H b=none->H' b=none)(there:∀b o,b∉ch->s.heap.get? b=some o->∃o',h'.get? b=some o')(tups:∀b xs,H b=some (.tup xs)->H' b=some (.tup xs))(frzs:∀b o u,H b=some (.frz o u)->H' b=some (.frz o u))(tbls:∀b ps,H b=some (.tbl ps)->∃more,H' b=some (.tbl (ps++more)))(ns:∀m,s.heap.Ns X.env.locals m->h'.Ns X.env.locals m)(hok:nS X.prog X.w H' h')(hg:AllBare g'):Inv X pins σ H' {s with heap:=h',gens:=g',drawn:=d',toks:=t'}:=by
 have neL:∀b o,X.s_0.heap.get? b=some o->b≠X.env.locals:=λb o e=>bF (bB (Heap.lt_size e) I.ok.above);have neC:∀b o,X.s_0.heap.get? b=some o->b∉X.ex->b∉ch:=λb o e hx hb=>by
  rcases(hch b hb).1 with z|z
  ·exact hx z
  ·exact absurd (bB (Heap.lt_size e) z) (dJ _)
 have cellK:∀x c,X.env.cells.lookup x=some c->∀v,s.heap.IsCell c v->h'.IsCell c v:=λx c e v⟨o,ho,hd⟩=>by
  have nch:c∉ch:=λz=>(hch c z).2.2.1 x c e rfl;by_cases hc:c∈X.fs
  ·obtain⟨sl,q⟩:=slot c o (I.cne x c e) hc nch ho (I.freeC x c e);exact⟨_,q,hd⟩
  ·exact⟨o,keep c o (I.cne x c e) hc nch ho (I.freeC x c e),hd⟩
 refine⟨I.ok,I.os,hg,⟨λb o e n hb hx=>?_,λb o e n hb hx=>?_,λb o e n hx=>?_,λb o e hx=>?_,λb xs e=>tups b xs (I.base.tups b xs e),λb o xs e=>frzs b o xs (I.base.frzs b o xs e),λb ps e=>?_⟩,?_,λx c e=>?_,?_,λx c e=>?_,λp hp=>?_,hok,I.len⟩
 ·exact keep b o (neL b o e) hb (neC b o e hx) (I.base.keep b o e n hb hx) (I.base.free b o e n hx)
 ·obtain⟨sl,e1⟩:=I.base.slot b o e n hb hx;obtain⟨sl',e2⟩:=slot b _ (neL b o e) hb (neC b o e hx) e1 (I.base.free b o e n hx);exact⟨sl',e2⟩
 ·obtain⟨o',e1⟩:=I.base.there b o e hx;exact free b o' (neC b o e hx) e1 (I.base.free b o e n hx)
 ·obtain⟨o',e1⟩:=I.base.there b o e hx;exact there b o' (neC b o e hx) e1
 ·obtain⟨m1,e1⟩:=I.base.tbls b ps e;obtain⟨m2,e2⟩:=tbls b _ e1;exact⟨m1++m2,by rw[e2,Array.append_assoc]⟩
 ·obtain⟨m,hn,hl⟩:=I.loc;refine⟨m,ns m hn,λi x v e1 e2 e3=>?_⟩;obtain⟨u,r,l⟩:=hl i x v e1 e2 e3;refine⟨u,r,?_⟩;rcases l with l|⟨k,c,e,z⟩
  ·exact .inl l
  ·exact .inr ⟨k,c,e,cellK x c e _ z⟩
 ·obtain⟨v,z⟩:=I.cell x c e;exact⟨v,cellK x c e v z⟩
 ·obtain⟨m,⟨o,_,_,ho,_⟩,_⟩:=I.loc;exact free _ o (λz=>(hch _ z).2.1 rfl) ho I.free
 ·obtain⟨v,o,ho,hd⟩:=I.cell x c e;exact free c o (λz=>(hch c z).2.2.1 x c e rfl) ho (I.freeC x c e)
 ·obtain⟨e,n,ne,nf,d⟩:=I.pin p hp;have nch:p.1∉ch:=λz=>(hch p.1 z).2.2.2 p hp rfl;exact⟨keep p.1 p.2 ne nf nch e n,free p.1 p.2 nch e n,ne,nf,d⟩
theorem Inv.un{t':Nat}(I:Inv X pins σ H s)(u:Un X.fs [] H H' s.heap h')(hok:nS X.prog X.w H' h'):Inv X pins σ H' {s with heap:=h',toks:=t'}:=by obtain⟨m,⟨o,es,ep,ho,r⟩,_⟩:=id I.loc;obtain⟨sl,hL⟩:=u.any ho I.free (by simp);exact I.step (g':=s.gens) (d':=s.drawn) (ch:=[]) (λ_ z=>nomatch z) (λb o _ hb _ e n=>u.keep b o e n hb (by simp)) (λb o _ hb _ e n=>u.slot b o e n hb (by simp)) (λb o _ e n=>u.free b o e n (by simp)) (λb o _ e=>u.there b o e (by simp)) u.tups u.frzs u.tbls (λm' hm=>by obtain⟨o',es',ep',ho',r'⟩:=hm;rw[ho]at ho';cases ho';exact⟨_,es',ep',hL,r'⟩) hok I.bare
theorem Inv.call{g':Array GenState}{t':Nat}{d':Drawn}{ch:List Addr}(I:Inv X pins σ H s)(u:Un (DP X.stack) ch H H' s.heap h')(hok:nS X.prog X.w H' h')(hg:AllBare g')(hch:∀b∈ch,(b∈X.ex\/X.s_0.heap.objs.size<=b)/\b≠X.env.locals/\(∀x c,X.env.cells.lookup x=some c->c≠b)/\∀p∈X.pn++pins,p.1≠b):Inv X pins σ H' {s with heap:=h',gens:=g',drawn:=d',toks:=t'}:=by obtain⟨m,⟨o,es,ep,ho,r⟩,_⟩:=id I.loc;obtain⟨sl,hL⟩:=u.any ho I.free λz=>(hch _ z).2.1 rfl;exact I.step (ch:=ch) hch (λb o hL hb hc e n=>u.keep b o e n (λz=>(aF.mp (I.stkSub b z)).elim hL hb) hc) (λb o _ _ hc e n=>u.any e n hc) (λb o hc e n=>u.free b o e n hc) (λb o hc e=>u.there b o e hc) u.tups u.frzs u.tbls (λm' hm=>by obtain⟨o',es',ep',ho',r'⟩:=hm;rw[ho]at ho';cases ho';exact⟨_,es',ep',hL,r'⟩) hok hg
theorem Inv.turned{t':Nat}{it:Addr}(I:Inv X pins σ H s)(k:∀b o,b≠it->s.heap.get? b=some o->h'.get? b=some o)(hn:H it=none)(hL:it≠X.env.locals)(h1:it∈X.ex\/X.s_0.heap.objs.size<=it)(h2:∀x c,X.env.cells.lookup x=some c->c≠it)(h3:∀p∈X.pn++pins,p.1≠it):Inv X pins σ H {s with heap:=h',toks:=t'}:=by
 have nit:∀b u,H b=some u->b≠it:=λb u e z=>by rw[z,hn]at e;cases e
 refine I.step (g':=s.gens) (d':=s.drawn) (ch:=[it]) (λb hb=>?_) (λb o _ _ hc e _=>k b o (λz=>hc (by simp[z])) e) (λb o _ _ hc e _=>⟨o.slots,k b o (λz=>hc (by simp[z])) e⟩) (λ_ _ _ _ n=>n) (λb o hc e=>⟨o,k b o (λz=>hc (by simp[z])) e⟩) (λ_ _ e=>e) (λ_ _ _ e=>e) (λb ps e=>⟨#[],by rw[e];simp⟩) (λm hm=>?_) (λb u e=>?_) I.bare
 ·have e:b=it:=by simpa using hb
  subst e;exact⟨h1,hL,h2,h3⟩
 ·obtain⟨o,es,ep,ho,r⟩:=hm;exact⟨o,es,ep,k _ o (l_ hL) ho,r⟩
 ·refine(I.hok b u e).stay (λc v hc q=>k c v ?_ q) (λ_ q=>q) λ_ _ q=>q;rcases hc with z|z
  ·rw[z];exact nit b u e
  ·exact nit c _ z
theorem Inv.tok(I:Inv X pins σ H s)(t:Nat):Inv X pins σ H {s with toks:=t}:=I.un (h':=s.heap) (t':=t) Un.refl I.hok
theorem Inv.kept{t':Nat}(I:Inv X pins σ H s)(k:∀b u,s.heap.get? b=some u->h'.get? b=some u):Inv X pins σ H {s with heap:=h',toks:=t'}:=I.un (Un.kept k) (I.hok.kept k)
theorem Inv.laid{a:Addr}{o:HO}{t':Nat}(I:Inv X pins σ H s)(k:∀b u,s.heap.get? b=some u->h'.get? b=some u)(hp:s.heap.objs.size<=a)(new:fS X.prog X.w (upd H a o) h' a o):Inv X pins σ (upd H a o) {s with heap:=h',toks:=t'}:=I.un (Un.laid k hp (I.hok.fresh hp)) (I.hok.laid k hp new)
theorem Inv.write{x e:Addr}{o:HO}{t':Nat}(I:Inv X pins σ H s)(mu:Fz (H x))(he:e=x\/H e=some (.own x))(k:∀b u,b≠e->s.heap.get? b=some u->h'.get? b=some u)(heo:∃u,h'.get? e=some u)(new:fS X.prog X.w (upd H x o) h' x o):Inv X pins σ (upd H x o) {s with heap:=h',toks:=t'}:=I.un (Un.write mu he k heo) (I.hok.write mu he k heo new)
theorem Inv.weak{σ':List (Option V)}(I:Inv X pins σ H s)(hl:σ'.length=σ.length)(w:∀(i:Nat)v,σ'[i]?=some (some v)->σ[i]?=some (some v)):Inv X pins σ' H s:=⟨I.ok,I.os,I.bare,I.base,let⟨m,hn,hl'⟩:=I.loc;⟨m,hn,λi x v e1 e2 e3=>hl' i x v e1 (w i v e2) e3⟩,I.cell,I.free,I.freeC,I.pin,I.hok,hl.trans I.len⟩
theorem Inv.pins_of{pins':List (Addr×Obj)}(I:Inv X pins σ H s)(h:∀p∈pins',s.heap.get? p.1=some p.2/\H p.1=none/\p.1≠X.env.locals/\p.1∉X.fs/\∀v,p.2.data≠.cell v):Inv X pins' σ H s:=⟨I.ok,I.os,I.bare,I.base,I.loc,I.cell,I.free,I.freeC,λp hp=>(aD.mp hp).elim (λz=>I.pin p (aQ _ z)) (h p),I.hok,I.len⟩
theorem uz{N:List Str}(hN:N.Nodup){i j:Nat}{x:Str}(a:N[i]?=some x)(b:N[j]?=some x):i=j:=by obtain⟨h1,e1⟩:=aM.mp a;obtain⟨h2,e2⟩:=aM.mp b;exact(List.getElem_inj hN).mp (e1.trans e2.symm)
theorem xo{M:Model}{A:Around}{E:Value->Shared->Prop}{i:Nat}{x:Str}{v:V}{u:Value}{Q:Unit->Shared->Prop}(I:Inv X pins σ H s)(hN:X.N.Nodup)(hi:X.N[i]?=some x)(hx:Loc X.env.scope x)(r:RelV v u)(h:∀s',Inv X pins (σ.set i (some v)) H s'->(∃a,Heap.SameBut a s.heap s'.heap/\(a=X.env.locals\/X.env.cells.lookup x=some a))->Q () s')(hf:X.fn x=true\/X.env.scope.names.lookup x=some .local:=by first|exact .inl rfl|exact .inr rfl|assumption):wpAny M A (storeName X.env x u) Q E s:=by
 obtain⟨m,hn,hl⟩:=id I.loc;have hcls:(X.env.scope.kind==.class||(X.env.scope.kind==.module&&X.env.locals !=X.env.globals))=false:=by rw[I.ok.kind];rfl
 have hiσ:i<σ.length:=by rw[I.len];exact(aM.mp hi).1
 have cne:=I.cne;have tracked:∀{a:Addr}{h':Heap},(∃o,s.heap.get? a=some o/\H a=none)->Heap.SameBut a s.heap h'->nS X.prog X.w H h':=λ{a h'}ha hs b ob e=>by
  obtain⟨_,_,hfree⟩:=ha;refine(I.hok b ob e).stay (λc w' hc q=>(hs.2 c ?_).trans q) (λ_ q=>q) λ_ _ q=>q;rintro rfl;rcases hc with rfl|hc
  ·rw[hfree]at e;cases e
  ·rw[hfree]at hc;cases hc
 rcases hx with hk|hk
 ·refine wpAny_storeName_local hk hn (λh' hn' hs=>?_) hcls;obtain⟨oL,_,_,hoL,_⟩:=id hn;refine h _ ⟨I.ok,I.os,I.bare,⟨λb o e n hb hx=>?_,λb o e n hb hx=>?_,I.base.free,λb o e hx=>?_,I.base.tups,I.base.frzs,I.base.tbls⟩,⟨_,hn',λj y v' e1 e2 e3=>?_⟩,λy c e=>?_,I.free,I.freeC,λp hp=>?_,tracked ⟨oL,hoL,I.free⟩ hs,by simpa using I.len⟩ ⟨_,hs,.inl rfl⟩
  ·exact(hs.2 b (bF (bB (Heap.lt_size e) I.ok.above))).trans (I.base.keep b o e n hb hx)
  ·obtain⟨sl,e1⟩:=I.base.slot b o e n hb hx;exact⟨sl,(hs.2 b (bF (bB (Heap.lt_size e) I.ok.above))).trans e1⟩
  ·obtain⟨o',e1⟩:=I.base.there b o e hx;exact⟨o',(hs.2 b (bF (bB (Heap.lt_size e) I.ok.above))).trans e1⟩
  ·by_cases hj:j=i
   ·subst hj;rw[hi]at e1;cases e1;rw[eS hiσ]at e2;cases e2;exact⟨u,r,.inl ⟨hk,by simp⟩⟩
   ·rw[s_ (l_ hj)]at e2;obtain⟨u',r',q⟩:=hl j y v' e1 e2 e3;refine⟨u',r',?_⟩;rcases q with⟨k,e⟩|⟨k,c,e,z⟩
    ·refine .inl ⟨k,?_⟩;have:y≠x:=λe=>hj (uz hN e1 (e▸hi));simp[this,e]
    ·exact .inr ⟨k,c,e,z.sameBut hs (cne y c e)⟩
  ·obtain⟨w',z⟩:=I.cell y c e;exact⟨w',z.sameBut hs (cne y c e)⟩
  ·obtain⟨e,n,ne,nf,d⟩:=I.pin p hp;exact⟨(hs.2 p.1 ne).trans e,n,ne,nf,d⟩
 ·have hfn:X.fn x=true:=by
   rcases hf with z|z
   ·exact z
   ·rw[z]at hk;cases hk
  obtain⟨c,hc⟩:=I.ok.has x (.inl hk);obtain⟨w',z⟩:=I.cell x c hc;refine wpAny_storeName_cell I.ok.kind hk hc z (λh' hc' hs=>?_);obtain⟨oc,hoc,hocd⟩:=id z;refine h {s with heap:=h'} ⟨I.ok,I.os,I.bare,⟨λb o e n hb hx=>?_,λb o e n hb hx=>?_,I.base.free,λb o e hx=>?_,I.base.tups,I.base.frzs,I.base.tbls⟩,⟨m,hn.sameBut hs (l_ (cne x c hc)),λj y v' e1 e2 e3=>?_⟩,λy c' e=>?_,I.free,I.freeC,λp hp=>?_,tracked ⟨oc,hoc,I.freeC x c hc⟩ hs,by simpa using I.len⟩ ⟨c,hs,.inr hc⟩
  ·exact(hs.2 b (bF (bB (Heap.lt_size e) (I.ok.cab x c hfn hc)))).trans (I.base.keep b o e n hb hx)
  ·obtain⟨sl,e1⟩:=I.base.slot b o e n hb hx;exact⟨sl,(hs.2 b (bF (bB (Heap.lt_size e) (I.ok.cab x c hfn hc)))).trans e1⟩
  ·obtain⟨o',e1⟩:=I.base.there b o e hx;exact⟨o',(hs.2 b (bF (bB (Heap.lt_size e) (I.ok.cab x c hfn hc)))).trans e1⟩
  ·by_cases hj:j=i
   ·subst hj;rw[hi]at e1;cases e1;rw[eS hiσ]at e2;cases e2;exact⟨u,r,.inr ⟨.inl hk,c,hc,hc'⟩⟩
   ·rw[s_ (l_ hj)]at e2;obtain⟨u',r',q⟩:=hl j y v' e1 e2 e3;refine⟨u',r',?_⟩;rcases q with q|⟨k,c',e,z'⟩
    ·exact .inl q
    ·refine .inr ⟨k,c',e,z'.sameBut hs ?_⟩;rintro rfl;exact hj (uz hN e1 (I.ok.inj _ _ _ e hc▸hi))
  ·by_cases hcc:c'=c
   ·subst hcc;exact⟨_,hc'⟩
   ·obtain⟨w2,z2⟩:=I.cell y c' e;exact⟨w2,z2.sameBut hs hcc⟩
  ·obtain⟨e,n,ne,nf,d⟩:=I.pin p hp;refine⟨(hs.2 p.1 ?_).trans e,n,ne,nf,d⟩;intro q;rw[q,hoc]at e;have q':oc=p.2:=a0 e;exact d w' (by rw[<-q'];exact hocd)
theorem zh{M:Model}{A:Around}{E:Value->Shared->Prop}{i:Nat}{x:Str}{v:V}{u:Value}{Q:Unit->Shared->Prop}(I:Inv X pins σ H s)(hN:X.N.Nodup)(hi:X.N[i]?=some x)(hx:Loc X.env.scope x)(r:RelV v u)(h:∀s',Inv X pins (σ.set i (some v)) H s'->Q () s')(hf:X.fn x=true\/X.env.scope.names.lookup x=some .local:=by first|exact .inl rfl|exact .inr rfl|assumption):wpAny M A (storeName X.env x u) Q E s:=xo I hN hi hx r (λs' I' _=>h s' I') hf
theorem Inv.call'{s':Shared}{ch:List Addr}(I:Inv X pins σ H s)(ho:s'.os=s.os)(u:Un (DP X.stack) ch H H' s.heap s'.heap)(hok:nS X.prog X.w H' s'.heap)(hg:AllBare s'.gens)(hch:∀b∈ch,(b∈X.ex\/X.s_0.heap.objs.size<=b)/\b≠X.env.locals/\(∀x c,X.env.cells.lookup x=some c->c≠b)/\∀p∈X.pn++pins,p.1≠b):Inv X pins σ H' s':=by obtain⟨h',g',d',t',o'⟩:=s';have e:o'=s.os:=ho;subst e;exact I.call (g':=g') (t':=t') (d':=d') u hok hg hch
end
abbrev XK:=Value->Option Addr->Hp->Prop
abbrev St:=List (Option V)
abbrev VK:=V->Hp->Prop
abbrev TE:=St->Hp->VK->Prop
abbrev TT:=St->Hp->(Bool->Hp->Prop)->Prop
abbrev TA:=St->Hp->(List V->Hp->Prop)->Prop
structure Ends where
 nx:St->Hp->Prop
 rt:VK
 bk:St->Hp->Prop:=λ_ _=>False
 ct:St->Hp->Prop:=λ_ _=>False
abbrev TS:=Ends->St->Hp->Prop
def EP(X:Cx)(pins:List (Addr×Obj))(σ:St)(Q:VK)(u:Value)(s':Shared):Prop:=∃v H',Inv X pins σ H' s'/\RelV v u/\Q v H'
def TP(X:Cx)(pins:List (Addr×Obj))(σ:St)(Q:Bool->Hp->Prop)(b:Bool)(s':Shared):Prop:=∃H',Inv X pins σ H' s'/\Q b H'
def AP(X:Cx)(pins:List (Addr×Obj))(σ:St)(Q:List V->Hp->Prop)(us:List Value)(s':Shared):Prop:=∃vs H',Inv X pins σ H' s'/\cG vs us/\Q vs H'
def SP(X:Cx)(pins:List (Addr×Obj))(D:Ends)(f:Flow)(s':Shared):Prop:=match f with
 |.next=>∃σ' H',Inv X pins σ' H' s'/\D.nx σ' H'
 |.brk=>∃σ' H',Inv X pins σ' H' s'/\D.bk σ' H'
 |.cont=>∃σ' H',Inv X pins σ' H' s'/\D.ct σ' H'
 |.ret u=>∃v σ' H',Inv X pins σ' H' s'/\RelV v u/\D.rt v H'
def PE(X:Cx)(e:Expr)(t:TE):Prop:=∀(pins:List (Addr×Obj))(s:Shared)(σ:St)(H:Hp)(Q:VK),Inv X pins σ H s->t σ H Q->wpAny (model X.prog X.w) X.A (eval e X.env) (EP X pins σ Q) X.xe s
def PT(X:Cx)(e:Expr)(t:TT):Prop:=∀(pins:List (Addr×Obj))(s:Shared)(σ:St)(H:Hp)(Q:Bool->Hp->Prop),Inv X pins σ H s->t σ H Q->wpAny (model X.prog X.w) X.A (isTrue e X.env (eval e X.env)) (TP X pins σ Q) X.xe s
def PW(X:Cx)(e:Expr)(t:TT):Prop:=∀(whole:Sem Value)(pins:List (Addr×Obj))(s:Shared)(σ:St)(H:Hp)(Q:Bool->Hp->Prop),Inv X pins σ H s->t σ H Q->wpAny (model X.prog X.w) X.A (isTrue e X.env whole) (TP X pins σ Q) X.xe s
theorem PW.pt{X:Cx}{e:Expr}{t:TT}(h:PW X e t):PT X e t:=h _
def PA(X:Cx)(es:List Expr)(t:TA):Prop:=∀(pos:Pos)(pins:List (Addr×Obj))(s:Shared)(σ:St)(H:Hp)(Q:List V->Hp->Prop),Inv X pins σ H s->t σ H Q->wpAny (model X.prog X.w) X.A (spliced (backTo pos (starEach es X.env))) (AP X pins σ Q) X.xe s
def PS(X:Cx)(st:Stmt)(t:TS):Prop:=∀(pins:List (Addr×Obj))(s:Shared)(σ:St)(H:Hp)(D:Ends),Inv X pins σ H s->t D σ H->wpAny (model X.prog X.w) X.A (exec st X.env) (SP X pins D) X.xe s
def BQ(X:Cx)(st:List Stmt)(t:TS):Prop:=∀(pins:List (Addr×Obj))(s:Shared)(σ:St)(H:Hp)(D:Ends),Inv X pins σ H s->t D σ H->wpAny (model X.prog X.w) X.A (execs st X.env) (SP X pins D) X.xe s
theorem eR{α:Type}{t:Sem α}{Q Q':α->Shared->Prop}{M:Model}{A:Around}{E:Value->Shared->Prop}{s:Shared}(h:wpAny M A t Q E s)(hQ:∀a s,Q a s->Q' a s):wpAny M A t Q' E s:=wpAny_mono h hQ λ_ _ x=>x
end L2
namespace L2
open PySem PySem.Spec PyProof.Rows
section
variable {X:Cx}
theorem bin{a b:Expr}{ta tb:TE}(ha:PE X a ta)(hb:PE X b tb){pins:List (Addr×Obj)}{s:Shared}{σ:St}{H:Hp}{R:V->V->Hp->Prop}(I:Inv X pins σ H s)(h:ta σ H λx H1=>tb σ H1 λy H2=>R x y H2){α:Type}{Q:α->Shared->Prop}{f:Value->Value->Sem α}(hf:∀v u s2 x y H2,Inv X pins σ H2 s2->RelV x v->RelV y u->R x y H2->wpAny (model X.prog X.w) X.A (f v u) Q X.xe s2):wpAny (model X.prog X.w) X.A (eval a X.env) (λv s₁=>wpAny (model X.prog X.w) X.A (eval b X.env) (λu s₂=>wpAny (model X.prog X.w) X.A (f v u) Q X.xe s₂) X.xe s₁) X.xe s:=by refine eR (ha pins s σ H _ I h) λv s1⟨x,H1,I1,r1,q1⟩=>?_;refine eR (hb pins s1 σ H1 _ I1 q1) λu s2⟨y,H2,I2,r2,q2⟩=>?_;exact hf v u s2 x y H2 I2 r1 r2 q2
def fg(i:Nat):TE:=λσ H Q=>∃v,σ[i]?=some (some v)/\Q v H
def tC(v:V):TE:=λ_ H Q=>Q v H
theorem Hl{i:Nat}{x:Str}{pos:Pos}(hN:X.N[i]?=some x)(hv:IB X.env.scope x)(hd:(x==("__debug__":Str))=false:=by decide)(hcd:(x==("__classdict__":Str))=false:=by decide):PE X (.Name x pos) (fg i):=by
 intro pins s σ H Q I h;obtain⟨v,e,h⟩:=h;obtain⟨m,hn,hl⟩:=I.loc;obtain⟨u,r,l⟩:=hl i x v hN e hv;have fin:EP X pins σ Q u s:=⟨v,H,I,r,h⟩;rcases l with⟨hk,hm⟩|⟨hk,c,hc,hcell⟩
 ·exact wpAny_Name (wpAny_loadName_local I.ok.kind hk hn hm fin) hd
 ·rcases hk with hk|hk
  ·exact wpAny_Name (wpAny_loadName_cell I.ok.kind hk hc hcell fin) hd
  ·exact wpAny_Name (wpAny_loadName_free I.ok.kind hk hc hcell fin hcd) hd
theorem bI{i j pos}:PE X (.Constant (.int i) j pos) (tC (.int i)):=λ_ _ _ H _ I h=>wpAny_Constant_int ⟨.int i,H,I.tok _,⟨_,rfl⟩,h⟩
theorem iI{b j pos}:PE X (.Constant (.bool b) j pos) (tC (.bl b)):=λ_ _ _ H _ I h=>Constant_bool ⟨.bl b,H,I,rfl,h⟩
theorem pV{j pos}:PE X (.Constant .none j pos) (tC .non):=λ_ _ _ H _ I h=>Constant_none ⟨.non,H,I,rfl,h⟩
def Gl(X:Cx)(x:Str):Prop:=X.env.kindOf x=some .globalImplicit
theorem uj{E:Value->Shared->Prop}{pins:List (Addr×Obj)}{s:Shared}{σ:St}{H:Hp}{x:Str}{u:Value}{pos:Pos}{Q:Value->Shared->Prop}(I:Inv X pins σ H s)(hg:Gl X x)(hm:X.mg x=some u)(h:Q u s)(hd:(x==("__debug__":Str))=false:=by decide):wpAny (model X.prog X.w) X.A (eval (.Name x pos) X.env) Q E s:=Calls.Name_function_global I.ok.kind hg (Calls.loadGlobal_global (by rw[I.ok.glob];exact I.mod.glob.keeps I.bk) hm h) hd
theorem rH{E:Value->Shared->Prop}{pins:List (Addr×Obj)}{s:Shared}{σ:St}{H:Hp}{x:Str}{u:Value}{pos:Pos}{Q:Value->Shared->Prop}(I:Inv X pins σ H s)(hg:Gl X x)(hm:X.mg x=none)(hv:bootBuiltins x=some u)(h:Q u s)(hn:x≠"__name__":=by decide)(hd:(x==("__debug__":Str))=false:=by decide):wpAny (model X.prog X.w) X.A (eval (.Name x pos) X.env) Q E s:=by obtain⟨mb,h1,h2⟩:=I.mod.blt;exact Calls.Name_function_global I.ok.kind hg (Calls.loadGlobal_builtin (by rw[I.ok.glob];exact I.mod.glob.keeps I.bk) hm (by rw[I.ok.blt];exact h1.keeps I.bk) ((h2 x hn).trans hv) h) hd
theorem FL{x:Str}{v:V}{u:Value}{pos:Pos}(hg:Gl X x)(hm:X.mg x=some u)(r:RelV v u)(hd:(x==("__debug__":Str))=false:=by decide):PE X (.Name x pos) (tC v):=λ_ _ _ H _ I h=>uj I hg hm ⟨v,H,I,r,h⟩ hd
variable {a b:Expr}{ta tb:TE}{pos:Pos}
def PC(X:Cx)(op:CmpOp)(a b:Expr)(t:TE):Prop:=∀(pins:List (Addr×Obj))(s:Shared)(σ:St)(H:Hp)(Q:VK),Inv X pins σ H s->t σ H Q->wpAny (model X.prog X.w) X.A (eval a X.env) (λv s₁=>wpAny (model X.prog X.w) X.A (eval b X.env) (λu s₂=>wpAny (model X.prog X.w) X.A (compareOp op v u) (EP X pins σ Q) X.xe s₂) X.xe s₁) X.xe s
theorem zi(b:Expr){op:CmpOp}(h:op≠.In)(h2:op≠.NotIn):behindInMarks op b=false:=by
 have e1:(op==CmpOp.In)=false:=by cases op<;>first|rfl|exact absurd rfl h
 have e2:(op==CmpOp.NotIn)=false:=by cases op<;>first|rfl|exact absurd rfl h2
 cases b<;>simp[behindInMarks,e1,e2]
def tIsN(ta:TE):TE:=λσ H Q=>ta σ H λx H1=>Q (.bl (decide (x=.non))) H1
theorem RelV.none_iff{x:V}{v:Value}(r:RelV x v):(v==Value.none)=decide (x=.non):=by
 cases x with
 |non=>cases r;rfl
 |bl _=>cases r;rfl
 |int _=>obtain⟨t,rfl⟩:=r;rfl
 |str _=>obtain⟨t,rfl⟩:=r;rfl
 |byt _=>obtain⟨t,rfl⟩:=r;rfl
 |flt _=>obtain⟨t,rfl⟩:=r;rfl
 |ref _=>cases r;rfl
 |ty _=>cases r;rfl
theorem x9{j pos'}(ha:PE X a ta):PC X .Is a (.Constant .none j pos') (tIsN ta):=by intro pins s σ H Q I h;refine eR (ha pins s σ H _ I h) λv s1⟨x,H1,I1,r1,q1⟩=>?_;exact Constant_none (is_none_gen ⟨.bl _,H1,I1,by rw[r1.none_iff];rfl,q1⟩)
def tB(t:TE):TT:=λσ H Q=>t σ H λx H1=>∃c,x=.bl c/\Q c H1
theorem uA{op:CmpOp}{t:TE}(h:PC X op a b t)(h1:behindInMarks op b=false:=by first|exact zi _ (by decide) (by decide)|rfl):PE X (.Compare a [op] [b] pos) t:=λpins s σ H Q I hw=>wpAny_Compare1 (h pins s σ H Q I hw) h1
theorem gI{op:CmpOp}{t:TE}(h:PC X op a b t)(h1:behindInMarks op b=false:=by first|exact zi _ (by decide) (by decide)|rfl):PT X (.Compare a [op] [b] pos) (tB t):=by intro pins s σ H Q I hw;refine wpAny_isTrue_Compare1 (eR (h pins s σ H _ I hw) λv s1 h1=>eR h1 λu s2 h2=>eR h2 λc s3⟨x,H1,I1,r1,q1⟩=>?_) h1;obtain⟨d,rfl,q⟩:=q1;cases r1;exact wpAny_truthy_bool ⟨H1,I1,q⟩
theorem fh{e:Expr}{t:TE}(h:PE X e t)(he:∀whole,isTrue e X.env whole=(do let v <-whole;standAt e.pos;holding [v] (truthy v)):=by intro _;rfl):PT X e (tB t):=by intro pins s σ H Q I hw;refine isTrue_plain (eR (h pins s σ H _ I hw) λv s1⟨x,H1,I1,r1,q1⟩=>?_) (he _);obtain⟨d,rfl,q⟩:=q1;cases r1;exact wpAny_truthy_bool ⟨H1,I1,q⟩
variable {tA tB':TT}{rest:List Expr}
def IC(t u:TT):TT:=λσ H Q=>t σ H λc H1=>if c=true then u σ H1 Q else Q false H1
def tOr(t u:TT):TT:=λσ H Q=>t σ H λc H1=>if c=true then Q true H1 else u σ H1 Q
def tNot(t:TT):TT:=λσ H Q=>t σ H λc H1=>Q (!c) H1
theorem uk(ha:PT X a tA):PW X (.BoolOp .And [a] pos) tA:=by
 intro wh pins s σ H Q I h;refine isTrue_and (eR (ha pins s σ H Q I h) λc s1 e=>?_);cases c with
 |true=>exact isTrue_and_nil e
 |false=>exact e
theorem DQ(ha:PT X a tA):PW X (.BoolOp .Or [a] pos) tA:=by
 intro wh pins s σ H Q I h;refine isTrue_or (eR (ha pins s σ H Q I h) λc s1 e=>?_);cases c with
 |false=>exact isTrue_or_nil e
 |true=>exact e
theorem x_(ha:PT X a tA)(hb:PW X (.BoolOp .And (b::rest) pos) tB'):PW X (.BoolOp .And (a::b::rest) pos) (IC tA tB'):=by
 intro wh pins s σ H Q I h;refine isTrue_and (eR (ha pins s σ H _ I h) λc s1⟨H1,I1,q1⟩=>?_);cases c with
 |true=>exact hb wh pins s1 σ H1 Q I1 q1
 |false=>exact⟨H1,I1,q1⟩
theorem GQ(ha:PT X a tA)(hb:PW X (.BoolOp .Or (b::rest) pos) tB'):PW X (.BoolOp .Or (a::b::rest) pos) (tOr tA tB'):=by
 intro wh pins s σ H Q I h;refine isTrue_or (eR (ha pins s σ H _ I h) λc s1⟨H1,I1,q1⟩=>?_);cases c with
 |true=>exact⟨H1,I1,q1⟩
 |false=>exact hb wh pins s1 σ H1 Q I1 q1
theorem jj(ha:PT X a tA):PT X (.UnaryOp .Not a pos) (tNot tA):=by intro pins s σ H Q I h;exact isTrue_not (ha pins s σ H (λc H1=>Q (!c) H1) I h)
def ID(ta tb:TE):TE:=λσ H Q=>ta σ H λx H1=>∃c,x=.bl c/\if c=true then tb σ H1 Q else Q (.bl false) H1
def tOrV(ta tb:TE):TE:=λσ H Q=>ta σ H λx H1=>∃c,x=.bl c/\if c=true then Q (.bl true) H1 else tb σ H1 Q
theorem AI{op}{t:TE}(h:PE X a t):PE X (.BoolOp op [a] pos) t:=λpins s σ H Q I hw=>BoolOp_one (h pins s σ H Q I hw)
theorem DS(ha:PE X a ta)(hb:PE X (.BoolOp .And (b::rest) pos) tb):PE X (.BoolOp .And (a::b::rest) pos) (ID ta tb):=by
 intro pins s σ H Q I h;refine BoolOp_and (eR (ha pins s σ H _ I h) λv s1⟨x,H1,I1,r1,q1⟩=>?_);obtain⟨c,rfl,q1⟩:=q1;cases r1;refine wpAny_truthy_bool ?_;cases c with
 |true=>exact hb pins s1 σ H1 Q I1 q1
 |false=>exact⟨.bl false,H1,I1,rfl,q1⟩
theorem IE(ha:PE X a ta)(hb:PE X (.BoolOp .Or (b::rest) pos) tb):PE X (.BoolOp .Or (a::b::rest) pos) (tOrV ta tb):=by
 intro pins s σ H Q I h;refine BoolOp_or (eR (ha pins s σ H _ I h) λv s1⟨x,H1,I1,r1,q1⟩=>?_);obtain⟨c,rfl,q1⟩:=q1;cases r1;refine wpAny_truthy_bool ?_;cases c with
 |false=>exact hb pins s1 σ H1 Q I1 q1
 |true=>exact⟨.bl true,H1,I1,rfl,q1⟩
end
end L2
namespace L2
open PySem PySem.Spec PyProof.Rows
def bZ(K:aj)(H:Hp)(a:Addr)(xs:List V):Prop:=Rd H a (.lst xs)\/∃(o:Obj)(its:Array Value)(n:Nat),K.lookup a=some o/\o.cls=.type "list"/\o.dict=none/\o.data=.seq its n/\its.size<=sizeLine/\cG xs its.toList
def xp(K:aj)(H:Hp)(a:Addr)(xs:List V):Prop:=Rd H a (.tup xs)\/∃(o:Obj)(its:Array Value)(n:Nat),K.lookup a=some o/\o.cls=.type "tuple"/\o.data=.seq its n/\its.size<=sizeLine/\cG xs its.toList
def absV:Value->Option V
 |.none=>some .non
 |.bool b=>some (.bl b)
 |.int i _=>some (.int i)
 |.str x _=>some (.str x)
 |.bytes b _=>some (.byt b)
 |.float b _=>some (.flt b)
 |.ref a=>some (.ref a)
 |.type n=>some (.ty n)
 |_=>none
theorem RelV.abs{x:V}{u:Value}(r:RelV x u):absV u=some x:=by
 cases x with
 |non=>cases r;rfl
 |bl _=>cases r;rfl
 |int _=>obtain⟨t,rfl⟩:=r;rfl
 |str _=>obtain⟨t,rfl⟩:=r;rfl
 |byt _=>obtain⟨t,rfl⟩:=r;rfl
 |flt _=>obtain⟨t,rfl⟩:=r;rfl
 |ref _=>cases r;rfl
 |ty _=>cases r;rfl
theorem RelV.inj{x y:V}{u:Value}(r:RelV x u)(q:RelV y u):x=y:=a0 (r.abs.symm.trans q.abs)
theorem cG.inj:∀{xs ys:List V}{us:List Value},cG xs us->cG ys us->xs=ys
 |_,_,_,.nil,.nil=>rfl
 |_,_,_,.cons r t,.cons r' t'=>by rw[r.inj r',cG.inj t t']
section
variable {X:Cx}{pins:List (Addr×Obj)}{σ:St}{H:Hp}{s:Shared}{a:Addr}{xs ys:List V}
theorem bZ.of{K:aj}(h:H a=some (.lst xs)):bZ K H a xs:=.inl (.inl h)
theorem xp.of{K:aj}(h:H a=some (.tup xs)):xp K H a xs:=.inl (.inl h)
theorem Inv.list(I:Inv X pins σ H s)(h:bZ X.K H a xs):∃its:List Value,cG xs its/\PlainL s.heap a its.toArray/\xs.length<=sizeLine:=by
 rcases h with h|⟨o,its,n,hk,hc,hd,hs,hz,r⟩
 ·obtain⟨z,its,n,r,e⟩:=h.ok I.hok;exact⟨its,r,⟨_,n,e,rfl,rfl,rfl⟩,z⟩
 ·refine⟨its.toList,r,⟨o,n,I.kIn a o hk,hc,hd,by simpa using hs⟩,?_⟩;have e:=r.length;simp only[dU]at e;omega
theorem Inv.tuple(I:Inv X pins σ H s)(h:xp X.K H a xs):∃its:List Value,cG xs its/\IsTup s.heap a its.toArray/\xs.length<=sizeLine:=by
 rcases h with h|⟨o,its,n,hk,hc,hs,hz,r⟩
 ·obtain⟨z,its,r,p⟩:=h.ok I.hok;exact⟨its,r,p,z⟩
 ·refine⟨its.toList,r,⟨o,I.kIn a o hk,hc,n,by simpa using hs⟩,?_⟩;have e:=r.length;simp only[dU]at e;omega
theorem Inv.list_inj(I:Inv X pins σ H s)(h:bZ X.K H a xs)(h':bZ X.K H a ys):xs=ys:=by
 obtain⟨its,r,⟨o,n,e,_,_,d⟩,_⟩:=I.list h;obtain⟨its',r',⟨o',n',e',_,_,d'⟩,_⟩:=I.list h';rw[e]at e';cases e';rw[d]at d';injection d' with d1 _;have:its=its':=by simpa using congrArg Array.toList d1
 subst this;exact r.inj r'
end
abbrev Cx.wish(X:Cx)(E:Value->Shared->Prop):Cx:={X with xe:=E}
abbrev Cx.nox(X:Cx):Cx:=X.wish λ_ _=>False
theorem Cx.Ok.wish{X:Cx}(ok:X.Ok)(E:Value->Shared->Prop):(X.wish E).Ok:=⟨ok.mod,ok.kind,ok.glob,ok.blt,ok.above,ok.inj,ok.has,ok.cab,ok.hd,ok.frames,ok.stk,ok.exf,ok.bs,ok.bsz,ok.noex,ok.exfs,ok.funs,ok.frf⟩
theorem Cx.Ok.unwish{X:Cx}{E:Value->Shared->Prop}(ok:(X.wish E).Ok):X.Ok:=⟨ok.mod,ok.kind,ok.glob,ok.blt,ok.above,ok.inj,ok.has,ok.cab,ok.hd,ok.frames,ok.stk,ok.exf,ok.bs,ok.bsz,ok.noex,ok.exfs,ok.funs,ok.frf⟩
section
variable {X:Cx}{pins:List (Addr×Obj)}{σ:St}{H:Hp}{s:Shared}{E:Value->Shared->Prop}
theorem Inv.wish(I:Inv X pins σ H s)(E:Value->Shared->Prop):Inv (X.wish E) pins σ H s:=⟨I.ok.wish E,I.os,I.bare,I.base,I.loc,I.cell,I.free,I.freeC,I.pin,I.hok,I.len⟩
theorem Inv.unwish(I:Inv (X.wish E) pins σ H s):Inv X pins σ H s:=⟨I.ok.unwish,I.os,I.bare,I.base,I.loc,I.cell,I.free,I.freeC,I.pin,I.hok,I.len⟩
theorem SP.unwish{D:Ends}{f:Flow}{s':Shared}(h:SP (X.wish E) pins D f s'):SP X pins D f s':=by
 cases f with
 |next=>obtain⟨σ',H',I,q⟩:=h;exact⟨σ',H',I.unwish,q⟩
 |brk=>obtain⟨σ',H',I,q⟩:=h;exact⟨σ',H',I.unwish,q⟩
 |cont=>obtain⟨σ',H',I,q⟩:=h;exact⟨σ',H',I.unwish,q⟩
 |ret u=>obtain⟨v,σ',H',I,r,q⟩:=h;exact⟨v,σ',H',I.unwish,r,q⟩
theorem BQ.nox{st:List Stmt}{t:TS}(h:BQ X.nox st t):BQ X st t:=λpins s σ H D I hw=>
 wpAny_mono (h pins s σ H D (I.wish _) hw) (λ_ _ q=>q.unwish) λ_ _ z=>dB z
end
section
variable {X:Cx}{st:Stmt}{rest:List Stmt}{t u:TS}{e:Expr}{te:TE}{pos:Pos}
def DT:TS:=λD σ H=>D.nx σ H
def AJ(t u:TS):TS:=λD σ H=>t {D with nx:=u D} σ H
theorem aX:BQ X [] DT:=λ_ _ σ H _ I h=>wpAny_execs_nil ⟨σ,H,I,h⟩
theorem aq(h1:PS X st t)(h2:BQ X rest u):BQ X (st::rest) (AJ t u):=by
 intro pins s σ H D I h;refine wpAny_execs_cons (eR (h1 pins s σ H {D with nx:=u D} I h) λf s1 q=>?_);cases f with
 |next=>
  obtain⟨σ',H',I',q⟩:=q
  exact h2 pins s1 σ' H' D I' q
 |ret v=>exact q
 |brk=>exact q
 |cont=>exact q
theorem aw(h1:PS X st t):BQ X [st] t:=by
 intro pins s σ H D I h;refine wpAny_execs_cons (eR (h1 pins s σ H D I h) λf s1 q=>?_);cases f with
 |next=>exact wpAny_execs_nil q
 |ret v=>exact q
 |brk=>exact q
 |cont=>exact q
theorem Inv.quiet{pins:List (Addr×Obj)}{σ:St}{H:Hp}{s:Shared}(I:Inv X pins σ H s):interactive X.env=false:=by simp[interactive,I.ok.kind]
def xq(te:TE):TS:=λD σ H=>te σ H λ_ H1=>D.nx σ H1
theorem dr(he:PE X e te)(hs:swapsWith e none pos.line X.env=pure false:=by rfl):PS X (.Expr e pos) (xq te):=by intro pins s σ H D I h;exact wpAny_Expr_any (eR (he pins s σ H _ I h) λv s1⟨x,H1,I1,r1,q1⟩=>⟨σ,H1,I1,q1⟩) I.quiet hs
def FN(te:TE):TS:=λD σ H=>te σ H D.rt
theorem aL(he:PE X e te):PS X (.Return (some e) pos) (FN te):=by intro pins s σ H D I h;exact wpAny_Return_some (eR (he pins s σ H _ I h) λv s1⟨x,H1,I1,r1,q1⟩=>⟨x,σ,H1,I1,r1,q1⟩)
def FO(c:TT)(t u:TS):TS:=λD σ H=>c σ H λb H1=>if b=true then t D σ H1 else u D σ H1
theorem bH{c:Expr}{a b:List Stmt}{tc:TT}(hc:PT X c tc)(ha:BQ X a t)(hb:BQ X b u):PS X (.If c a b pos) (FO tc t u):=by
 intro pins s σ H D I h;refine wpAny_If (eR (hc pins s σ H _ I h) λd s1⟨H1,I1,q1⟩=>?_);cases d with
 |true=>exact ha pins s1 σ H1 D I1 q1
 |false=>exact hb pins s1 σ H1 D I1 q1
def Hm:TS:=λ_ _ _=>False
theorem CF{sts:List Stmt}:BQ X sts Hm:=λ_ _ _ _ _ _ h=>h.elim
end
abbrev TG:=V->St->Hp->(St->Hp->Prop)->Prop
def PG(X:Cx)(target:Expr)(t:TG):Prop:=∀(pins:List (Addr×Obj))(s:Shared)(σ:St)(H:Hp)(v:V)(u:Value)(Q:St->Hp->Prop),Inv X pins σ H s->RelV v u->t v σ H Q->wpAny (model X.prog X.w) X.A (assign target X.env u) (λ_ s'=>∃σ' H',Inv X pins σ' H' s'/\Q σ' H') X.xe s
section
variable {X:Cx}{pos:Pos}
def kJ(i:Nat):TG:=λv σ H Q=>Q (σ.set i (some v)) H
theorem bJ{i:Nat}{x:Str}(hN:X.N.Nodup)(hi:X.N[i]?=some x)(hx:Loc X.env.scope x)(hf:X.fn x=true\/X.env.scope.names.lookup x=some .local:=by first|exact .inl rfl|exact .inr rfl|assumption):PG X (.Name x pos) (kJ i):=by intro pins s σ H v u Q I r h;exact wpAny_assign_Name (zh I hN hi hx r (λs' I'=>⟨_,H,I',h⟩) hf)
def FP(te:TE)(g:TG):TS:=λD σ H=>te σ H λx H1=>g x σ H1 D.nx
theorem ba{i:Nat}{x:Str}{e:Expr}{te:TE}{pos':Pos}(hN:X.N.Nodup)(hi:X.N[i]?=some x)(hx:Loc X.env.scope x)(he:PE X e te)(hs:swapsWith e (some (.Name x pos')) pos.line X.env=pure false:=by rfl)(hf:X.fn x=true\/X.env.scope.names.lookup x=some .local:=by first|exact .inl rfl|exact .inr rfl|assumption):PS X (.Assign [.Name x pos'] e pos) (FP te (kJ i)):=by intro pins s σ H D I h;refine wpAny_Assign_Name (eR (he pins s σ H _ I h) λv s1⟨y,H1,I1,r1,q1⟩=>?_) hs;exact zh I1 hN hi hx r1 (λs2 I2=>⟨_,H1,I2,q1⟩) hf
end
section
variable {X:Cx}{pos:Pos}
def DU(c:TT)(tb:TS):TS:=λD σ H=>∃W:Nat->St->Hp->Prop,(∃m,W m σ H)/\∀m σ H,W m σ H->c σ H λb H1=>if b=true then ∃N:St->Hp->Prop,(∀σ' H',N σ' H'->∃m',m'<m/\W m' σ' H')/\tb {D with nx:=N,ct:=N,bk:=D.nx} σ H1 else D.nx σ H1
theorem jd{c:Expr}{body:List Stmt}{tc:TT}{tb:TS}(hp:PassesOwn (model X.prog X.w) X.A X.env X.xe)(hc:PT X c tc)(hb:BQ X body tb):PS X (.While c body [] pos) (DU tc tb):=by
 intro pins s σ H D I h;obtain⟨W,⟨m0,w0⟩,turn⟩:=h;refine wpAny_While (codeAny_whileLoop (λn s'=>∃σ' H',Inv X pins σ' H' s'/\W n σ' H') ?_ m0 ⟨σ,H,I,w0⟩);rintro n s1⟨σ1,H1,I1,w1⟩;refine wpAny_passesOwn hp (eR (hc pins s1 σ1 H1 _ I1 (turn n σ1 H1 w1)) λb s2⟨H2,I2,q2⟩=>?_);cases b with
 |true=>
  obtain⟨N,hN,q2⟩:=q2
  rw[if_pos rfl]
  refine wpAny_passesOwn hp (eR (hb pins s2 σ1 H2 _ I2 q2) λf s3 q3=>?_)
  cases f with
  |next=>
   obtain⟨σ3,H3,I3,n3⟩:=q3
   obtain⟨m',hm,w3⟩:=hN σ3 H3 n3
   exact⟨m',hm,σ3,H3,I3,w3⟩
  |cont=>
   obtain⟨σ3,H3,I3,n3⟩:=q3
   obtain⟨m',hm,w3⟩:=hN σ3 H3 n3
   exact⟨m',hm,σ3,H3,I3,w3⟩
  |brk=>exact q3
  |ret v=>exact q3
 |false=>
  rw[if_neg aI]
  exact wpAny_execs_nil ⟨σ1,H2,I2,q2⟩
end
structure It where
 go:Nat->Hp->Prop
 yld:Nat->Hp->V->Hp->Prop
 stop:Nat->Hp->Prop
def wm(X:Cx)(pins:List (Addr×Obj))(H:Hp)(b:Addr):Prop:=H b=none/\b≠X.env.locals/\b∉X.fs/\(b∈X.ex\/X.s_0.heap.objs.size<=b)/\(∀x c,X.env.cells.lookup x=some c->c≠b)/\∀p∈X.pn++pins,p.1≠b
theorem Inv.fpOk{X:Cx}{pins:List (Addr×Obj)}{σ:St}{H H':Hp}{s:Shared}{b:Addr}(I:Inv X pins σ H s)(hb:s.heap.objs.size<=b)(hn:H' b=none):wm X pins H' b:=by
 refine⟨hn,qr (bB I.lt hb),I.nofs hb,.inr (ay I.sz hb),λx c e z=>?_,λp hp z=>?_⟩
 ·obtain⟨v,q⟩:=I.cell x c e;exact absurd (bB q.lt (by rw[z];exact hb)) (dJ _)
 ·exact absurd (bB (Heap.lt_size (I.pin p hp).1) (by rw[z];exact hb)) (dJ _)
structure Turn(P:Program)(w:World)(K:aj)(tg:Expr)(J:It)(fp:List Addr)(it:Addr)(tn:Nat->Heap->Prop):Prop where
 mem:it∈fp
 obj:∀i h,tn i h->∀b∈fp,∃o,h.get? b=some o/\∀v,o.data≠.cell v
 keep:∀i h h',tn i h->(∀b∈fp,∀o,h.get? b=some o->h'.get? b=some o)->tn i h'
 item:∀(X:Cx),X.prog=P->X.w=w->X.K=K->X.calm=true->∀(i:Nat)(pins:List (Addr×Obj))(s:Shared)(σ:St)(H:Hp)(E:Value->Shared->Prop),Inv X pins σ H s->(∀b∈fp,wm X pins H b)->tn i s.heap->J.go i H->wpAny (model P w) X.A (pyNext (.ref it)) (λr s1=>∃u,r=some u/\wpAny (model P w) X.A (letOwnedTupleGo tg (.ref it) u) (λ_ s2=>∃x H',Inv X pins σ H' s2/\RelV x u/\J.yld i H x H'/\tn (i+1) s2.heap/\∀b∈fp,H' b=none) E s1) E s
 done:∀(X:Cx),X.prog=P->X.w=w->X.K=K->X.calm=true->∀(i:Nat)(pins:List (Addr×Obj))(s:Shared)(σ:St)(H:Hp)(E:Value->Shared->Prop),Inv X pins σ H s->(∀b∈fp,wm X pins H b)->tn i s.heap->J.stop i H->wpAny (model P w) X.A (pyNext (.ref it)) (λr s1=>r=none/\Inv X pins σ H s1) E s
 self:∀(A:Around)(i:Nat)(s:Shared)(Q:Value->Shared->Prop)(E:Value->Shared->Prop),tn i s.heap->Q (.ref it) s->wpAny (model P w) A (pyIter (.ref it)) Q E s
abbrev TI:=St->Hp->(It->Hp->Prop)->Prop
def PIE(X:Cx)(pins:List (Addr×Obj))(σ:St)(tg:Expr)(R:It->Hp->Prop)(itv:Value)(s2:Shared):Prop:=∃(it:Addr)(fp:List Addr)(tn:Nat->Heap->Prop)(J:It)(H':Hp),itv=.ref it/\Inv X pins σ H' s2/\Turn X.prog X.w X.K tg J fp it tn/\tn 0 s2.heap/\(∀b∈fp,wm X pins H' b)/\R J H'
def PI(X:Cx)(tg iter:Expr)(wi:TI):Prop:=∀(pins:List (Addr×Obj))(s:Shared)(σ:St)(H:Hp)(R:It->Hp->Prop),Inv X pins σ H s->wi σ H R->wpAny (model X.prog X.w) X.A (eval iter X.env) (λv s1=>wpAny (model X.prog X.w) X.A (pyIter v) (PIE X pins σ tg R) X.xe s1) X.xe s
theorem uB{M:Model}{A:Around}{E:Value->Shared->Prop}{s:Shared}{tg:Expr}{it:Addr}{u:Value}{o:Obj}{n:String}{vs:Array Value}{Q:Unit->Shared->Prop}(ho:s.heap.get? it=some o)(hc:o.cls=.type n)(hd:o.data=.fields vs)(hn:["enumerate","zip","dict_itemiterator","dict_reverseitemiterator","odict_iterator","itertools.zip_longest","itertools.pairwise"].contains n=false)(hQ:Q () s):wpAny M A (letOwnedTupleGo tg (.ref it) u) Q E s:=by
 unfold letOwnedTupleGo;cases tg<;>first
  |exact wpAny_pure hQ
  |(cases u<;>first
    |exact wpAny_pure hQ
    |(refine wpAny_bind (wpAny_load ho ?_);rw[hc,hd];show wpAny M A (if(["enumerate","zip","dict_itemiterator","dict_reverseitemiterator","odict_iterator","itertools.zip_longest","itertools.pairwise"].contains n&&vs[0]?==some (rawInt _))=true then _ else _) Q E s;rw[if_neg (by intro h;rw[hn,Bool.false_and]at h;cases h)];exact wpAny_pure hQ))
def BR(K:aj)(a:Addr):It:=⟨λi H=>∃xs x,bZ K H a xs/\xs[i]?=some x,λi H x H'=>H'=H/\∀xs,bZ K H a xs->xs[i]?=some x,λi H=>∃xs,bZ K H a xs/\xs.length<=i⟩
def Jo(lo:Int)(n:Nat):It:=⟨λi _=>i<n,λi H x H'=>H'=H/\x=.int (lo+i),λi _=>n<=i⟩
theorem CG{P:Program}{w:World}{K:aj}{tg:Expr}(a it:Addr):Turn P w K tg (BR K a) [it] it (λi h=>h.IsListIter it a i) where
 mem:=by simp
 obj:=λi h st b hb=>by
  have e:b=it:=by simpa using hb
  subst e;obtain⟨o,e,c,d⟩:=st;exact⟨o,e,λv z=>by rw[d]at z;cases z⟩
 keep:=λi h h' st k=>st.at λo e=>k it (by simp) o e
 item:=by intro X hP hw hK hc i pins s σ H E I hf st hg;subst hP hw hK;obtain⟨xs,x,hq,hx⟩:=hg;obtain⟨its,rv,p,hz⟩:=I.list hq;obtain⟨u,hu,ru⟩:=rv.get hx;obtain⟨f0,f1,f2,f3,f4,f5⟩:=hf it (by simp);refine wpAny_pyNext_list_item st p.isList (x:=u) (by simpa using hu) λh' st' sb=>?_;have I1:Inv X pins σ H {s with heap:=h'}:=I.turned (t':=s.toks) (λb o hb e=>(sb.2 b hb).trans e) f0 f1 f3 f4 f5;obtain⟨o,e,c,d⟩:=id st';exact⟨u,rfl,uB (s:={s with heap:=h'}) e c d (by decide) ⟨x,H,I1,ru,⟨rfl,λys hy=>by rw[I.list_inj hy hq];exact hx⟩,st',λb hb=>(hf b hb).1⟩⟩
 done:=by intro X hP hw hK hc i pins s σ H E I hf st hg;subst hP hw hK;obtain⟨xs,hq,hx⟩:=hg;obtain⟨its,rv,p,hz⟩:=I.list hq;obtain⟨f0,f1,f2,f3,f4,f5⟩:=hf it (by simp);have hl:=rv.length;exact wpAny_pyNext_list_end (I.ok.hd hc) st p.isList (by simp;omega) λh' eb=>⟨rfl,I.turned (t':=s.toks) (λb o hb e=>eb b o hb e) f0 f1 f3 f4 f5⟩
 self:=λ_ _ _ _ _ st h=>wpAny_pyIter_listiter st h
theorem Hn{P:Program}{w:World}{K:aj}{tg:Expr}(it:Addr)(lo:Int)(n:Nat):Turn P w K tg (Jo lo n) [it] it (λi h=>IsRangeIter h it (lo+(i:Nat)*1) ((n:Int)-(i:Nat)) 1) where
 mem:=by simp
 obj:=λi h st b hb=>by
  have e:b=it:=by simpa using hb
  subst e;exact⟨_,st,λv z=>by have z':Data.fields _=Data.cell v:=z;cases z'⟩
 keep:=λi h h' st k=>k it (by simp) _ st
 item:=by intro X hP hw hK hc i pins s σ H E I hf st hg;subst hP hw hK;obtain⟨f0,f1,f2,f3,f4,f5⟩:=hf it (by simp);have W:=Walks.range (prog:=X.prog) (w:=X.w) (I.ok.hd hc) it lo 1 n;refine W.item i s _ _ hg st λv h' tk hv st' kk=>?_;obtain⟨t,rfl⟩:=hv;have I1:Inv X pins σ H {s with heap:=h',toks:=tk}:=I.turned (λb o hb e=>kk b o (by simpa using hb) e) f0 f1 f3 f4 f5;refine⟨_,rfl,uB (s:={s with heap:=h',toks:=tk}) (n:="range_iterator") st' rfl rfl (by decide) ⟨.int (lo+i),H,I1,⟨t,?_⟩,⟨rfl,rfl⟩,st',λb hb=>(hf b hb).1⟩⟩;rw[Int.mul_one]
 done:=by intro X hP hw hK hc i pins s σ H E I hf st hg;subst hP hw hK;obtain⟨f0,f1,f2,f3,f4,f5⟩:=hf it (by simp);exact wpAny_pyNext_range_end (I.ok.hd hc) st (by have:n<=i:=hg;omega) λh' eb=>⟨rfl,I.turned (t':=s.toks) (λb o hb e=>eb b o hb e) f0 f1 f3 f4 f5⟩
 self:=λ_ _ _ _ _ st h=>wpAny_pyIter_rangeiter st h
end L2
namespace L2
open PySem PySem.Spec PyProof.Rows
section
variable {X:Cx}{tg:Expr}
def BS(K:aj)(tl:TE):TI:=λσ H R=>tl σ H λx H1=>∃a,x=.ref a/\(∃xs,bZ K H1 a xs)/\R (BR K a) H1
theorem cK{l:Expr}{tl:TE}(hl:PE X l tl):PI X tg l (BS X.K tl):=by
 intro pins s σ H R I h;refine eR (hl pins s σ H _ I h) λv s1⟨x,H1,I1,r1,q1⟩=>?_;obtain⟨a,e,⟨xs,hq⟩,q⟩:=q1;subst e;cases r1;obtain⟨its,rv,p,hz⟩:=I1.list hq;refine wpAny_pyIter_list p.isList ?_;refine⟨s1.heap.objs.size,[s1.heap.objs.size],_,_,H1,rfl,I1.kept (t':=s1.toks) λb o e=>Heap.get?_push_of_some _ e,CG a _,⟨_,Heap.get?_push_size _ rfl,rfl,rfl⟩,λb hb=>?_,q⟩;have e:b=s1.heap.objs.size:=by simpa using hb
 subst e;exact I1.fpOk (aN _) (I1.hok.fresh (aN _))
def FQ(wi:TI)(g:TG)(tb:TS):TS:=λD σ H=>wi σ H λJ H1=>∃W:Nat->Nat->St->Hp->Prop,(∃m,W 0 m σ H1)/\∀i m σ H,W i m σ H->(J.stop i H/\D.nx σ H)\/(J.go i H/\∃N:St->Hp->Prop,(∀σ' H',N σ' H'->∃m',m'<m/\W (i+1) m' σ' H')/\∀x H',J.yld i H x H'->g x σ H' λσ2 H2=>tb {D with nx:=N,ct:=N,bk:=D.nx} σ2 H2)
def uC(fp:List Addr)(h:Heap):List (Addr×Obj):=fp.filterMap λb=>(h.get? b).map λo=>(b,o)
theorem pX{fp:List Addr}{h:Heap}{b:Addr}{o:Obj}(hb:b∈fp)(e:h.get? b=some o):(b,o)∈uC fp h:=Ih.mpr ⟨b,hb,by rw[e];rfl⟩
theorem CH{fp:List Addr}{h:Heap}{p:Addr×Obj}(hp:p∈uC fp h):p.1∈fp/\h.get? p.1=some p.2:=by
 obtain⟨b,hb,e⟩:=Ih.mp hp;cases q:h.get? b with
 |none=>rw[q]at e;cases e
 |some o=>
  rw[q]at e
  have e':(b,o)=p:=a0 e
  subst e'
  exact⟨hb,q⟩
theorem Inv.pinned{pins:List (Addr×Obj)}{σ:St}{H:Hp}{s:Shared}{fp:List Addr}(I:Inv X pins σ H s)(hf:∀b∈fp,wm X pins H b)(ho:∀b∈fp,∃o,s.heap.get? b=some o/\∀v,o.data≠.cell v):Inv X (pins++uC fp s.heap) σ H s:=I.pins_of λp hp=>(aD.mp hp).elim (λz=>I.pin p (bN _ z)) λz=>by obtain⟨hb,e⟩:=CH z;obtain⟨f0,f1,f2,_⟩:=hf p.1 hb;obtain⟨o,e',d⟩:=ho p.1 hb;rw[e]at e';cases e';exact⟨e,f0,f1,f2,d⟩
theorem Inv.unpinned{pins pl:List (Addr×Obj)}{σ:St}{H:Hp}{s:Shared}(I:Inv X (pins++pl) σ H s):Inv X pins σ H s:=I.pins_of λp hp=>I.pin p (bN _ (aQ _ hp))
theorem dI{iter:Expr}{body:List Stmt}{wi:TI}{g:TG}{tb:TS}{pos:Pos}(hp:PassesOwn (model X.prog X.w) X.A X.env X.xe)(hc:X.calm=true)(hi:PI X tg iter wi)(hg:PG X tg g)(hb:BQ X body tb)(hs:∀x,foldedSetIterable iter X.env x=pure x:=by intro _;rfl):PS X (.For tg iter body [] pos) (FQ wi g tb):=by
 intro pins s σ H D I h;refine wpAny_For (eR (hi pins s σ H _ I h) λv s1 h1=>eR h1 λitv s2 h2=>?_) hs;obtain⟨it,fp,tn,J,H2,e,I2,T,st2,f2,W,⟨m0,w0⟩,turn⟩:=h2;subst e;have stat:∀{H':Hp},(∀b∈fp,H' b=none)->∀b∈fp,wm X pins H' b:=λhn b hb=>⟨hn b hb,(f2 b hb).2⟩;refine codeAny_forLoop_any (λn s'=>∃i σ' H',Inv X pins σ' H' s'/\tn i s'.heap/\(∀b∈fp,H' b=none)/\W i n σ' H') ?_ m0 ⟨0,σ,H2,I2,st2,λb hb=>(f2 b hb).1,w0⟩;rintro n s3⟨i,σ3,H3,I3,st3,fr3,w3⟩;rcases turn i n σ3 H3 w3 with⟨stop,qn⟩|⟨go,N,hN,step⟩
 ·refine wpAny_passesOwn hp (eR (T.done X rfl rfl rfl hc i pins s3 σ3 H3 X.xe I3 (stat fr3) st3 stop) λr s4⟨hr,I4⟩=>?_);subst hr;exact wpAny_execs_nil ⟨σ3,H3,I4,qn⟩
 ·refine wpAny_passesOwn hp (eR (T.item X rfl rfl rfl hc i pins s3 σ3 H3 X.xe I3 (stat fr3) st3 go) λr s4⟨u,hr,h4⟩=>?_);subst hr;refine wpAny_passesOwn hp (eR h4 λ_ s5⟨x,H5,I5,r5,y5,st5,fr5⟩=>?_);have I5':=I5.pinned (stat fr5) (T.obj _ _ st5);refine wpAny_passesOwn hp (eR (hg _ s5 σ3 H5 x u _ I5' r5 (step x H5 y5)) λ_ s6⟨σ6,H6,I6,q6⟩=>?_);refine wpAny_passesOwn hp (eR (hb _ s6 σ6 H6 _ I6 q6) λf s7 q7=>?_);have again:∀{σ7:St}{H7:Hp},Inv X (pins++uC fp s5.heap) σ7 H7 s7->N σ7 H7->∃m,m<n/\∃i σ' H',Inv X pins σ' H' s7/\tn i s7.heap/\(∀b∈fp,H' b=none)/\W i m σ' H':=λ{σ7 H7}I7 n7=>by obtain⟨m',hm,w7⟩:=hN σ7 H7 n7;refine⟨m',hm,i+1,σ7,H7,I7.unpinned,T.keep _ _ _ st5 λb hb o e=>(I7.pin (b,o) (bN _ (bN _ (pX hb e)))).1,λb hb=>?_,w7⟩;obtain⟨o,e,d⟩:=T.obj _ _ st5 b hb;exact(I7.pin (b,o) (bN _ (bN _ (pX hb e)))).2.1
  cases f with
  |next=>obtain⟨σ7,H7,I7,n7⟩:=q7;exact again I7 n7
  |cont=>obtain⟨σ7,H7,I7,n7⟩:=q7;exact again I7 n7
  |brk=>obtain⟨σ7,H7,I7,q7⟩:=q7;exact⟨σ7,H7,I7.unpinned,q7⟩
  |ret v=>obtain⟨x7,σ7,H7,I7,r7,q7⟩:=q7;exact⟨x7,σ7,H7,I7.unpinned,r7,q7⟩
end
theorem eK{K:aj}{a:Addr}{xs:List V}{g:TG}{tb:TS}{D:Ends}{σ:St}{H:Hp}(Pv:Nat->St->Hp->Prop)(h0:Pv 0 σ H)(hl:∀i σ H,i<=xs.length->Pv i σ H->bZ K H a xs)(hs:∀i x σ H,xs[i]?=some x->Pv i σ H->g x σ H λσ2 H2=>tb {D with nx:=Pv (i+1),ct:=Pv (i+1),bk:=D.nx} σ2 H2)(hd:∀σ H,Pv xs.length σ H->D.nx σ H):∃W:Nat->Nat->St->Hp->Prop,(∃m,W 0 m σ H)/\∀i m σ H,W i m σ H->((BR K a).stop i H/\D.nx σ H)\/((BR K a).go i H/\∃N:St->Hp->Prop,(∀σ' H',N σ' H'->∃m',m'<m/\W (i+1) m' σ' H')/\∀x H',(BR K a).yld i H x H'->g x σ H' λσ2 H2=>tb {D with nx:=N,ct:=N,bk:=D.nx} σ2 H2):=by
 refine⟨λi m σ H=>m=xs.length-i/\i<=xs.length/\Pv i σ H,⟨xs.length,by simp,aV _,h0⟩,?_⟩;rintro i m σ H⟨rfl,hi,p⟩;have q:=hl i σ H hi p;by_cases hlt:i<xs.length
 ·refine .inr ⟨⟨xs,xs[i],q,by simp[hlt]⟩,Pv (i+1),λσ' H' p'=>⟨xs.length-(i+1),by omega,rfl,hlt,p'⟩,λx H' y=>?_⟩;obtain⟨e,y⟩:=y;subst e;exact hs i x σ _ (y xs q) p
 ·have e:i=xs.length:=by omega
  subst e;exact .inl ⟨⟨xs,q,aN _⟩,hd σ H p⟩
theorem Im{lo:Int}{n:Nat}{g:TG}{tb:TS}{D:Ends}{σ:St}{H:Hp}(Pv:Nat->St->Hp->Prop)(h0:Pv 0 σ H)(hs:∀i σ H,i<n->Pv i σ H->g (.int (lo+i)) σ H λσ2 H2=>tb {D with nx:=Pv (i+1),ct:=Pv (i+1),bk:=D.nx} σ2 H2)(hd:∀σ H,Pv n σ H->D.nx σ H):∃W:Nat->Nat->St->Hp->Prop,(∃m,W 0 m σ H)/\∀i m σ H,W i m σ H->((Jo lo n).stop i H/\D.nx σ H)\/((Jo lo n).go i H/\∃N:St->Hp->Prop,(∀σ' H',N σ' H'->∃m',m'<m/\W (i+1) m' σ' H')/\∀x H',(Jo lo n).yld i H x H'->g x σ H' λσ2 H2=>tb {D with nx:=N,ct:=N,bk:=D.nx} σ2 H2):=by
 refine⟨λi m σ H=>m=n-i/\i<=n/\Pv i σ H,⟨n,by simp,aV _,h0⟩,?_⟩;rintro i m σ H⟨rfl,hi,p⟩;by_cases hlt:i<n
 ·refine .inr ⟨hlt,Pv (i+1),λσ' H' p'=>⟨n-(i+1),by omega,rfl,hlt,p'⟩,λx H' y=>?_⟩;obtain⟨e,y⟩:=y;subst e y;exact hs i σ _ hlt p
 ·have e:i=n:=by omega
  subst e;exact .inl ⟨aN _,hd σ H p⟩
end L2
namespace L2
open PySem PySem.Spec PyProof.Rows
abbrev R2:=V->V->Hp->VK->Prop
def tU(X:Cx)(f:Value->Value->Sem Value)(r:R2):Prop:=∀(pins:List (Addr×Obj))(s:Shared)(σ:St)(H:Hp)(x y:V)(v u:Value)(Q:VK),Inv X pins σ H s->RelV x v->RelV y u->r x y H Q->wpAny (model X.prog X.w) X.A (f v u) (EP X pins σ Q) X.xe s
def iJ(X:Cx)(f:Value)(r:List V->Hp->VK->Prop):Prop:=∀(pins:List (Addr×Obj))(s:Shared)(σ:St)(H:Hp)(xs:List V)(us:List Value)(Q:VK),Inv X pins σ H s->cG xs us->r xs H Q->wpAny (model X.prog X.w) X.A (call f us) (EP X pins σ Q) X.xe s
def BU(r:R2)(ta tb:TE):TE:=λσ H Q=>ta σ H λx H1=>tb σ H1 λy H2=>r x y H2 Q
def rI(C:Int->Int->Prop)(g:Int->Int->V):R2:=λx y H Q=>∃i j,x=.int i/\y=.int j/\C i j/\Q (g i j) H
def DV(g:Int->Int->V):R2:=λx y H Q=>∃i j,x=.int i/\y=.int j/\Q (g i j) H
section
variable {X:Cx}{a b c:Expr}{ta tb tc:TE}{pos:Pos}
theorem Ho(ha:PE X a ta)(hb:PE X b tb){pins:List (Addr×Obj)}{s:Shared}{σ:St}{H:Hp}{R:V->V->Hp->Prop}(I:Inv X pins σ H s)(h:ta σ H λx H1=>tb σ H1 λy H2=>R x y H2){Q:Value->Shared->Prop}{f:Value->Value->Sem Value}(hf:∀v u s2 x y H2,Inv X pins σ H2 s2->RelV x v->RelV y u->R x y H2->wpAny (model X.prog X.w) X.A (f v u) Q X.xe s2):wpAny (model X.prog X.w) X.A (eval a X.env) (λv s₁=>wpAny (model X.prog X.w) X.A (eval b X.env) (λu s₂=>wpAny (model X.prog X.w) X.A (f v u) Q X.xe s₂) X.xe s₁) X.xe s:=by refine eR (ha pins s σ H _ I h) λv s1⟨x,H1,I1,r1,q1⟩=>?_;refine eR (hb pins s1 σ H1 _ I1 q1) λu s2⟨y,H2,I2,r2,q2⟩=>?_;exact hf v u s2 x y H2 I2 r1 r2 q2
theorem cZ{op:Operator}{r:R2}(ho:tU X (binaryOp op) r)(ha:PE X a ta)(hb:PE X b tb):PE X (.BinOp a op b pos) (BU r ta tb):=by intro pins s σ H Q I h;exact wpAny_BinOp (Ho ha hb I h λv u s2 x y H2 I2 rx ry q=>ho pins s2 σ H2 x y v u Q I2 rx ry q)
theorem opI{f:Value->Value->Sem Value}{C:Int->Int->Prop}{g:Int->Int->Int}(rule:∀(i j:Int)(t u:Tok)(s:Shared)(Q:Value->Shared->Prop)(E:Value->Shared->Prop),C i j->Q (.int (g i j) s.toks) {s with toks:=s.toks+1}->wpAny (model X.prog X.w) X.A (f (.int i t) (.int j u)) Q E s):tU X f (rI C λi j=>.int (g i j)):=by intro pins s σ H x y v u Q I rx ry h;obtain⟨i,j,rfl,rfl,hc,q⟩:=h;obtain⟨t,rfl⟩:=rx;obtain⟨t',rfl⟩:=ry;exact rule i j t t' s _ _ hc ⟨.int (g i j),H,I.tok _,⟨_,rfl⟩,q⟩
theorem IF{f:Value->Value->Sem Value}{g:Int->Int->Int}(rule:∀(i j:Int)(t u:Tok)(s:Shared)(Q:Value->Shared->Prop)(E:Value->Shared->Prop),Q (.int (g i j) s.toks) {s with toks:=s.toks+1}->wpAny (model X.prog X.w) X.A (f (.int i t) (.int j u)) Q E s):tU X f (DV λi j=>.int (g i j)):=by intro pins s σ H x y v u Q I rx ry h;obtain⟨i,j,rfl,rfl,q⟩:=h;obtain⟨t,rfl⟩:=rx;obtain⟨t',rfl⟩:=ry;exact rule i j t t' s _ _ ⟨.int (g i j),H,I.tok _,⟨_,rfl⟩,q⟩
theorem FR{f:Value->Value->Sem Value}{g:Int->Int->Bool}(rule:∀(i j:Int)(t u:Tok)(s:Shared)(Q:Value->Shared->Prop)(E:Value->Shared->Prop),Q (.bool (g i j)) s->wpAny (model X.prog X.w) X.A (f (.int i t) (.int j u)) Q E s):tU X f (DV λi j=>.bl (g i j)):=by intro pins s σ H x y v u Q I rx ry h;obtain⟨i,j,rfl,rfl,q⟩:=h;obtain⟨t,rfl⟩:=rx;obtain⟨t',rfl⟩:=ry;exact rule i j t t' s _ _ ⟨.bl (g i j),H,I,rfl,q⟩
def Hq(i j:Int):Prop:=(-(2^64)<i/\i<2^64)\/(-(2^64)<j/\j<2^64)
theorem Hq.ok{i j:Int}(h:Hq i j):IntMulOk i j:=by
 rcases h with⟨h1,h2⟩|⟨h1,h2⟩
 ·exact .of_left (intBits_le_64 h1 h2)
 ·exact .of_right (intBits_le_64 h1 h2)
theorem gc:tU X (binaryOp .Add) (DV λi j=>.int (i+j)):=IF λ_ _ _ _ _ _ _ q=>add_int q
theorem uD:tU X (binaryOp .Sub) (DV λi j=>.int (i-j)):=IF λ_ _ _ _ _ _ _ q=>sub_int q
theorem Hr:tU X (binaryOp .Mult) (rI Hq λi j=>.int (i*j)):=opI λ_ _ _ _ _ _ _ hc q=>mul_int q hc.ok
theorem Hs:tU X (binaryOp .Mod) (rI (λ_ j=>0<j) λi j=>.int (i%j)):=opI λi j _ _ _ _ _ hc q=>by have h1:(0:Int)<j:=hc;exact mod_int' (by omega) (by rw[Int.fmod_eq_emod_of_nonneg i (by omega)];exact q)
end
def IG:V->V->Bool
 |.non,.non=>true|.non,.int _=>true|.int _,.non=>true|.non,.bl _=>true|.bl _,.non=>true|.non,.str _=>true|.str _,.non=>true
 |.int _,.int _=>true|.bl _,.bl _=>true|.str _,.str _=>true|.byt _,.byt _=>true
 |.int _,.str _=>true|.str _,.int _=>true|.bl _,.str _=>true|.str _,.bl _=>true
 |_,_=>false
def rEq:R2:=λx y H Q=>IG x y=true/\Q (.bl (decide (x=y))) H
def rNe:R2:=λx y H Q=>IG x y=true/\Q (.bl (!decide (x=y))) H
theorem BV{i j:Int}:decide (V.int i=V.int j)=(i==j):=by rw[dX];simp
theorem DW{i j:Bool}:decide (V.bl i=V.bl j)=(i==j):=by rw[dX];simp
theorem BW{i j:Str}:decide (V.str i=V.str j)=(i==j):=by rw[dX];simp
theorem BX{i j:Array UInt8}:decide (V.byt i=V.byt j)=(i.toList==j.toList):=by rw[dX];cases i;cases j;simp
section
variable {X:Cx}{a b c:Expr}{ta tb tc:TE}{pos:Pos}
theorem dv{pins:List (Addr×Obj)}{σ:St}{H:Hp}{s:Shared}{Q:VK}{k k':Bool}(I:Inv X pins σ H s)(q:Q (.bl k) H)(e:k=k'):EP X pins σ Q (.bool k') s:=by subst e;exact⟨.bl k,H,I,rfl,q⟩
theorem fA:tU X (compareOp .Eq) rEq:=by
 intro pins s σ H x y v u Q I rx ry h;obtain⟨hs,q⟩:=h;cases x with
 |non=>
  cases rx
  cases y with
  |non=>cases ry;exact PySem.EqNone.eq_none_none (dv I q (by simp))
  |bl j=>cases ry;exact PySem.EqNone.eq_none_bool (dv I q (by simp))
  |int j=>obtain⟨t',rfl⟩:=ry;exact PySem.EqNone.eq_none_int (dv I q (by simp))
  |str j=>obtain⟨t',rfl⟩:=ry;exact PySem.EqNone.eq_none_str (dv I q (by simp))
  |_=>exact absurd (show false=true from hs) aI
 |bl i=>
  cases rx
  cases y with
  |non=>cases ry;exact PySem.EqNone.eq_bool_none (dv I q (by simp))
  |bl j=>cases ry;exact eq_bool (dv I q DW)
  |str j=>obtain⟨t',rfl⟩:=ry;exact PySem.EqMixed.eq_bool_str (dv I q (by simp))
  |_=>exact absurd (show false=true from hs) aI
 |int i=>
  obtain⟨t,rfl⟩:=rx
  cases y with
  |non=>cases ry;exact PySem.EqNone.eq_int_none (dv I q (by simp))
  |int j=>obtain⟨t',rfl⟩:=ry;exact eq_int (dv I q BV)
  |str j=>obtain⟨t',rfl⟩:=ry;exact PySem.EqMixed.eq_int_str (dv I q (by simp))
  |_=>exact absurd (show false=true from hs) aI
 |str i=>
  obtain⟨t,rfl⟩:=rx
  cases y with
  |non=>cases ry;exact PySem.EqNone.eq_str_none (dv I q (by simp))
  |bl j=>cases ry;exact PySem.EqMixed.eq_str_bool (dv I q (by simp))
  |int j=>obtain⟨t',rfl⟩:=ry;exact PySem.EqMixed.eq_str_int (dv I q (by simp))
  |str j=>obtain⟨t',rfl⟩:=ry;exact eq_str (dv I q BW)
  |_=>exact absurd (show false=true from hs) aI
 |byt i=>
  obtain⟨t,rfl⟩:=rx
  cases y with
  |byt j=>obtain⟨t',rfl⟩:=ry;exact PySem.W.eq_bytes (dv I q BX)
  |_=>exact absurd (show false=true from hs) aI
 |_=>cases y<;>exact absurd (show false=true from hs) aI
theorem gG:tU X (compareOp .NotEq) rNe:=by
 intro pins s σ H x y v u Q I rx ry h;obtain⟨hs,q⟩:=h;cases x with
 |non=>
  cases rx
  cases y with
  |non=>cases ry;exact PySem.EqNone.ne_none_none (dv I q (by simp))
  |bl j=>cases ry;exact PySem.EqNone.ne_none_bool (dv I q (by simp))
  |int j=>obtain⟨t',rfl⟩:=ry;exact PySem.EqNone.ne_none_int (dv I q (by simp))
  |str j=>obtain⟨t',rfl⟩:=ry;exact PySem.EqNone.ne_none_str (dv I q (by simp))
  |_=>exact absurd (show false=true from hs) aI
 |bl i=>
  cases rx
  cases y with
  |non=>cases ry;exact PySem.EqNone.ne_bool_none (dv I q (by simp))
  |bl j=>cases ry;exact ne_bool (dv I q (congrArg not DW))
  |str j=>obtain⟨t',rfl⟩:=ry;exact PySem.EqMixed.ne_bool_str (dv I q (by simp))
  |_=>exact absurd (show false=true from hs) aI
 |int i=>
  obtain⟨t,rfl⟩:=rx
  cases y with
  |non=>cases ry;exact PySem.EqNone.ne_int_none (dv I q (by simp))
  |int j=>obtain⟨t',rfl⟩:=ry;exact ne_int (dv I q (congrArg not BV))
  |str j=>obtain⟨t',rfl⟩:=ry;exact PySem.EqMixed.ne_int_str (dv I q (by simp))
  |_=>exact absurd (show false=true from hs) aI
 |str i=>
  obtain⟨t,rfl⟩:=rx
  cases y with
  |non=>cases ry;exact PySem.EqNone.ne_str_none (dv I q (by simp))
  |bl j=>cases ry;exact PySem.EqMixed.ne_str_bool (dv I q (by simp))
  |int j=>obtain⟨t',rfl⟩:=ry;exact PySem.EqMixed.ne_str_int (dv I q (by simp))
  |str j=>obtain⟨t',rfl⟩:=ry;exact ne_str (dv I q (congrArg not BW))
  |_=>exact absurd (show false=true from hs) aI
 |byt i=>
  obtain⟨t,rfl⟩:=rx
  cases y with
  |byt j=>obtain⟨t',rfl⟩:=ry;exact PySem.W.ne_bytes (dv I q (congrArg not BX))
  |_=>exact absurd (show false=true from hs) aI
 |_=>cases y<;>exact absurd (show false=true from hs) aI
theorem uE:tU X (compareOp .Lt) (DV λi j=>.bl (decide (i<j))):=FR λ_ _ _ _ _ _ _ q=>lt_int q
theorem BY:tU X (compareOp .LtE) (DV λi j=>.bl (decide (i<=j))):=FR λ_ _ _ _ _ _ _ q=>le_int q
theorem je:tU X (compareOp .Gt) (DV λi j=>.bl (decide (j<i))):=FR λ_ _ _ _ _ _ _ q=>gt_int q
theorem GR:tU X (compareOp .GtE) (DV λi j=>.bl (decide (j<=i))):=FR λ_ _ _ _ _ _ _ q=>ge_int q
theorem bC(b:Expr){op:CmpOp}(h:op≠.In:=by decide)(h2:op≠.NotIn:=by decide):behindInMarks op b=false:=by
 have e1:(op==CmpOp.In)=false:=by cases op<;>first|rfl|exact absurd rfl h
 have e2:(op==CmpOp.NotIn)=false:=by cases op<;>first|rfl|exact absurd rfl h2
 cases b<;>simp[behindInMarks,e1,e2]
theorem mi{op:CmpOp}{r:R2}(ho:tU X (compareOp op) r)(ha:PE X a ta)(hb:PE X b tb)(hm:behindInMarks op b=false):PE X (.Compare a [op] [b] pos) (BU r ta tb):=by intro pins s σ H Q I h;exact wpAny_Compare1 (Ho ha hb I h λv u s2 x y H2 I2 rx ry q=>ho pins s2 σ H2 x y v u Q I2 rx ry q) hm
def xr(t:TE):TT:=λσ H Q=>t σ H λx H'=>∃k,x=.bl k/\Q k H'
theorem bh{op:CmpOp}{r:R2}(ho:tU X (compareOp op) r)(ha:PE X a ta)(hb:PE X b tb)(hm:behindInMarks op b=false):PT X (.Compare a [op] [b] pos) (xr (BU r ta tb)):=by
 intro pins s σ H Q I h;refine wpAny_isTrue_Compare1 (eR (ha pins s σ H _ I h) λv s1⟨x,H1,I1,r1,q1⟩=>eR (hb pins s1 σ H1 _ I1 q1) λu s2⟨y,H2,I2,r2,q2⟩=>
  eR (ho pins s2 σ H2 x y v u _ I2 r1 r2 q2) λc s3⟨z,H3,I3,r3,k,e,q3⟩=>?_) hm
 subst e;cases r3;exact wpAny_truthy_bool ⟨H3,I3,q3⟩
def DX(r r':R2)(ta tb tc:TE):TE:=λσ H Q=>ta σ H λx H1=>tb σ H1 λy H2=>r x y H2 λz H3=>∃k,z=.bl k/\(if k=true then tc σ H3 λw' H4=>r' y w' H4 Q else Q (.bl false) H3)
theorem DY{op op':CmpOp}{r r':R2}(ho:tU X (compareOp op) r)(ho':tU X (compareOp op') r')(ha:PE X a ta)(hb:PE X b tb)(hc:PE X c tc)(hm:lastMarks [op,op'] [b,c]=false:=by with_unfolding_all rfl):PE X (.Compare a [op,op'] [b,c] pos) (DX r r' ta tb tc):=by
 intro pins s σ H Q I h;refine Compare_chain (eR (ha pins s σ H _ I h) λv s1⟨x,H1,I1,r1,q1⟩=>chain_link (eR (hb pins s1 σ H1 _ I1 q1) λu s2⟨y,H2,I2,r2,q2⟩=>
  eR (ho pins s2 σ H2 x y v u _ I2 r1 r2 q2) λd s3⟨z,H3,I3,r3,k,e,q3⟩=>?_)) hm
 subst e;cases r3;refine wpAny_truthy_bool ?_;cases k with
 |false=>exact ite_ff ⟨.bl false,H3,I3,rfl,q3⟩
 |true=>exact ite_tt (chain_last (eR (hc pins s3 σ H3 _ I3 q3) λw' s4⟨z',H4,I4,r4,q4⟩=>ho' pins s4 σ H4 y z' u w' Q I4 r2 r4 q4))
theorem DZ{op op':CmpOp}{r r':R2}(ho:tU X (compareOp op) r)(ho':tU X (compareOp op') r')(ha:PE X a ta)(hb:PE X b tb)(hc:PE X c tc)(hm:lastMarks [op,op'] [b,c]=false:=by with_unfolding_all rfl):PT X (.Compare a [op,op'] [b,c] pos) (xr (DX r r' ta tb tc)):=by
 intro pins s σ H Q I h;refine isTrue_chain (eR (ha pins s σ H _ I h) λv s1⟨x,H1,I1,r1,q1⟩=>test_link (eR (hb pins s1 σ H1 _ I1 q1) λu s2⟨y,H2,I2,r2,q2⟩=>
  eR (ho pins s2 σ H2 x y v u _ I2 r1 r2 q2) λd s3⟨z,H3,I3,r3,k,e,q3⟩=>?_)) hm
 subst e;cases r3;refine wpAny_truthy_bool ?_;cases k with
 |false=>
  obtain⟨k',e',q'⟩:=q3
  cases e'
  exact ite_ff ⟨H3,I3,q'⟩
 |true=>
  refine ite_tt (test_last (eR (hc pins s3 σ H3 _ I3 q3) λw' s4⟨z',H4,I4,r4,q4⟩=>eR (ho' pins s4 σ H4 y z' u w' _ I4 r2 r4 q4) λd' s5⟨z2,H5,I5,r5,k2,e2,q5⟩=>?_))
  subst e2
  cases r5
  exact wpAny_truthy_bool ⟨H5,I5,q5⟩
theorem AK:(sizeLine:Nat)<2^63:=by rw[sizeLine_eq];decide
theorem vals1{x:V}{us:List Value}(r:cG [x] us):∃u,us=[u]/\RelV x u:=by
 cases r with
 |cons r1 r2=>cases r2;exact⟨_,rfl,r1⟩
theorem ya:iJ X (.type "str") (λxs H Q=>∃i,xs=[.int i]/\i.natAbs.log2<1920/\Q (.str (toString i)) H):=by intro pins s σ H xs us Q I r h;obtain⟨i,rfl,hz,q⟩:=h;obtain⟨u,rfl,t,rfl⟩:=vals1 r;exact PySem.P.str_of_int hz ⟨.str _,H,I.tok _,⟨_,rfl⟩,q⟩
theorem D0:iJ X (.builtin "ord") (λxs H Q=>∃x,xs=[.str x]/\x.length=1/\Q (.int (x.cps.getD 0 0:Nat)) H):=by intro pins s σ H xs us Q I r h;obtain⟨x,rfl,hz,q⟩:=h;obtain⟨u,rfl,t,rfl⟩:=vals1 r;exact ord_of_one hz ⟨.int _,H,I.tok _,⟨_,rfl⟩,q⟩
end
end L2
namespace L2
open PySem PySem.Spec PyProof.Rows
structure AL(h:Heap)(x dx C:Addr)(mA:Str->Option Value):Prop where
 obj:h.get? x=some (fJ C dx)
 ns:h.Ns1 dx mA
 ne:dx≠x
theorem CI{h:Heap}{dx:Addr}{mA:Str->Option Value}(n:h.Ns1 dx mA):∃od,h.get? dx=some od/\∀name,tj name od=some (mA name):=by
 obtain⟨o,es,ep,ho,hd,hk,_,hm⟩:=n;refine⟨o,ho,λname=>?_⟩;have e:=hm name;unfold nsFind findBy at e;rw[<-Array.find?_toList]at e;unfold tj;rw[hd];dsimp only;split
 ·rename_i y q;rw[q]at e;exact congrArg some e
 ·rename_i q;rw[q]at e;have a:es.toList.any (·.refKey)=false:=by rw[gJ];intro y hy;obtain⟨z,t,hkey⟩:=hk y (Array.mem_toList_iff.mp hy);simp[DictEntry.refKey,hkey]
  have a':¬es.toList.any (·.refKey)=true:=by rw[a];exact aI
  rw[if_neg a'];exact congrArg some e
theorem AL.look{h:Heap}{x dx C:Addr}{mA:Str->Option Value}(I:AL h x dx C mA):∃od,PySem.W.InstAt h x (fJ C dx) C (some od)/\∀name,tj name od=some (mA name):=let⟨od,ho,hl⟩:=CI I.ns;⟨od,⟨I.obj,rfl,rfl,ho⟩,hl⟩
section
variable {prog:Program}{w:World}{A:Around}{E:Value->Shared->Prop}{s:Shared}{K:aj}{x dx C f:Addr}{mA:Str->Option Value}{name:Str}{v:Value}
theorem get_map{expr:Bool}{Q:Value->Shared->Prop}(X:K.In s.heap)(I:AL s.heap x dx C mA)(hg:pA K C name=true)(hh:xf K C=true)(ha:dy K (.ref C) name=some none)(hv:mA name=some v)(hv':Jf v=true)(h:Q v {s with toks:=s.toks+1}):wpAny (model prog w) A (getAttr (.ref x) name expr) Q E s:=by obtain⟨od,J,hl⟩:=I.look;exact PySem.W.get_value X J (ug hg).1 (PySem.W.findObj_own hh ha rfl (by rw[hl,hv])) hv' h
theorem D2{pl:Sem Bool}{Q:Value×List Value->Shared->Prop}(X:K.In s.heap)(I:AL s.heap x dx C mA)(hg:pA K C name=true)(hf:dy K (.ref C) name=some (some (.ref f)))(ht:qt K (.ref f)=true)(hv:mA name=none)(h:Q (.ref f,[.ref x]) s):wpAny (model prog w) A (getMethod (.ref x) name pl) Q E s:=by obtain⟨od,J,hl⟩:=I.look;exact PySem.W.method_fn X J (ug hg).1 (ug hg).2 hf (beq_iff_eq.mp ht) (by show(tj name od).map (·.isSome)=some false;rw[hl,hv];rfl) h
theorem FT{ns:List Str}{Q:Unit->Shared->Prop}(X:K.In s.heap)(I:AL s.heap x dx C mA)(hs:dy K (.ref C) "__setattr__"=some (some (.builtin "object.__setattr__")))(hp:Iw K C=true)(ht:Ay K C name=some none)(hh:xf K C=true)(hw:Fq mA ns)(hsz:ns.length<=sizeLine)(h:∀h',AL h' x dx C (λy=>if y=name then some v else mA y)->Heap.SameBut dx s.heap h'->Q () {s with heap:=h',toks:=s.toks+2}):wpAny (model prog w) A (setAttr (.ref x) name v) Q E s:=by obtain⟨od,J,hl⟩:=I.look;refine PySem.W.set_plain X J hs (PySem.W.osa_open (s:={s with toks:=s.toks+1}) (r:=none) X J hp ht λb=>?_);obtain⟨cd,hc,hd'⟩:=PySem.W.any_some hh;have hx:s.heap.get? x=some ⟨.ref C,some dx,.plain,#[]⟩:=I.obj;refine wpAny_bind (wpAny_pure (wpAny_bind (wpAny_bind (wpAny_loadPart hx (wpAny_bind (PySem.W.Looks.here (s:={s with toks:=s.toks+1}) (PySem.W.looks_clsIn X hc) ?_))))));rw[hd'];refine wpAny_pure (a:=some dx) (wpAny_bind (wpAny_pure (wpAny_bind ?_)));refine wpAny_nsSet1 (s:={s with toks:=s.toks+1}) I.ns λh' hn2 hs2=>?_;obtain⟨oD,esD,epD,hoD,hdD,hcD⟩:=hn2.count (PySem.Within.cons name v hw);refine wpAny_bind (wpAny_lookBehind hoD (by rw[hdD];exact pastItsLine_dict (ay hcD (by rw[bG];omega))) ?_);exact wpAny_pure (h _ ⟨(hs2.2 _ (l_ I.ne)).trans I.obj,hn2,I.ne⟩ hs2)
theorem D3{R:Result->Shared->Prop}{vs:List Value}{kw:List (Str×Value)}(X:K.In s.heap)(hm:Az K C=true)(hi:dy K (.ref C) "__init__"=some (some (.ref f)))(hf:PySem.W.typeIn K (.ref f)=some (.type "function"))(h:codeAny (model prog w) (A.under (.builtin "type.__call__" ⟨.ref C::vs,kw⟩)) (.call (.ref f) ⟨.ref (s.heap.objs.size+1)::vs,kw⟩) (PySem.W.InitBack (s.heap.objs.size+1) R) {s with heap:=(s.heap.push dN).push (fJ C s.heap.objs.size)}):codeAny (model prog w) A (.call (.ref C) ⟨vs,kw⟩) R s:=by obtain⟨hh,g,d,t,os⟩:=s;exact PySem.W.make_core (PySem.W.makes_of X hm) (PySem.W.looks_findIn X hi) (λself=>PySem.W.bind_fn X self hf) (.inl rfl) h
end
def dw(f:Str)(v:V):List (Str×V)->List (Str×V)
 |[]=>[(f,v)]
 |(g,x)::r=>if g=f then(g,v)::r else(g,x)::dw f v r
theorem bL(f g:Str)(v:V):∀fs:List (Str×V),(dw f v fs).lookup g=if g=f then some v else fs.lookup g
 |[]=>by
  show ja g [(f,v)]=_;by_cases h:g=f
  ·have hb:(g==f)=true:=beq_iff_eq.mpr h;simp only[ja,hb,if_pos h]
  ·have hb:(g==f)=false:=beq_eq_false_iff_ne.mpr h;simp only[ja,hb,if_neg h]
 |(k,x)::r=>by
  have ih:=bL f g v r;rw[show dw f v ((k,x)::r)=(if k=f then(k,v)::r else(k,x)::dw f v r)from rfl];by_cases hk:k=f
  ·rw[if_pos hk];by_cases h:g=k
   ·have hb:(g==k)=true:=beq_iff_eq.mpr h;simp only[ja,hb,if_pos (h.trans hk)]
   ·have hb:(g==k)=false:=beq_eq_false_iff_ne.mpr h;simp only[ja,hb,if_neg (λe:g=f=>h (e.trans hk.symm))]
  ·rw[if_neg hk];by_cases h:g=k
   ·have hb:(g==k)=true:=beq_iff_eq.mpr h;simp only[ja,hb,if_neg (λe:g=f=>hk (h.symm.trans e))]
   ·have hb:(g==k)=false:=beq_eq_false_iff_ne.mpr h;simp only[ja,hb];exact ih
theorem rJ(f:Str)(v:V):∀fs:List (Str×V),f∈(dw f v fs).map (·.1)/\∀g,g∈fs.map (·.1)->g∈(dw f v fs).map (·.1)
 |[]=>⟨by simp[dw],λg h=>by simp at h⟩
 |(k,x)::r=>by
  obtain⟨i1,i2⟩:=rJ f v r;rw[show dw f v ((k,x)::r)=(if k=f then(k,v)::r else(k,x)::dw f v r)from rfl];by_cases hk:k=f
  ·rw[if_pos hk];subst hk;exact⟨by simp,λg h=>by simpa using h⟩
  ·rw[if_neg hk];refine⟨?_,λg h=>?_⟩
   ·rw[bo];exact aJ _ i1
   ·rw[bo]at h⊢;rcases aF.mp h with e|e
    ·exact aF.mpr (.inl e)
    ·exact aJ _ (i2 g e)
theorem tD(f:Str)(v:V):∀fs:List (Str×V),(dw f v fs).length<=fs.length+1
 |[]=>by simp[dw]
 |(k,x)::r=>by
  have ih:=tD f v r;rw[show dw f v ((k,x)::r)=(if k=f then(k,v)::r else(k,x)::dw f v r)from rfl];by_cases hk:k=f
  ·rw[if_pos hk,bG,bG];omega
  ·rw[if_neg hk,bG,bG];omega
theorem mf.some_of{v:V}{o:Option Value}(r:mf (some v) o):∃u,o=some u/\RelV v u:=by
 cases o with
 |none=>exact(show False from r).elim
 |some u=>exact⟨u,rfl,r⟩
theorem mf.none_of{o:Option Value}(r:mf none o):o=none:=by
 cases o with
 |none=>rfl
 |some u=>exact(show False from r).elim
theorem CJ{v:V}{u:Value}(r:RelV v u):Jf u=true:=by
 cases v with
 |non=>cases(show u=Value.none from r);rfl
 |bl b=>cases(show u=Value.bool b from r);rfl
 |int i=>obtain⟨t,e⟩:=(show ∃t,u=Value.int i t from r);cases e;rfl
 |str x=>obtain⟨t,e⟩:=(show ∃t,u=Value.str x t from r);cases e;rfl
 |byt b=>obtain⟨t,e⟩:=(show ∃t,u=Value.bytes b t from r);cases e;rfl
 |flt b=>obtain⟨t,e⟩:=(show ∃t,u=Value.float b t from r);cases e;rfl
 |ref a=>cases(show u=Value.ref a from r);rfl
 |ty n=>cases(show u=Value.type n from r);rfl
section
variable {P:Program}{w:World}{H H':Hp}{h h':Heap}{a C dx:Addr}{fs fs':List (Str×V)}
theorem yb(hok:nS P w H h)(e:H a=some (.ins C dx fs)):∃mA,AL h a dx C mA/\(∀f,mf (fs.lookup f) (mA f))/\Fq mA (fs.map (·.1))/\fs.length<=1000/\H dx=some (.own a):=by obtain⟨d,z,ne,ob,mA,n,r,q⟩:=(show fS P w H h a (.ins C dx fs)from hok a _ e);exact⟨mA,⟨ob,n,ne⟩,r,q,z,d⟩
end
structure CK(K:aj)(C:Addr):Prop where
 pg:pA K C Str.empty=true
 hd:xf K C=true
 po:Iw K C=true
 sa:dy K (.ref C) "__setattr__"=some (some (.builtin "object.__setattr__"))
theorem CK.get{K:aj}{C:Addr}(c:CK K C)(f:Str):pA K C f=true:=c.pg
def gf(K:aj)(C:Addr)(f:Str):Prop:=dy K (.ref C) f=some none
theorem gf.taker{K:aj}{C:Addr}{f:Str}(n:gf K C f):Ay K C f=some none:=by unfold Ay;rw[show dy K (.ref C) f=some none from n];rfl
structure zj(K:aj)(C:Addr)(m:Str)(f:Addr):Prop where
 at_:dy K (.ref C) m=some (some (.ref f))
 fn:qt K (.ref f)=true
 kp:eG K (.ref f)=true
section
variable {X:Cx}{pins:List (Addr×Obj)}{σ:St}{H:Hp}{s:Shared}{a C dx:Addr}{fs:List (Str×V)}{f:Str}{v:V}{A:Around}{E:Value->Shared->Prop}
theorem AM{b:Bool}{Q:Value->Shared->Prop}(I:Inv X pins σ H s)(e:H a=some (.ins C dx fs))(c:CK X.K C)(n:gf X.K C f)(l:fs.lookup f=some v)(h:∀u s',Inv X pins σ H s'->RelV v u->Q u s'):wpAny (model X.prog X.w) A (getAttr (.ref a) f b) Q E s:=by obtain⟨mA,O,r,_,_,_⟩:=yb I.hok e;obtain⟨u,hu,ru⟩:=mf.some_of (v:=v) (o:=mA f) (by rw[<-l];exact r f);exact get_map I.kIn O (c.get f) c.hd n hu (CJ ru) (h u _ (I.tok _) ru)
theorem uG{m:Str}{g:Addr}{pl:Sem Bool}{Q:Value×List Value->Shared->Prop}(I:Inv X pins σ H s)(e:H a=some (.ins C dx fs))(c:CK X.K C)(k:zj X.K C m g)(l:fs.lookup m=none)(h:Q (.ref g,[.ref a]) s):wpAny (model X.prog X.w) A (getMethod (.ref a) m pl) Q E s:=by obtain⟨mA,O,r,_,_,_⟩:=yb I.hok e;have hn:mA m=none:=mf.none_of (by rw[<-l];exact r m);exact D2 I.kIn O (c.get m) k.at_ k.fn hn h
theorem AN{y:V}{u:Value}{Q:Unit->Shared->Prop}(I:Inv X pins σ H s)(e:H a=some (.ins C dx fs))(c:CK X.K C)(n:gf X.K C f)(hl:fs.length<1000)(ry:RelV y u)(h:∀s',Inv X pins σ (upd H a (.ins C dx (dw f y fs))) s'->Q () s'):wpAny (model X.prog X.w) A (setAttr (.ref a) f u) Q E s:=by
 obtain⟨mA,O,r,wi,_,ho⟩:=yb I.hok e;have hz:(fs.map (·.1)).length<=sizeLine:=by rw[ae,sizeLine_eq];omega
 refine FT I.kIn O c.sa c.po n.taker c.hd wi hz λh' O' sb=>h _ ?_;have hd:∃o,h'.get? dx=some o:=let⟨o,_,_,e',_⟩:=O'.ns;⟨o,e'⟩;refine I.write (x:=a) (e:=dx) (by rw[e];exact True.intro) (.inr ho) (λb q hb z=>(sb.2 b hb).trans z) hd ?_;refine⟨by rw[aA O.ne];exact ho,?_,O.ne,O'.obj,_,O'.ns,λg=>?_,λg hg=>?_⟩
 ·have:=tD f y fs;omega
 ·show mf ((dw f y fs).lookup g) (if g=f then some u else mA g);rw[bL];by_cases q:g=f
  ·rw[if_pos q,if_pos q];exact ry
  ·rw[if_neg q,if_neg q];exact r g
 ·by_cases q:g=f
  ·rw[q];exact(rJ f y fs).1
  ·refine(rJ f y fs).2 g (wi g λz=>hg ?_);show(if g=f then some u else mA g)=none;rw[if_neg q];exact z
theorem Inv.made(I:Inv X pins σ H s):Inv X pins σ (upd (upd H s.heap.objs.size (.own (s.heap.objs.size+1))) (s.heap.objs.size+1) (.ins C s.heap.objs.size [])) {s with heap:=(s.heap.push dN).push (fJ C s.heap.objs.size)}:=by
 have e1:(s.heap.push dN).get? s.heap.objs.size=some dN:=Heap.get?_push_size s.heap rfl;have e2:((s.heap.push dN).push (fJ C s.heap.objs.size)).get? (s.heap.objs.size+1)=some (fJ C s.heap.objs.size):=by have:=Heap.get?_push_size (s.heap.push dN) (o:=fJ C s.heap.objs.size) rfl;rwa[Heap.size_push]at this
 have e3:(s.heap.push dN).Ns s.heap.objs.size (λ_=>none):=⟨dN,#[],_,e1,rfl,(λe he=>absurd he (by simp)),λ_=>rfl⟩;have I1:=I.laid (a:=s.heap.objs.size) (o:=.own (s.heap.objs.size+1)) (h':=s.heap.push dN) (t':=s.toks) (λb u q=>Heap.get?_push_of_some _ q) (aN _) ⟨_,e1⟩;refine I1.laid (a:=s.heap.objs.size+1) (o:=.ins C s.heap.objs.size []) (t':=s.toks) (λb u q=>Heap.get?_push_of_some _ q) (qu (Heap.size_push _ _)) ?_;have ne:s.heap.objs.size≠s.heap.objs.size+1:=bF (dE _);refine⟨by rw[aA ne,ao],aV _,ne,e2,λ_=>none,(Heap.Ns1.of_empty e3).at λo q=>Heap.get?_push_of_some _ q,λ_=>True.intro,λy hy=>absurd rfl hy⟩
theorem FU{prog:Program}{w:World}{env:Env}{e:Expr}{f:Str}{pos:Pos}{s:Shared}{Q:Value->Shared->Prop}(hb:attributeBase e f env (eval e env)=eval e env)(h:wpAny (model prog w) A (eval e env) (λo s₁=>wpAny (model prog w) A (getAttr o f true) Q E s₁) E s):wpAny (model prog w) A (eval (.Attribute e f pos) env) Q E s:=Attribute_any_ h (by rw[arm_eval_Attribute,hb])
end
def FV(K:aj)(ta:TE)(f:Str):TE:=λσ H Q=>ta σ H λx H1=>∃a C dx fs v,x=.ref a/\H1 a=some (.ins C dx fs)/\CK K C/\gf K C f/\fs.lookup f=some v/\Q v H1
def sFld(K:aj)(ta tv:TE)(f:Str):TS:=λD σ H=>tv σ H λy H1=>ta σ H1 λx H2=>∃a C dx fs,x=.ref a/\H2 a=some (.ins C dx fs)/\CK K C/\gf K C f/\fs.length<1000/\D.nx σ (upd H2 a (.ins C dx (dw f y fs)))
section
variable {X:Cx}{o e value:Expr}{f:Str}{pos pos' tpos:Pos}{ta tv:TE}
theorem cI(he:PE X e ta)(hb:attributeBase e f X.env (eval e X.env)=eval e X.env):PE X (.Attribute e f pos) (FV X.K ta f):=by intro pins s σ H Q I h;refine FU hb (eR (he pins s σ H _ I h) λu s1⟨x,H1,I1,rx,a,C,dx,fs,v,ex,ea,c,n,l,q⟩=>?_);subst ex;obtain rfl:u=Value.ref a:=rx;exact AM I1 ea c n l λu' s2 I2 ru=>⟨v,H1,I2,ru,q⟩
theorem g9(ha:PE X o ta)(hv:PE X value tv)(hs:swapsWith value (some (.Attribute o f pos')) pos.line X.env=pure false):PS X (.Assign [.Attribute o f pos'] value pos) (sFld X.K ta tv f):=by intro pins s σ H D I h;refine plainObj_wpAny_Assign_Attribute (eR (hv pins s σ H _ I h) λu s1⟨y,H1,I1,ry,q⟩=>eR (ha pins s1 σ H1 _ I1 q) λov s2⟨x,H2,I2,rx,a,C,dx,fs,ex,ea,c,n,l,q2⟩=>?_) hs;subst ex;obtain rfl:ov=Value.ref a:=rx;exact AN I2 ea c n l ry λs3 I3=>⟨σ,_,I3,q2⟩
theorem GS{pl:Sem Bool}{m:Str}{apos:Pos}{args:List Expr}{pins:List (Addr×Obj)}{s:Shared}{σ:St}{H:Hp}{Q:Value->Shared->Prop}{te:TE}(he:PE X e te)(I:Inv X pins σ H s)(h:te σ H λx H1=>∃a C dx fs g,x=.ref a/\H1 a=some (.ins C dx fs)/\CK X.K C/\zj X.K C m g/\fs.lookup m=none/\∀s1,Inv X pins σ H1 s1->wpAny (model X.prog X.w) X.A (callWith pos (.ref g) [.ref a] (backTo pos (starEach args X.env)) (backToKw pos (keywordEach [] X.env))) Q X.xe s1)(ht:eval (.Call (.Attribute e m apos) args [] pos) X.env=(do
   let ov <-eval e X.env
   standAt apos.atName
   let(f,first) <-holding [ov] (getMethod ov m pl)
   callWith pos f first (backTo pos (starEach args X.env)) (backToKw pos (keywordEach [] X.env)))):wpAny (model X.prog X.w) X.A (eval (.Call (.Attribute e m apos) args [] pos) X.env) Q X.xe s:=by
 refine FC (pl:=pl) (eR (he pins s σ H _ I h) λu s1⟨x,H1,I1,rx,a,C,dx,fs,g,ex,ea,c,k,l,q⟩=>?_) ht;subst ex;obtain rfl:u=Value.ref a:=rx;exact uG I1 ea c k l (q s1 I1)
end
section
variable {X:Cx}{pins:List (Addr×Obj)}{σ:St}{H:Hp}{s:Shared}{A:Around}{E:Value->Shared->Prop}{Q:Value->Shared->Prop}{c:Value}{b:Bool}
end
end L2
namespace L2
open PySem PySem.Spec PyProof.Rows
structure cT(k:Nat)(A:Around):Prop where
 hd:A.handled=none
 dp:A.depth+3*k+5<recursionLimit
 un:A.units+16*k+200<cLine
theorem cT.mono{j k:Nat}{A:Around}(r:cT k A)(h:j<=k):cT j A:=⟨r.hd,by have:=r.dp;omega,by have:=r.un;omega⟩
theorem cT.deeper{k:Nat}{A:Around}(r:cT (k+1) A)(env:Env):cT k (A.deeper env):=⟨r.hd,by have:=r.dp;show A.depth+1+3*k+5<_;omega,by have:=r.un;show A.units+3+16*k+200<_;omega⟩
theorem AO{A:Around}{C:Addr}{us:List Value}{kw:List (Str×Value)}:(A.under (.builtin "type.__call__" ⟨.ref C::us,kw⟩)).depth=A.depth+1:=by first|rfl|simp[Around.under,Code.weight,Code.isCreation,Code.isGuard,Code.isCaller,Code.frames,Code.isFrame,guardIds]
theorem AQ{A:Around}{C:Addr}{us:List Value}{kw:List (Str×Value)}:(A.under (.builtin "type.__call__" ⟨.ref C::us,kw⟩)).units=A.units+1:=by first|rfl|simp[Around.under,Code.cUnits,Code.frames,Code.isFrame]
theorem cT.make{k:Nat}{A:Around}(r:cT (k+1) A)(C:Addr)(us:List Value)(kw:List (Str×Value)):cT k (A.under (.builtin "type.__call__" ⟨.ref C::us,kw⟩)):=⟨r.hd,by have:=r.dp;rw[AO];omega,by have:=r.un;rw[AQ];omega⟩
theorem cT.depth{k:Nat}{A:Around}(r:cT k A):A.depth<recursionLimit:=by have:=r.dp;omega
theorem cT.units{k:Nat}{A:Around}(r:cT k A):A.units+64<cLine:=by have:=r.un;omega
def nv:TA:=λ_ H Q=>Q [] H
def jX(ta:TE)(tr:TA):TA:=λσ H Q=>ta σ H λx H1=>tr σ H1 λxs H2=>Q (x::xs) H2
section
variable {X:Cx}{e:Expr}{es:List Expr}{te:TE}{t:TA}{pos:Pos}
theorem au:PA X [] nv:=λ_ _ _ _ H Q I h=>Calls.spliced_nil ⟨[],H,I,.nil,h⟩
theorem ai(ha:PE X e te)(hr:PA X es t)(hs:starEach (e::es) X.env=(false,eval e X.env)::starEach es X.env:=by rfl):PA X (e::es) (jX te t):=by intro pos pins s σ H Q I h;rw[hs];show wpAny _ _ (spliced ((false,eval e X.env)::backTo pos (starEach es X.env))) _ _ s;refine Calls.spliced_cons (eR (ha pins s σ H _ I h) λu s1⟨x,H1,I1,r1,q1⟩=>?_);exact eR (hr pos pins s1 σ H1 _ I1 q1) λus s2⟨xs,H2,I2,r2,q2⟩=>⟨x::xs,H2,I2,.cons r1 r2,q2⟩
def D4(t:TA):TE:=λσ H Q=>t σ H λxs H1=>xs.length<=sizeLine/\∀p,H1 p=none->Q (.ref p) (upd H1 p (.tup xs))
def D5(t:TA):TE:=λσ H Q=>t σ H λxs H1=>xs.length<=sizeLine/\∀p,H1 p=none->Q (.ref p) (upd H1 p (.lst xs))
theorem jk{x1}(h:PA X es t):PE X (.Tuple es x1 pos) (D4 t):=by intro pins s σ H Q I hq;refine wpAny_Tuple_spliced (eR (h pos pins s σ H _ I hq) λus s1⟨xs,H1,I1,r,z,q⟩=>⟨by rw[<-r.length];exact z,?_⟩);have hf:H1 s1.heap.objs.size=none:=I1.hok.fresh (aN _);refine⟨.ref s1.heap.objs.size,upd H1 s1.heap.objs.size (.tup xs),I1.laid (t':=s1.toks) (λb u e=>Heap.get?_push_of_some _ e) (aN _) ?_,rfl,q _ hf⟩;exact⟨z,us,r,⟨_,Heap.get?_push_size _ rfl,rfl,_,rfl⟩⟩
theorem bE(h:PA X es t):PE X (.List es pos) (D5 t):=by intro pins s σ H Q I hq;refine wpAny_List_spliced (eR (h pos pins s σ H _ I hq) λus s1⟨xs,H1,I1,r,z,q⟩=>⟨by rw[<-r.length];exact z,?_⟩);have hf:H1 s1.heap.objs.size=none:=I1.hok.fresh (aN _);refine⟨.ref s1.heap.objs.size,upd H1 s1.heap.objs.size (.lst xs),I1.laid (t':=s1.toks) (λb u e=>Heap.get?_push_of_some _ e) (aN _) ?_,rfl,q _ hf⟩;exact⟨z,us,0,r,Heap.get?_push_size _ rfl⟩
end
abbrev Sp:=List V->Hp->VK->XK->Prop
abbrev DH:=List Env->Hp->Shared->XK->Value->Shared->Prop
structure AR(P:Program)(w:World)(K:aj)(mg:Str->Option Value)(base:Heap)(A:Around)(outer:List Env)(s:Shared)(H:Hp):Prop where
 frames:A.frames=some outer
 mod:Mod K mg base
 bs:∀b o,base.get? b=some o->s.heap.get? b=some o/\H b=none
 bsz:base.objs.size<=s.heap.objs.size
 funs:s.heap.FunFrames base outer
 frf:∀b∈DP outer,H b=none
 hok:nS P w H s.heap
 bare:AllBare s.gens
def CE(outer:List Env)(P:Program)(w:World)(H:Hp)(s:Shared)(Q:VK)(u:Value)(s':Shared):Prop:=∃v H',s'.os=s.os/\AllBare s'.gens/\Un (DP outer) [] H H' s.heap s'.heap/\nS P w H' s'.heap/\RelV v u/\Q v H'
def CR(CX:DH)(outer:List Env)(P:Program)(w:World)(H:Hp)(s:Shared)(Q:VK)(E:XK)(r:Result)(s':Shared):Prop:=match r with
 |.ok (.ret u)=>CE outer P w H s Q u s'
 |.ok _=>False
 |.error e=>CX outer H s E e s'
structure ck(P:Program)(w:World)(K:aj)(mg:Str->Option Value)(base:Heap)(CX:DH)(k:Nat)(f:Addr)(fd:FuncData)(ps:List Str)(sp:Sp):Prop where
 len:∀vs H Q E,sp vs H Q E->vs.length=ps.length
 run:∀(A:Around)(outer:List Env)(s:Shared)(H:Hp)(args:Args)(us:List Value)(vs:List V)(Q:VK)(E:XK),cT k A->AR P w K mg base A outer s H->BindsTo s fd args (ps.zip us)->cG vs us->sp vs H Q E->codeAny (model P w) A (.call (.ref f) args) (CR CX outer P w H s Q E) s
theorem AR.make{P:Program}{w:World}{K:aj}{mg:Str->Option Value}{base:Heap}{A:Around}{outer:List Env}{s:Shared}{H:Hp}(e:AR P w K mg base A outer s H)(C:Addr)(us:List Value)(kw:List (Str×Value)):AR P w K mg base (A.under (.builtin "type.__call__" ⟨.ref C::us,kw⟩)) outer s H:=⟨by first|exact e.frames|(simpa[Around.under,Code.envs,Code.isFrame,pushEnvs]using e.frames),e.mod,e.bs,e.bsz,e.funs,e.frf,e.hok,e.bare⟩
section
variable {X:Cx}{pins:List (Addr×Obj)}{σ:St}{H:Hp}{s s':Shared}
theorem Inv.env0(I:Inv X pins σ H s):AR X.prog X.w X.K X.mg X.base X.A X.stack s H:=⟨I.ok.frames,I.ok.mod,I.bs,ay I.ok.bsz I.sz,I.stack,I.stkFree,I.hok,I.bare⟩
theorem Inv.after{Q:VK}{u:Value}(I:Inv X pins σ H s)(h:CE X.stack X.prog X.w H s Q u s'):EP X pins σ Q u s':=by obtain⟨v,H',os,bare,un,hok,r,q⟩:=h;obtain⟨hh,g,d,t,os'⟩:=s';obtain rfl:os'=s.os:=os;exact⟨v,H',I.call (h':=hh) (g':=g) (d':=d) (t':=t) (ch:=[]) un hok bare (λb z=>absurd z (by simp)),r,q⟩
end
def GU(sp:Sp)(dvs:List V)(E:XK)(t:TA):TE:=λσ H Q=>t σ H λvs H1=>sp (vs++dvs) H1 Q E
def GV(C:Addr)(m:Str)(sp:Sp)(dvs:List V)(E:XK)(ta:TE)(t:TA):TE:=λσ H Q=>ta σ H λx H1=>∃a dx fs,x=.ref a/\H1 a=some (.ins C dx fs)/\fs.lookup m=none/\t σ H1 λvs H2=>sp (x::(vs++dvs)) H2 Q E
def BZ(C:Addr)(sp:Sp)(dvs:List V)(E:XK)(t:TA):TE:=λσ H Q=>t σ H λvs H1=>∀x dx,H1 x=none->H1 dx=none->dx≠x->sp (.ref x::(vs++dvs)) (upd (upd H1 dx (.own x)) x (.ins C dx [])) (λv H2=>v=.non/\Q (.ref x) H2) E
def Binds(K:aj)(fd:FuncData)(ps:List Str)(ds:List Value):Prop:=∀(s:Shared)(us:List Value),K.In s.heap->(us++ds).length=ps.length->BindsTo s fd ⟨us,[]⟩ (ps.zip (us++ds))
theorem Binds.all{K:aj}{fd:FuncData}{ps:List Str}(h:∀us:List Value,us.length=ps.length->bindArgs fd ⟨us,[]⟩=pure (ps.zip us)):Binds K fd ps []:=λs us _ hl=>by rw[cP]at hl⊢;exact .of_eq (h us hl)
def pY(CX:DH)(X:Cx)(E:XK):Prop:=∀(pins:List (Addr×Obj))(σ:St)(H:Hp)(s:Shared)(e:Value)(s':Shared),Inv X pins σ H s->CX X.stack H s E e s'->X.xe e s'
section
variable {X:Cx}{CX:DH}{k:Nat}{f C:Addr}{fd:FuncData}{ps:List Str}{sp:Sp}{dvs:List V}{ds:List Value}{E:XK}{x m:Str}{p pos apos:Pos}{e o:Expr}{es:List Expr}{ta:TE}{t:TA}
theorem D7{pins:List (Addr×Obj)}{σ:St}{H:Hp}{s:Shared}{Q:VK}{us:List Value}{vs:List V}(F:ck X.prog X.w X.K X.mg X.base CX k f fd ps sp)(hr:cT k X.A)(hb:Binds X.K fd ps ds)(hd:cG dvs ds)(hx:pY CX X E)(I:Inv X pins σ H s)(r:cG vs us)(h:sp (vs++dvs) H Q E):wpAny (model X.prog X.w) X.A (call (.ref f) us) (EP X pins σ Q) X.xe s:=by
 have r2:cG (vs++dvs) (us++ds):=r.append hd;have hl:(us++ds).length=ps.length:=by rw[<-r2.length];exact F.len _ _ _ _ h
 refine wpAny_call (codeAny_mono (F.run X.A X.stack s H ⟨us,[]⟩ (us++ds) (vs++dvs) Q E hr I.env0 (hb s us I.kIn hl) r2 h) λr s' hq=>?_);cases r with
 |error e=>exact hx pins σ H s e s' I hq
 |ok fl=>
  cases fl with
  |ret u=>exact I.after hq
  |next=>exact dB hq
  |brk=>exact dB hq
  |cont=>exact dB hq
theorem FW(F:ck X.prog X.w X.K X.mg X.base CX k f fd ps sp)(hr:cT k X.A)(hg:Gl X x)(hm:X.mg x=some (.ref f))(hk:eG X.K (.ref f)=true)(hb:Binds X.K fd ps ds)(hd:cG dvs ds)(hx:pY CX X E)(ha:PA X (e::es) t)(hdb:(x==("__debug__":Str))=false:=by decide)(he:starEach (e::es) X.env=(false,eval e X.env)::starEach es X.env:=by rfl)(hpl:(backTo pos (starEach es X.env)).any (·.1)=false:=by rfl):PE X (.Call (.Name x p) (e::es) [] pos) (GU sp dvs E t):=by intro pins s σ H Q I h;refine wpAny_Call_Name_kw (uj I hg hm ?_ hdb);refine Ii (h₀:=X.base) I.ok.mod.kin hk (eR (ha pos pins s σ H _ I h) λus s1⟨vs,H1,I1,r,q⟩=>⟨I1.kIn,?_⟩) he hpl;exact D7 F hr hb hd hx I1 r q
theorem D8{pl:Sem Bool}(he:PE X o ta)(c:CK X.K C)(hm:zj X.K C m f)(F:ck X.prog X.w X.K X.mg X.base CX k f fd ps sp)(hr:cT k X.A)(hb:Binds X.K fd ps ds)(hd:cG dvs ds)(hx:pY CX X E)(ht:eval (.Call (.Attribute o m apos) [] [] pos) X.env=(do
   let ov <-eval o X.env
   standAt apos.atName
   let(f,first) <-holding [ov] (getMethod ov m pl)
   callWith pos f first (backTo pos (starEach [] X.env)) (backToKw pos (keywordEach [] X.env))):=by rfl):PE X (.Call (.Attribute o m apos) [] [] pos) (GV C m sp dvs E ta nv):=by
 intro pins s σ H Q I h;refine FC (pl:=pl) (eR (he pins s σ H _ I h) λu s1⟨x,H1,I1,rx,a,dx,fs,ex,ea,l,q⟩=>?_) ht;subst ex;obtain rfl:u=Value.ref a:=rx;refine uG I1 ea c hm l ?_;exact Hf (first:=[.ref a]) I1.kIn hm.kp (D7 (us:=[.ref a]) (vs:=[.ref a]) F hr hb hd hx I1 (.cons rfl .nil) q)
structure Mk(K:aj)(C f:Addr):Prop where
 makes:Az K C=true
 init:dy K (.ref C) "__init__"=some (some (.ref f))
 fn:qt K (.ref f)=true
 kp:eG K (.ref C)=true
theorem zm{pins:List (Addr×Obj)}{σ:St}{H:Hp}{s:Shared}{Q:VK}{us:List Value}{vs:List V}(M:Mk X.K C f)(F:ck X.prog X.w X.K X.mg X.base CX k f fd ps sp)(hr:cT (k+1) X.A)(hb:Binds X.K fd ps ds)(hd:cG dvs ds)(hx:pY CX X E)(I:Inv X pins σ H s)(r:cG vs us)(h:∀x dx,H x=none->H dx=none->dx≠x->sp (.ref x::(vs++dvs)) (upd (upd H dx (.own x)) x (.ins C dx [])) (λv H2=>v=.non/\Q (.ref x) H2) E):wpAny (model X.prog X.w) X.A (call (.ref C) us) (EP X pins σ Q) X.xe s:=by
 have hq:=h (s.heap.objs.size+1) s.heap.objs.size (I.hok.fresh (jb _)) (I.hok.fresh (aN _)) (bF (dE _));have I2:=Inv.made (C:=C) I;have r2:cG (V.ref (s.heap.objs.size+1)::(vs++dvs)) (Value.ref (s.heap.objs.size+1)::(us++ds)):=.cons rfl (r.append hd);have hl:(Value.ref (s.heap.objs.size+1)::us++ds).length=ps.length:=by have e:=r2.length;rw[F.len _ _ _ _ hq]at e;exact e.symm
 refine wpAny_call (D3 (f:=f) I.kIn M.makes M.init (beq_iff_eq.mp M.fn) (codeAny_mono (F.run _ X.stack _ _ ⟨Value.ref (s.heap.objs.size+1)::us,[]⟩ (Value.ref (s.heap.objs.size+1)::(us++ds)) _ _ E (hr.make C us []) (I2.env0.make C us []) (hb _ (Value.ref (s.heap.objs.size+1)::us) I2.kIn hl) r2 hq) λr s' hq'=>?_));cases r with
 |error e=>exact hx pins σ _ _ e s' I2 hq'
 |ok fl=>
  cases fl with
  |ret u=>
   obtain⟨v,H',I3,rv,ev,q3⟩:=I2.after hq'
   subst ev
   exact⟨rv,⟨V.ref (s.heap.objs.size+1),H',I3,rfl,q3⟩⟩
  |next=>exact dB hq'
  |brk=>exact dB hq'
  |cont=>exact dB hq'
theorem FX(M:Mk X.K C f)(F:ck X.prog X.w X.K X.mg X.base CX k f fd ps sp)(hr:cT (k+1) X.A)(hg:Gl X x)(hm:X.mg x=some (.ref C))(hb:Binds X.K fd ps ds)(hd:cG dvs ds)(hx:pY CX X E)(ha:PA X (e::es) t)(hdb:(x==("__debug__":Str))=false:=by decide)(he:starEach (e::es) X.env=(false,eval e X.env)::starEach es X.env:=by rfl)(hpl:(backTo pos (starEach es X.env)).any (·.1)=false:=by rfl):PE X (.Call (.Name x p) (e::es) [] pos) (BZ C sp dvs E t):=by intro pins s σ H Q I h;refine wpAny_Call_Name_kw (uj I hg hm ?_ hdb);refine Ii (h₀:=X.base) I.ok.mod.kin M.kp (eR (ha pos pins s σ H _ I h) λus s1⟨vs,H1,I1,r,q⟩=>⟨I1.kIn,?_⟩) he hpl;exact zm M F hr hb hd hx I1 r q
theorem D9(M:Mk X.K C f)(F:ck X.prog X.w X.K X.mg X.base CX k f fd ps sp)(hr:cT (k+1) X.A)(hg:Gl X x)(hm:X.mg x=some (.ref C))(hb:Binds X.K fd ps ds)(hd:cG dvs ds)(hx:pY CX X E)(hdb:(x==("__debug__":Str))=false:=by decide):PE X (.Call (.Name x p) [] [] pos) (BZ C sp dvs E nv):=by intro pins s σ H Q I h;refine wpAny_Call_Name_kw (uj I hg hm ?_ hdb);exact Hf I.kIn M.kp (zm (us:=[]) M F hr hb hd hx I .nil h)
end
section
variable {X:Cx}{CX:DH}{k:Nat}{f C:Addr}{fd:FuncData}{ps ks:List Str}{sp:Sp}{E:XK}{x m:Str}{p pos apos kpos:Pos}{e o:Expr}{es:List Expr}{kws:List Keyword}{te ta:TE}{t tk:TA}{nm:Option Str}
variable {g:List Value->List Value->List Value}{gV:List V->List V->List V}
end
structure a_(N P:List Str)(sc:Scope):Prop where
 kind:sc.kind=.function
 co:sc.isCoroutine=false
 gen:sc.isGenerator=false
 nd:N.Nodup
 pre:N.take P.length=P
 par:∀x∈P,sc.names.lookup x=some .local\/sc.names.lookup x=some .cell
 nofree:∀y∈sc.names,y.2≠.free
theorem xt{kindOf:Str->Option NameKind}{x:Str}:∀{binds:List (Str×Value)}{m:Str->Option Value},(∀v,(x,v)∉binds)->bindL kindOf binds m x=m x
 |[],_,_=>rfl
 |(n,v)::r,m,h=>by
  unfold bindL;rw[xt λw hw=>h w (aJ _ hw)];split
  ·have:x≠n:=by rintro rfl;exact h v aY
   simp[this]
  ·rfl
theorem xw{kindOf:Str->Option NameKind}{x:Str}:∀{binds:List (Str×Value)}{m:Str->Option Value},(∀v,(x,v)∉binds)->bindC kindOf binds m x=m x
 |[],_,_=>rfl
 |(n,v)::r,m,h=>by
  unfold bindC;rw[xw λw hw=>h w (aJ _ hw)];split
  ·rfl
  ·have:x≠n:=by rintro rfl;exact h v aY
   simp[this]
theorem xx{kindOf:Str->Option NameKind}{x:Str}{v:Value}:∀{P:List Str}{vs:List Value}{i:Nat}{m:Str->Option Value},P.Nodup->P[i]?=some x->vs[i]?=some v->kindOf x=some .local->bindL kindOf (P.zip vs) m x=some v
 |[],_,_,_,_,h,_,_=>by simp at h
 |_::_,[],_,_,_,_,h,_=>by simp at h
 |p::P,w::vs,0,m,nd,h1,h2,hk=>by
  simp at h1 h2;subst h1;subst h2;show bindL kindOf ((p,w)::P.zip vs) m p=_;unfold bindL;rw[xt λv hv=>(bO.mp nd).1 (AA hv).1,if_pos hk];simp
 |p::P,w::vs,i+1,m,nd,h1,h2,hk=>by show bindL kindOf ((p,w)::P.zip vs) m x=_;unfold bindL;exact xx (i:=i) (bO.mp nd).2 (by simpa using h1) (by simpa using h2) hk
theorem xy{kindOf:Str->Option NameKind}{x:Str}{v:Value}:∀{P:List Str}{vs:List Value}{i:Nat}{m:Str->Option Value},P.Nodup->P[i]?=some x->vs[i]?=some v->kindOf x≠some .local->bindC kindOf (P.zip vs) m x=some v
 |[],_,_,_,_,h,_,_=>by simp at h
 |_::_,[],_,_,_,_,h,_=>by simp at h
 |p::P,w::vs,0,m,nd,h1,h2,hk=>by
  simp at h1 h2;subst h1;subst h2;show bindC kindOf ((p,w)::P.zip vs) m p=_;unfold bindC;rw[xw λv hv=>(bO.mp nd).1 (AA hv).1,if_neg hk];simp
 |p::P,w::vs,i+1,m,nd,h1,h2,hk=>by show bindC kindOf ((p,w)::P.zip vs) m x=_;unfold bindC;exact xy (i:=i) (bO.mp nd).2 (by simpa using h1) (by simpa using h2) hk
def start(N:List Str)(vs:List V):St:=vs.map some++List.replicate (N.length-vs.length) none
def CL(CX:DH)(P:Program)(w:World)(K:aj)(mg:Str->Option Value)(base:Heap)(N:List Str)(qual:Str)(scope:Scope)(f:Addr)(cd:Value)(A:Around)(outer:List Env)(s:Shared)(H:Hp)(E:XK):Cx where
 prog:=P
 w:=w
 K:=K
 mg:=mg
 base:=base
 A:=A.deeper (envOfC qual scope s.heap.objs.size f cd)
 N:=N
 s_0:=s
 H_0:=H
 env:=envOfC qual scope s.heap.objs.size f cd
 outer:=outer
 stack:=envOfC qual scope s.heap.objs.size f cd::outer
 ex:=[]
 calm:=true
 fn:=λ_=>true
 pn:=[]
 xe:=λe s'=>wpAny (model P w) (A.deeper (envOfC qual scope s.heap.objs.size f cd)) (leaving (envOfC qual scope s.heap.objs.size f cd) e) (λ_ s''=>CX outer H s E e s'') (λe' s''=>CX outer H s E e' s'') s'
theorem zo{sc:Scope}{n:Nat}{x:Str}(h:sc.names.lookup x=some .cell):∃c,(cellsFrom n sc.names []).lookup x=some c:=by have q:=Fs sc.names n [] (.inl h);exact DA.mp q
theorem CM{CX:DH}{P:Program}{w:World}{K:aj}{mg:Str->Option Value}{base:Heap}{N ps:List Str}{qual:Str}{scope:Scope}{f:Addr}{cd:Value}{A:Around}{outer:List Env}{s s1:Shared}{H:Hp}{E:XK}{us:List Value}{vs:List V}(S:a_ N ps scope)(hd:A.handled=none)(e0:AR P w K mg base A outer s H)(hl:vs.length=ps.length)(r:cG vs us)(x:InCallC s s.heap.objs.size (bindL (envOfC qual scope s.heap.objs.size f cd).kindOf (ps.zip us) λ_=>none) (cellsFrom (s.heap.objs.size+1) scope.names []) (bindC (envOfC qual scope s.heap.objs.size f cd).kindOf (ps.zip us) λ_=>none) s1):Inv (CL CX P w K mg base N qual scope f cd A outer s H E) [] (start N vs) H s1:=by
 have hpl:ps.length<=N.length:=by have:=congrArg jc S.pre;rw[fe]at this;omega
 obtain⟨h1,tk,rfl,hk⟩:=x.done;have noA:∀b:Addr,b∉(CL CX P w K mg base N qual scope f cd A outer s H E).ex:=λb z=>absurd (show b∈([]:List Addr)from z) (by simp);refine⟨⟨e0.mod,S.kind,rfl,rfl,aN _,λy z c h1 h2=>?_,λy hy=>?_,λy c _ h=>?_,λ_=>hd,Around.frames_deeper e0.frames,.inr ⟨rfl,rfl⟩,λb z=>absurd z (noA b),e0.bs,e0.bsz,λb _ _=>noA b,λb z=>absurd z (noA b),e0.funs,e0.frf⟩,rfl,e0.bare,Un.kept hk,⟨_,x.toInCall.ns,λi y v h1 h2 h3=>?_⟩,λy c h=>⟨_,x.cell y c h⟩,e0.hok.fresh (aN _),λy c h=>?_,λp hp=>absurd (show p∈([]:List (Addr×Obj))from hp) (by simp),e0.hok.kept hk,?_⟩
 ·exact name_of_addr x.apart (bT h1) (bT h2)
 ·have hy:scope.names.lookup y=some .cell\/scope.names.lookup y=some .free:=hy;rcases hy with hy|hy
  ·exact zo hy
  ·exact absurd rfl (S.nofree _ (bT hy))
 ·exact cB (x.above y c (bT h))
 ·have hi:i<vs.length:=by
   unfold start at h2;by_cases hi:i<vs.length
   ·exact hi
   ·rw[List.getElem?_append_right (by simpa using hi)]at h2;rw[List.getElem?_replicate]at h2;split at h2<;>cases h2
  have ha:vs[i]?=some v:=by
   unfold start at h2;rw[List.getElem?_append_left (by simpa using hi),a9]at h2;cases e:vs[i]?with
   |none=>rw[e]at h2;cases h2
   |some a=>rw[e]at h2;cases h2;rfl
  obtain⟨u,hu,rv⟩:=r.get ha;have hp:ps[i]?=some y:=by rw[<-S.pre,DB (by omega)];exact h1
  have ndP:ps.Nodup:=by rw[<-S.pre];exact S.nd.sublist (b_ _ _)
  refine⟨u,rv,?_⟩;rcases S.par y (aP hp)with k|k
  ·exact .inl ⟨k,xx ndP hp hu k⟩
  ·obtain⟨c,e⟩:=zo (n:=s.heap.objs.size+1) k;refine .inr ⟨.inl k,c,e,?_⟩;have q:=x.cell y c e;rw[xy ndP hp hu (by show scope.names.lookup y≠_;rw[k];decide)]at q;exact q
 ·exact e0.hok.fresh (cB (x.above y c (bT h)))
 ·unfold start;show _=N.length;rw[bD,ae,List.length_replicate];omega
theorem IH{CX:DH}{P:Program}{w:World}{K:aj}{mg:Str->Option Value}{base:Heap}{k:Nat}{f:Addr}{name qual:Str}{params:Arguments}{body:List Stmt}{scope:Scope}{dV kV doc pm cdv ct oc:Value}{an od:Option Addr}{osl:Array (Option Value)}{N ps:List Str}{sp:Sp}(lk:K.lookup f=some ⟨oc,od,.func (dO name qual params body scope dV kV doc pm an cdv ct),osl⟩)(hcd:jx K cdv qual=true)(S:a_ N ps scope)(len:∀vs H Q E,sp vs H Q E->vs.length=ps.length)(hbody:∀(A:Around)(outer:List Env)(s:Shared)(H:Hp)(vs:List V)(Q:VK)(E:XK),cT k (A.deeper (envOfC qual scope s.heap.objs.size f cdv))->sp vs H Q E->∃t,BQ (CL CX P w K mg base N qual scope f cdv A outer s H E) body t/\t {nx:=λ_ H'=>Q .non H',rt:=Q} (start N vs) H):ck P w K mg base CX (k+1) f (dO name qual params body scope dV kV doc pm an cdv ct) ps sp:=by
 refine⟨len,λA outer s H args us vs Q E hr e0 hb r hsp=>?_⟩;have hl:=len _ _ _ _ hsp;have KX:K.In s.heap:=e0.mod.kin.keeps λb o e=>(e0.bs b o e).1;have lim:s.heap.NoLimit:=e0.mod.nolimit.keeps λb o e=>(e0.bs b o e).1;have hkind:∀y∈ps.zip us,scope.names.lookup y.1=some .local\/(scope.names.lookup y.1=some .cell/\((cellsFrom (s.heap.objs.size+1) scope.names []).lookup y.1).isSome=true):=λ⟨n,v⟩hy=>by
  rcases S.par n (AA hy).1 with q|q
  ·exact .inl q
  ·exact .inr ⟨q,Fs _ _ _ (.inl q)⟩
 refine codeAny_call_function hr.depth (KX _ _ lk) rfl S.co S.gen rfl (PySem.W.codeRec_of KX hcd) (hb _ _ _ _ ?_);refine wpAny_newFunctionEnv_cells S.kind hkind λenv he s1 x=>?_;subst he;refine⟨lim.keeps x.toInCall.keep,codeAny_func ?_⟩;obtain⟨t,ht,hq⟩:=hbody A outer s H vs Q E (hr.deeper _) hsp;have I:Inv (CL CX P w K mg base N qual scope f cdv A outer s H E) [] (start N vs) H s1:=CM S hr.hd e0 hl r x;refine wpAny_mono (ht [] s1 (start N vs) H _ I hq) (λfl s' hs=>?_) λe s' hs=>hs;have fin:∀{σ':St}{H':Hp}{v:V}{u:Value},Inv (CL CX P w K mg base N qual scope f cdv A outer s H E) [] σ' H' s'->RelV v u->Q v H'->CE outer P w H s Q u s':=λ{σ' H' v u}J rv q=>⟨v,H',J.os,J.bare,J.base,J.hok,rv,q⟩;cases fl with
 |ret u=>
  obtain⟨v,σ',H',J,rv,q⟩:=hs
  exact fin J rv q
 |next=>
  obtain⟨σ',H',J,q⟩:=hs
  exact fin (v:=V.non) (u:=Value.none) J rfl q
 |brk=>
  obtain⟨_,_,_,q⟩:=hs
  exact dB q
 |cont=>
  obtain⟨_,_,_,q⟩:=hs
  exact dB q
end L2
namespace L2
open PySem PySem.Spec PyProof.Rows
section
variable {X:Cx}{x:Str}{p pos:Pos}{e:Expr}{es:List Expr}{t:TA}{id T:String}{r:List V->Hp->VK->Prop}
def tCB(r:List V->Hp->VK->Prop)(t:TA):TE:=λσ H Q=>t σ H λvs H1=>r vs H1 Q
theorem bz(hc:iJ X (.builtin id) r)(hg:Gl X x)(hm:X.mg x=none)(hv:bootBuiltins x=some (.builtin id))(ha:PA X (e::es) t)(hn:x≠"__name__":=by decide)(hdb:(x==("__debug__":Str))=false:=by decide)(he:starEach (e::es) X.env=(false,eval e X.env)::starEach es X.env:=by rfl)(hpl:(backTo pos (starEach es X.env)).any (·.1)=false:=by rfl):PE X (.Call (.Name x p) (e::es) [] pos) (tCB r t):=by intro pins s σ H Q I h;refine wpAny_Call_Name_kw (rH I hg hm hv ?_ hn hdb);exact PyProof.Rows.callWith_builtin1 (eR (ha pos pins s σ H _ I h) λus s1⟨vs,H1,I1,r1,q1⟩=>hc pins s1 σ H1 vs us Q I1 r1 q1) he hpl
theorem iL(hc:iJ X (.type T) r)(hg:Gl X x)(hm:X.mg x=none)(hv:bootBuiltins x=some (.type T))(ha:PA X (e::es) t)(hn:x≠"__name__":=by decide)(hdb:(x==("__debug__":Str))=false:=by decide)(he:starEach (e::es) X.env=(false,eval e X.env)::starEach es X.env:=by rfl)(hpl:(backTo pos (starEach es X.env)).any (·.1)=false:=by rfl):PE X (.Call (.Name x p) (e::es) [] pos) (tCB r t):=by intro pins s σ H Q I h;refine wpAny_Call_Name_kw (rH I hg hm hv ?_ hn hdb);exact eU (eR (ha pos pins s σ H _ I h) λus s1⟨vs,H1,I1,r1,q1⟩=>hc pins s1 σ H1 vs us Q I1 r1 q1) he hpl
end
end L2
namespace HT
open PySem PyProof.Rows
section
open PySem.SeqAt
open PySem.AutoSeq1 (wpAny_loadPart')
open PySem.MeetsSeq PySem.MeetsSeq2 PySem.MeetsSeq3
end
section
variable {prog:Program}{w:World}{A:Around}{E:Value->Shared->Prop}{s:Shared}
def zp(n d:Nat):Option Int->Nat
 |none=>d
 |some v=>if v<0 then(v+(n:Int)).toNat else min v.toNat n
theorem D_(n d:Nat):zp n d none=d:=rfl
theorem yc(n d k:Nat):zp n d (some (k:Int))=min k n:=by show(if(k:Int)<0 then((k:Int)+(n:Int)).toNat else min (k:Int).toNat n)=min k n;rw[if_neg (by omega),cy]
end
end HT
namespace L2
open PySem PySem.Spec PyProof.Rows
abbrev TO:=St->Hp->(Option Int->Hp->Prop)->Prop
def PO(X:Cx)(e:Option Expr)(t:TO):Prop:=∀(pins:List (Addr×Obj))(s:Shared)(σ:St)(H:Hp)(Q:Option Int->Hp->Prop),Inv X pins σ H s->t σ H Q->wpAny (model X.prog X.w) X.A (evalPart e X.env) (λu s'=>∃o H',Inv X pins σ H' s'/\IsPart u o/\Q o H') X.xe s
def FY:TO:=λ_ H Q=>Q none H
def II(t:TE):TO:=λσ H Q=>t σ H λx H1=>∃i,x=.int i/\Q (some i) H1
section
variable {X:Cx}{e:Expr}{te:TE}{lo hi:Option Expr}{tl th:TO}{pos p2:Pos}
theorem FZ:PO X none FY:=by intro pins s σ H Q I h;rw[evalPart_none];exact wpAny_pure ⟨none,H,I,.none,h⟩
theorem jI(h:PE X e te):PO X (some e) (II te):=by intro pins s σ H Q I hw;rw[evalPart_some];refine eR (h pins s σ H _ I hw) λu s1⟨x,H1,I1,r1,q1⟩=>?_;obtain⟨i,rfl,q⟩:=q1;obtain⟨t,rfl⟩:=r1;exact⟨some i,H1,I1,.int i t,q⟩
def SlR(X:Cx)(r:V->Option Int->Option Int->Hp->VK->Prop):Prop:=∀(pins:List (Addr×Obj))(s:Shared)(σ:St)(H:Hp)(x:V)(v vl vu:Value)(lo hi:Option Int)(sl:Addr)(Q:VK),Inv X pins σ H s->RelV x v->s.heap.IsSliceOf sl vl vu .none->IsPart vl lo->IsPart vu hi->r x lo hi H Q->∃T id,typeLookup (.type T) "__getitem__"=pure (some (.builtin id))/\s.TypeIs v T/\wpAny (model X.prog X.w) X.A (getItem v (.ref sl)) (EP X pins σ Q) X.xe s
def tSl(r:V->Option Int->Option Int->Hp->VK->Prop)(te:TE)(tl th:TO):TE:=λσ H Q=>te σ H λx H1=>tl σ H1 λl H2=>th σ H2 λu H3=>r x l u H3 Q
theorem nU{r:V->Option Int->Option Int->Hp->VK->Prop}(hr:SlR X r)(he:PE X e te)(hl:PO X lo tl)(hu:PO X hi th):PE X (.Subscript e (.Slice lo hi none p2) pos) (tSl r te tl th):=by intro pins s σ H Q I h;refine Subscript_ (eR (he pins s σ H _ I h) λv s1⟨x,H1,I1,r1,q1⟩=>?_);refine wpAny_Slice (eR (hl pins s1 σ H1 _ I1 q1) λvl s2⟨l,H2,I2,pl,q2⟩=>eR (hu pins s2 σ H2 _ I2 q2) λvu s3⟨u,H3,I3,pu,q3⟩=>?_);rw[evalPart_none];refine wpAny_pure ?_;have I4:Inv X pins σ H3 {s3 with heap:=s3.heap.push {cls:=.type "slice",data:=.fields #[vl,vu,.none]}}:=I3.kept (t':=s3.toks) λb ob q=>Heap.get?_push_of_some _ q;obtain⟨T,id,hT,ht,hg⟩:=hr pins {s3 with heap:=s3.heap.push {cls:=.type "slice",data:=.fields #[vl,vu,.none]}} σ H3 x v vl vu l u s3.heap.objs.size Q I4 r1 (Heap.IsSliceOf.new ..) pl pu q3;show wpAny (model X.prog X.w) X.A (subscriptTail e (.Slice lo hi none p2) v (.ref s3.heap.objs.size)) (EP X pins σ Q) X.xe {s3 with heap:=s3.heap.push {cls:=.type "slice",data:=.fields #[vl,vu,.none]}};exact tail_any (ops:=[.ref s3.heap.objs.size,v]) ht hT hg (by with_unfolding_all rfl)
def uH(xs:List V)(lo hi:Option Int):List V:=(xs.drop (HT.zp xs.length 0 lo)).take (HT.zp xs.length xs.length hi-HT.zp xs.length 0 lo)
theorem zq(xs:List V)(lo hi:Option Int):(uH xs lo hi).length<=xs.length:=by unfold uH;rw[fe,dF];omega
end
end L2
namespace L2
open PySem PySem.Spec PyProof.Rows
def Io(n:Nat)(i:Int):Option Nat:=if 0<=i then(if i<n then some i.toNat else none)else if-(n:Int)<=i then some (i+n).toNat else none
def Ht{α:Type}(xs:List α)(i:Int):Option α:=(Io xs.length i).bind λj=>xs[j]?
theorem F0{n:Nat}{i:Int}{j:Nat}(h:Io n i=some j):seqIndex? i n=some j/\j<n/\-(n:Int)<=i/\i<n:=by
 unfold Io at h;by_cases h0:0<=i
 ·rw[if_pos h0]at h;by_cases h1:i<n
  ·rw[if_pos h1]at h;have e:i.toNat=j:=a0 h;exact⟨by rw[seqIndex_of h0 h1,e],by omega,by omega,h1⟩
  ·rw[if_neg h1]at h;cases h
 ·rw[if_neg h0]at h;by_cases h1:-(n:Int)<=i
  ·rw[if_pos h1]at h;have e:(i+n).toNat=j:=a0 h;exact⟨by rw[seqIndex_neg (by omega) h1,e],by omega,h1,by omega⟩
  ·rw[if_neg h1]at h;cases h
theorem B0{α:Type}{xs:List α}{i:Int}{v:α}(h:Ht xs i=some v):∃j,seqIndex? i xs.length=some j/\xs[j]?=some v/\j<xs.length/\-(xs.length:Int)<=i/\i<xs.length:=by
 unfold Ht at h;cases e:Io xs.length i with
 |none=>rw[e]at h;cases h
 |some j=>
  rw[e]at h
  obtain⟨h1,h2,h3,h4⟩:=F0 e
  exact⟨j,h1,h,h2,h3,h4⟩
theorem F1{α:Type}{xs:List α}{j:Nat}{v:α}(h:xs[j]?=some v):Ht xs (j:Int)=some v:=by
 have hj:j<xs.length:=(aM.mp h).1;have e:Io xs.length (j:Int)=some j:=by unfold Io;rw[if_pos (by omega),if_pos (by omega)];simp
 unfold Ht;rw[e];exact h
def F2(b:Expr):Prop:=∀o i,subscripted b false o i=operate [o,i] (getItem o i)
def IJ(X:Cx)(r:R2):Prop:=∀(value slice:Expr)(pins:List (Addr×Obj))(s:Shared)(σ:St)(H:Hp)(x y:V)(v u:Value)(Q:VK),Inv X pins σ H s->RelV x v->RelV y u->r x y H Q->subscripted slice false v u=operate [v,u] (getItem v u)->wpAny (model X.prog X.w) X.A (subscriptTail value slice v u) (EP X pins σ Q) X.xe s
def MtR(X:Cx)(id:String)(r:V->List V->Hp->VK->Prop):Prop:=∀(pins:List (Addr×Obj))(s:Shared)(σ:St)(H:Hp)(x:V)(xs:List V)(v:Value)(us:List Value)(Q:VK),Inv X pins σ H s->RelV x v->cG xs us->r x xs H Q->wpAny (model X.prog X.w) X.A (call (.builtin id) (v::us)) (EP X pins σ Q) X.xe s
section
variable {X:Cx}{a b:Expr}{ta tb:TE}{pos:Pos}
theorem gM{r:R2}(hr:IJ X r)(ha:PE X a ta)(hb:PE X b tb)(hs:F2 b):PE X (.Subscript a b pos) (BU r ta tb):=by intro pins s σ H Q I h;exact Subscript_ (Ho ha hb I h λv u s2 x y H2 I2 rx ry q=>hr a b pins s2 σ H2 x y v u Q I2 rx ry q (hs _ _))
def Hu(K:aj):R2:=λx y H Q=>∃p xs i v,x=.ref p/\y=.int i/\bZ K H p xs/\Ht xs i=some v/\Q v H
def F3(K:aj):R2:=λx y H Q=>∃p xs i v,x=.ref p/\y=.int i/\xp K H p xs/\Ht xs i=some v/\Q v H
theorem ig:IJ X (Hu X.K):=by
 intro value slice pins s σ H x y v u Q I rx ry h hs;obtain⟨p,xs,i,z,rfl,rfl,hq,he,q⟩:=h;cases rx;obtain⟨t,rfl⟩:=ry;obtain⟨its,r,pl,hz⟩:=I.list hq;obtain⟨j,h1,h2,h3,h4,h5⟩:=B0 he;obtain⟨w,ew,rw'⟩:=r.get h2;have hl:=r.length;have hn:=AK;have fin:EP X pins σ Q w s:=⟨z,H,I,rw',q⟩;by_cases h0:0<=i
 ·have hj:i.toNat=j:=by rw[seqIndex_of h0 h5]at h1;exact a0 h1
  exact item_listR pl.isList h0 (by omega) (by rw[hj];simpa using ew) fin hs
 ·have hj:(i+(its.toArray.size:Int)).toNat=j:=by rw[seqIndex_neg (by omega) h4]at h1;rw[bg,<-hl];exact a0 h1
  exact subscriptTail_builtinR (x:=w) pl.isList.typeIs slot_list_getitem.lookup (wpAny_getItem_list_neg (Q:=λr s'=>r=w/\EP X pins σ Q r s') pl.isList (by omega) (by rw[bg]<;>omega) (by omega) (by rw[hj];simpa using ew) ⟨rfl,fin⟩) hs
theorem mj:IJ X (F3 X.K):=by intro value slice pins s σ H x y v u Q I rx ry h hs;obtain⟨p,xs,i,z,rfl,rfl,hq,he,q⟩:=h;cases rx;obtain⟨t,rfl⟩:=ry;obtain⟨its,r,pl,hz⟩:=I.tuple hq;obtain⟨j,h1,h2,h3,h4,h5⟩:=B0 he;obtain⟨w,ew,rw'⟩:=r.get h2;have hl:=r.length;have hn:=AK;have fin:EP X pins σ Q w s:=⟨z,H,I,rw',q⟩;exact subscriptTail_builtinR (x:=w) pl.typeIs slot_tuple_getitem.lookup (getItem_tuple (j:=j) (Q:=λr s'=>r=w/\EP X pins σ Q r s') pl (by omega) (by omega) (by rw[bg,<-hl];exact h1) (by simpa using ew) ⟨rfl,fin⟩) hs
theorem yd(lo hi:Option Int)(n:Nat):(sliceBounds lo hi none n).1=((HT.zp n 0 lo:Nat):Int)/\(sliceBounds lo hi none n).2.1=((HT.zp n n hi:Nat):Int)/\(sliceBounds lo hi none n).2.2=1:=by
 refine⟨?_,?_,rfl⟩
 ·cases lo with
  |none=>simp[sliceBounds,HT.zp]
  |some i=>
   simp only[sliceBounds,HT.zp,Jg,show(1:Int)>0 by decide,if_true]
   by_cases h:i<0
   ·simp only[h,if_true]<;>omega
   ·simp only[h,if_false]<;>omega
 ·cases hi with
  |none=>simp[sliceBounds,HT.zp]
  |some i=>
   simp only[sliceBounds,HT.zp,Jg,show(1:Int)>0 by decide,if_true]
   by_cases h:i<0
   ·simp only[h,if_true]<;>omega
   ·simp only[h,if_false]<;>omega
theorem wo(its:List Value)(lo hi:Option Int):slicePick its.toArray lo hi none=((its.drop (HT.zp its.length 0 lo)).take (HT.zp its.length its.length hi-HT.zp its.length 0 lo)).toArray:=by obtain⟨h1,h2,h3⟩:=yd lo hi its.toArray.size;unfold slicePick;rw[h1,h2,h3];simp only[sliceRange_one,pick_run,bg]<;>rfl
def rSlL(K:aj):V->Option Int->Option Int->Hp->VK->Prop:=λx lo hi H Q=>∃a xs,x=.ref a/\bZ K H a xs/\∀p,H p=none->Q (.ref p) (upd H p (.lst (uH xs lo hi)))
theorem qD:SlR X (rSlL X.K):=by intro pins s σ H x v vl vu lo hi sl Q I rx hs pl pu h;obtain⟨a,xs,rfl,hx,q⟩:=h;cases rx;obtain⟨its,r,ht,hz⟩:=I.list hx;have hlen:=r.length;refine⟨"list",_,slot_list_getitem.lookup,ht.isList.typeIs,?_⟩;refine wpAny_getItem_list_slice ht.isList hs pl pu .none (by simp) ?_ (by rw[bg]<;>omega);rw[wo,<-hlen];refine⟨.ref s.heap.objs.size,_,I.laid (t':=s.toks) (o:=.lst (uH xs lo hi)) (λb ob q=>Heap.get?_push_of_some _ q) (aN _) ?_,rfl,q _ (I.hok.fresh (aN _))⟩;exact⟨ay (zq xs lo hi) hz,_,0,(r.drop (HT.zp xs.length 0 lo)).take (HT.zp xs.length xs.length hi-HT.zp xs.length 0 lo),Heap.get?_push_size _ rfl⟩
def tE:V->Bool
 |.non=>true
 |.bl _=>true
 |.int _=>true
 |.str _=>true
 |_=>false
def FA:V->V->Bool
 |.non,.non=>true
 |.bl a,.bl b=>a==b
 |.bl a,.int b=>(if a then 1 else 0)==b
 |.int a,.bl b=>a==(if b then 1 else 0)
 |.int a,.int b=>a==b
 |.str a,.str b=>a==b
 |_,_=>false
theorem Hv{A:Around}{s:Shared}{y x:V}{u v:Value}(ry:RelV y u)(rx:RelV x v)(fy:tE y=true)(fx:tE x=true):SeqAt.EqAt A s u v (FA y x):=by
 cases y with
 |non=>
  cases ry
  cases x with
  |non=>cases rx;exact SeqAt.EqAt.same _
  |bl b=>cases rx;exact SeqAt.EqAt.none_bool b
  |int b=>obtain⟨t,rfl⟩:=rx;exact SeqAt.EqAt.none_int b t
  |str b=>obtain⟨t,rfl⟩:=rx;exact SeqAt.EqAt.none_str b t
  |_=>exact absurd (show false=true from fx) aI
 |bl a=>
  cases ry
  cases x with
  |non=>cases rx;exact SeqAt.EqAt.bool_none a
  |bl b=>cases rx;exact SeqAt.EqAt.bool_bool a b
  |int b=>obtain⟨t,rfl⟩:=rx;exact SeqAt.EqAt.bool_int a b t
  |str b=>obtain⟨t,rfl⟩:=rx;exact SeqAt.EqAt.bool_str a b t
  |_=>exact absurd (show false=true from fx) aI
 |int a=>
  obtain⟨t',rfl⟩:=ry
  cases x with
  |non=>cases rx;exact SeqAt.EqAt.int_none a t'
  |bl b=>cases rx;exact SeqAt.EqAt.int_bool a t' b
  |int b=>obtain⟨t,rfl⟩:=rx;exact SeqAt.EqAt.int_int a t' b t
  |str b=>obtain⟨t,rfl⟩:=rx;exact SeqAt.EqAt.int_str a t' b t
  |_=>exact absurd (show false=true from fx) aI
 |str a=>
  obtain⟨t',rfl⟩:=ry
  cases x with
  |non=>cases rx;exact SeqAt.EqAt.str_none a t'
  |bl b=>cases rx;exact SeqAt.EqAt.str_bool a t' b
  |int b=>obtain⟨t,rfl⟩:=rx;exact SeqAt.EqAt.str_int a t' b t
  |str b=>obtain⟨t,rfl⟩:=rx;exact SeqAt.EqAt.str_str a t' b t
  |_=>exact absurd (show false=true from fx) aI
 |_=>exact absurd (show false=true from fy) aI
def F4(x:V)(u:Value):Bool:=match u with
 |.none=>FA .non x
 |.bool b=>FA (.bl b) x
 |.int i _=>FA (.int i) x
 |.str z _=>FA (.str z) x
 |_=>false
theorem Ea{x y:V}{u:Value}(r:RelV y u)(f:tE y=true):F4 x u=FA y x:=by
 cases y with
 |non=>cases r;rfl
 |bl b=>cases r;rfl
 |int i=>obtain⟨t,rfl⟩:=r;rfl
 |str z=>obtain⟨t,rfl⟩:=r;rfl
 |_=>exact absurd (show false=true from f) aI
theorem ye{x:V}:∀{xs:List V}{us:List Value},cG xs us->xs.all tE=true->us.any (F4 x)=xs.any λy=>FA y x
 |_,_,.nil,_=>rfl
 |y::xs,u::us,.cons r t,f=>by rw[uy,dG]at f;rw[iG,iG,Ea r f.1,ye t f.2]
theorem uI{A:Around}{s:Shared}{x:V}{v:Value}(rx:RelV x v)(fx:tE x=true):∀{xs:List V}{us:List Value},cG xs us->xs.all tE=true->∀u∈us,SeqAt.EqAt A s u v (F4 x u)
 |_,_,.nil,_=>λu hu=>by cases hu
 |y::xs,u::us,.cons r t,f=>λu' hu=>by
  rw[uy,dG]at f;rcases aF.mp hu with rfl|hu
  ·rw[Ea r f.1];exact Hv r rx f.1 fx
  ·exact uI rx fx t f.2 u' hu
def Ip(x:V)(xs:List V):Bool:=xs.any λy=>FA y x
def rIn(K:aj)(neg:Bool):R2:=λx y H Q=>∃p xs,y=.ref p/\(bZ K H p xs\/xp K H p xs)/\tE x=true/\xs.all tE=true/\Q (.bl (if neg then !Ip x xs else Ip x xs)) H
theorem jU:tU X (compareOp .In) (rIn X.K false):=by
 intro pins s σ H x y v u Q I rx ry h;obtain⟨p,xs,rfl,hq,fx,fs,q⟩:=h;cases ry;rcases hq with hq|hq
 ·obtain⟨its,r,pl,hz⟩:=I.list hq;refine SeqAt.in_listAt (F4 x) pl.isList (λw hw=>uI rx fx r fs w (by simpa using hw)) ⟨.bl _,H,I,rfl,?_⟩;rw[show its.toArray.any (F4 x)=its.any (F4 x) by simp,ye r fs];exact q
 ·obtain⟨its,r,pl,hz⟩:=I.tuple hq;refine SeqAt.in_tupleAt (F4 x) pl (λw hw=>uI rx fx r fs w (by simpa using hw)) ⟨.bl _,H,I,rfl,?_⟩;rw[show its.toArray.any (F4 x)=its.any (F4 x) by simp,ye r fs];exact q
theorem ij:iJ X (.builtin "len") (λxs H Q=>∃p ys,xs=[.ref p]/\(bZ X.K H p ys\/xp X.K H p ys)/\Q (.int ys.length) H):=by
 intro pins s σ H xs us Q I r h;obtain⟨p,ys,rfl,hq,q⟩:=h;obtain⟨u,rfl,rx⟩:=vals1 r;cases rx;have hn:=AK;rcases hq with hq|hq
 ·obtain⟨its,r',pl,hz⟩:=I.list hq;have hlen:=r'.length;exact Calls.call_len_list pl.isList (by simp only[bg]<;>omega) ⟨.int ys.length,H,I.tok _,⟨s.toks+1,by rw[bg,hlen]⟩,q⟩
 ·obtain⟨its,r',pl,hz⟩:=I.tuple hq;have hlen:=r'.length;exact len_tuple pl (by simp only[bg]<;>omega) ⟨.int ys.length,H,I.tok _,⟨s.toks+1,by rw[bg,hlen]⟩,q⟩
theorem yf:iJ X (.type "list") (λxs H Q=>∃p ys,xs=[.ref p]/\(bZ X.K H p ys\/xp X.K H p ys)/\∀l,H l=none->Q (.ref l) (upd H l (.lst ys))):=by
 intro pins s σ H xs us Q I r h;obtain⟨p,ys,rfl,hq,q⟩:=h;obtain⟨u,rfl,rx⟩:=vals1 r;cases rx;have fin:∀(its:List Value),cG ys its->ys.length<=sizeLine->∀(h':Heap)(c':Nat),(∀b o',s.heap.get? b=some o'->h'.get? b=some o')->h'.get? s.heap.objs.size=some {cls:=.type "list",dict:=none,data:=.seq its.toArray c',slots:=#[]}->EP X pins σ Q (.ref s.heap.objs.size) {s with heap:=h'}:=λits r' hz h' c' kp e=>
  ⟨.ref s.heap.objs.size,_,I.laid (t':=s.toks) kp (aN _) (show fS X.prog X.w _ h' _ (.lst ys)from⟨hz,its,c',r',e⟩),rfl,q _ (I.hok.fresh (aN _))⟩
 rcases hq with hq|hq
 ·obtain⟨its,r',pl,hz⟩:=I.list hq;have hlen:=r'.length;obtain⟨o,ho,hc,n,hd⟩:=pl.isList;exact call_list_seq p (.inl rfl) ho hc hd (λh' c' kp e=>fin its r' hz h' c' kp e) (by simp only[bg]<;>omega)
 ·obtain⟨its,r',pl,hz⟩:=I.tuple hq;have hlen:=r'.length;obtain⟨o,ho,hc,n,hd⟩:=pl;exact call_list_seq p (.inr rfl) ho hc hd (λh' c' kp e=>fin its r' hz h' c' kp e) (by simp only[bg]<;>omega)
def tyV(K:aj)(T:String)(x:V)(H:Hp):Prop:=match x with
 |.str _=>T="str"
 |.int _=>T="int"
 |.ref p=>(T="list"/\∃xs,bZ K H p xs)\/(T="tuple"/\∃o,K.lookup p=some o/\o.cls=.type "tuple"/\o.dict=none)\/(T="dict"/\((∃kvs,H p=some (.dK kvs))\/∃kvs,H p=some (.dT kvs)))\/(T="set"/\∃S n,H p=some (.set S n))
 |_=>False
theorem Eb{pins:List (Addr×Obj)}{σ:St}{H:Hp}{s:Shared}{T:String}{x:V}{v:Value}(I:Inv X pins σ H s)(r:RelV x v)(ty:tyV X.K T x H):s.TypeIs v T/\∀a,v=.ref a->∃ob,s.heap.get? a=some ob/\ob.dict=none:=by
 cases x with
 |str z=>
  obtain⟨t,rfl⟩:=r
  cases(show T="str" from ty)
  exact⟨typeIs_str s z t,λ_ e=>nomatch e⟩
 |int i=>
  obtain⟨t,rfl⟩:=r
  cases(show T="int" from ty)
  exact⟨typeIs_int s i t,λ_ e=>nomatch e⟩
 |ref p=>
  cases r
  rcases ty with⟨rfl,xs,hq⟩|⟨rfl,o,hk,hc,hd⟩|⟨rfl,hk⟩|⟨rfl,S,n,hk⟩
  ·obtain⟨its,_,pl,_⟩:=I.list hq;refine⟨pl.isList.typeIs,λa e=>?_⟩;cases e;obtain⟨o,n,e,c,hd,_⟩:=pl;exact⟨o,e,hd⟩
  ·refine⟨⟨o,I.kIn p o hk,hc⟩,λa e=>?_⟩;cases e;exact⟨o,I.kIn _ o hk,hd⟩
  ·have z:∃o,s.heap.get? p=some o/\o.ExactDict:=by
    rcases hk with⟨kvs,hk⟩|⟨kvs,hk⟩
    ·obtain⟨_,_,_,_,o,_,_,e,ex,_⟩:=I.hok p _ hk;exact⟨o,e,ex⟩
    ·obtain⟨_,_,_,_,o,_,_,e,ex,_⟩:=I.hok p _ hk;exact⟨o,e,ex⟩
   obtain⟨o,e,ex⟩:=z;refine⟨⟨o,e,ex.1⟩,λa e2=>?_⟩;cases e2;exact⟨o,e,ex.2.1⟩
  ·obtain⟨o,_,_,_,e,ex,_⟩:=I.hok p _ hk;refine⟨⟨o,e,ex.1⟩,λa e2=>?_⟩;cases e2;exact⟨o,e,ex.2.1⟩
 |_=>exact dB ty
def IK(K:aj)(T:String)(r:V->List V->Hp->VK->Prop)(to:TE):TE:=λσ H Q=>to σ H λx H1=>tyV K T x H1/\r x [] H1 Q
def Iq(K:aj)(T:String)(r:V->List V->Hp->VK->Prop)(to:TE)(t:TA):TE:=λσ H Q=>to σ H λx H1=>tyV K T x H1/\t σ H1 λxs H2=>r x xs H2 Q
variable {o e:Expr}{es:List Expr}{to:TE}{t:TA}{name:Str}{apos cpos:Pos}{T id:String}{r:V->List V->Hp->VK->Prop}
theorem AS(pa:PlainAttrs T)(slot:Slot T name id)(hty:typeOf (.builtin id)=pure (.type "method_descriptor"))(hm:MtR X id r)(ho:PE X o to)(hbase:attributeBase o name X.env (eval o X.env)=eval o X.env:=by rfl)(hline:(apos.endLine==cpos.line)=true:=by rfl):PE X (.Call (.Attribute o name apos) [] [] cpos) (IK X.K T r to):=by intro pins s σ H Q I h;refine wpAny_Call_method0_late hbase hline (eR (ho pins s σ H _ I h) λv s1⟨x,H1,I1,r1,ty,q1⟩=>?_);obtain⟨h1,h2⟩:=Eb I1 r1 ty;exact⟨T,id,pa,slot,hty,h1,h2,Calls.callWith_builtin rfl (PySem.evalArgs_none (hm pins s1 σ H1 x [] v [] Q I1 r1 .nil q1))⟩
theorem gH(pa:PlainAttrs T)(slot:Slot T name id)(hty:typeOf (.builtin id)=pure (.type "method_descriptor"))(hm:MtR X id r)(ho:PE X o to)(ha:PA X (e::es) t)(hbase:attributeBase o name X.env (eval o X.env)=eval o X.env:=by rfl)(hfew:((backTo cpos (starEach (e::es) X.env)).all (λx=>!x.1)&&(backToKw cpos (keywordEach [] X.env)).all (λx=>x.1.isSome)&&decide ((e::es).length+([]:List Keyword).length+(if([]:List Keyword).isEmpty then 0 else 1)<30))=true:=by rfl)(hline:(apos.endLine==cpos.line)=true:=by rfl)(hs:starEach (e::es) X.env=(false,eval e X.env)::starEach es X.env:=by rfl)(hplain:(backTo cpos (starEach es X.env)).any (·.1)=false:=by rfl):PE X (.Call (.Attribute o name apos) (e::es) [] cpos) (Iq X.K T r to t):=by intro pins s σ H Q I h;refine wpAny_Call_method_late hbase hfew hline rfl (eR (ho pins s σ H _ I h) λv s1⟨x,H1,I1,r1,ty,q1⟩=>?_);obtain⟨h1,h2⟩:=Eb I1 r1 ty;refine⟨T,id,pa,slot,hty,h1,h2,?_⟩;have hA:=ha cpos pins s1 σ H1 _ I1 q1;rw[hs]at hA⊢;refine Calls.callWith_builtin (by show(false||(backTo cpos (starEach es X.env)).any (·.1))=false;rw[hplain]<;>rfl) (Calls.evalArgs_plain ?_);exact eR hA λus s2⟨vs,H2,I2,r2,q2⟩=>hm pins s2 σ H2 x vs v us Q I2 r1 r2 q2
end
end L2
namespace L2
open PySem PySem.Spec PyProof.Rows
def MtM(X:Cx)(id:String)(r:V->List V->Hp->VK->Prop):Prop:=∀(pins:List (Addr×Obj))(s:Shared)(σ:St)(H:Hp)(x:V)(xs:List V)(v:Value)(us:List Value)(Q:VK),Inv X pins σ H s->RelV x v->cG xs us->r x xs H Q->wpAny (model X.prog X.w) X.A (call (.builtin id) (v::us)) (EP X pins σ Q) X.xe s
theorem cG.one:∀{x:V}{us:List Value},cG [x] us->∃u,us=[u]/\RelV x u
 |_,_,.cons r .nil=>⟨_,rfl,r⟩
theorem cG.zero:∀{us:List Value},cG [] us->us=[]
 |_,.nil=>rfl
theorem cG.dropLast{xs:List V}{us:List Value}(h:cG xs us):cG xs.dropLast us.dropLast:=by
 induction h with
 |nil=>exact .nil
 |cons r t ih=>
  cases t with
  |nil=>exact .nil
  |cons q t'=>exact .cons r ih
theorem AU{α:Type}(l:List α):l.eraseIdx (l.length-1)=l.dropLast:=by
 induction l with
 |nil=>rfl
 |cons a r ih=>
  cases r with
  |nil=>rfl
  |cons b r=>
   have e:(a::b::r).length-1=((b::r).length-1)+1:=by have h1:(a::b::r).length=r.length+2:=rfl;have h2:(b::r).length=r.length+1:=rfl;omega
   rw[e,List.eraseIdx_cons_succ,ih]
   all_goals rfl
section
variable {X:Cx}{pins:List (Addr×Obj)}{σ:St}{H:Hp}{s:Shared}{l b:Addr}{xs ys zs:List V}
theorem Inv.lset{its its':List Value}{n:Nat}{f:Array Value->Array Value}{t':Nat}(I:Inv X pins σ H s)(hH:H l=some (.lst xs))(e:s.heap.get? l=some {cls:=.type "list",data:=.seq its.toArray n})(hf:f its.toArray=its'.toArray)(hv:cG ys its')(hz:ys.length<=sizeLine):Inv X pins σ (upd H l (.lst ys)) {s with heap:=s.heap.update l (Obj.mapSeq f),toks:=t'}:=by have q:=PySem.IsL.update e f;rw[hf]at q;refine I.write (x:=l) (e:=l) (by rw[hH];exact trivial) (.inl rfl) (λb' u hb hu=>(Heap.get?_update_other s.heap (Obj.mapSeq f) (l_ hb)).trans hu) ⟨_,q⟩ ?_;exact⟨hz,its',_,hv,q⟩
theorem Inv.lnew{its:List Value}{t':Nat}(I:Inv X pins σ H s)(hv:cG ys its)(hz:ys.length<=sizeLine):Inv X pins σ (upd H s.heap.objs.size (.lst ys)) {s with heap:=s.heap.push {cls:=.type "list",data:=.seq its.toArray},toks:=t'}:=I.laid (λ_ _ q=>Heap.get?_push_of_some _ q) (aN _) ⟨hz,its,0,hv,Heap.get?_push_size _ rfl⟩
theorem Inv.fresh(I:Inv X pins σ H s):H s.heap.objs.size=none:=I.hok.fresh (aN _)
theorem Inv.lstM(I:Inv X pins σ H s)(hH:H l=some (.lst xs)):xs.length<=sizeLine/\∃(its:List Value)(n:Nat),cG xs its/\xs.length=its.length/\s.heap.get? l=some {cls:=.type "list",data:=.seq its.toArray n}:=by obtain⟨z,its,n,r,e⟩:=I.hok l _ hH;exact⟨z,its,n,r,r.length,e⟩
theorem Ec{n:Nat}(h:n<=sizeLine):Builtin.List.listTooLong n=false:=by unfold Builtin.List.listTooLong;exact decide_eq_false (by omega)
end
section
variable {X:Cx}
def qE:V->List V->Hp->VK->Prop:=λx vs H Q=>∃l xs y,x=.ref l/\vs=[y]/\H l=some (.lst xs)/\xs.length<sizeLine/\Q .non (upd H l (.lst (xs++[y])))
theorem eX:MtM X "list.append" qE:=by intro pins s σ H x vs v us Q I rx rv h;obtain⟨l,xs,y,rfl,rfl,hH,hz,q⟩:=h;cases rx;obtain⟨u,rfl,ru⟩:=rv.one;obtain⟨z,its,n,r,hl,e⟩:=I.lstM hH;refine call_meets F.slot_list_append ⟨_,e,rfl⟩ F.entry_list_append (F.args_list_append_2 _ _) (PySem.list_append l its.toArray n u (by rw[bg];omega)) ⟨e,?_⟩;refine⟨.non,_,I.lset (its':=its++[u]) hH e (by simp) (r.append (.cons ru .nil)) ?_,rfl,q⟩;rw[bD,List.length_singleton];omega
def B2:V->List V->Hp->VK->Prop:=λx vs H Q=>∃l b xs zs,x=.ref l/\vs=[.ref b]/\H l=some (.lst xs)/\H b=some (.lst zs)/\xs.length+zs.length<=sizeLine/\Q .non (upd H l (.lst (xs++zs)))
theorem fU:MtM X "list.extend" B2:=by
 intro pins s σ H x vs v us Q I rx rv h;obtain⟨l,b,xs,zs,rfl,rfl,hH,hB,hz,q⟩:=h;cases rx;obtain⟨u,rfl,ru⟩:=rv.one;cases ru;obtain⟨z,its,n,r,hl,e⟩:=I.lstM hH;obtain⟨z2,its2,n2,r2,hl2,e2⟩:=I.lstM hB;have hsz:its.toArray.size+its2.toArray.size<=sizeLine:=by rw[bg,bg];omega
 have hlong:¬(!its.toArray.isEmpty&&Builtin.List.listTooLong (its.toArray.size+its2.toArray.size))=true:=by rw[Ec hsz,Bool.and_false];exact aI
 refine call_meets F.slot_list_extend ⟨_,e,rfl⟩ F.entry_list_extend (F.args_list_extend_2 _ _) (AutoSeq1.list_extend_list_list_0 l its.toArray n b its2.toArray n2 hlong (by rw[bg];omega) (by omega)) ⟨e,e2,?_⟩;refine⟨.non,_,I.lset (its':=its++its2) hH e (by simp) (r.append r2) ?_,rfl,q⟩;rw[bD];omega
def IL:V->List V->Hp->VK->Prop:=λx vs H Q=>∃l xs y,x=.ref l/\vs=[]/\H l=some (.lst xs)/\xs[xs.length-1]?=some y/\Q y (upd H l (.lst xs.dropLast))
theorem AV:MtM X "list.pop" IL:=by
 intro pins s σ H x vs v us Q I rx rv h;obtain⟨l,xs,y,rfl,rfl,hH,hy,q⟩:=h;cases rx;have hus:=rv.zero;subst hus;obtain⟨z,its,n,r,hl,e⟩:=I.lstM hH;obtain⟨u,hu,ru⟩:=r.get hy;have hy':its.toArray[its.toArray.size-1]?=some u:=by show its.toArray[its.length-1]?=some u;rw[<-cC,<-hl];exact hu
 refine call_meets F.slot_list_pop ⟨_,e,rfl⟩ F.entry_list_pop (F.args_list_pop_1 _) (MeetsSeq.list_pop_last l its.toArray n u hy' (by rw[bg];omega)) ⟨e,?_⟩;refine⟨y,_,I.lset (its':=its.dropLast) hH e ?_ r.dropLast ?_,ru,q⟩
 ·show its.toArray.eraseIdxIfInBounds (its.toArray.size-1)=its.dropLast.toArray;rw[bg,List.eraseIdxIfInBounds_toArray,AU]
 ·rw[List.length_dropLast];omega
def Hw:R2:=λx y H Q=>∃l b xs zs,x=.ref l/\y=.ref b/\H l=some (.lst xs)/\H b=some (.lst zs)/\xs.length+zs.length<=sizeLine/\∀p,H p=none->Q (.ref p) (upd H p (.lst (xs++zs)))
theorem fB:tU X (binaryOp .Add) Hw:=by
 intro pins s σ H x y v u Q I rx ry h;obtain⟨l,b,xs,zs,rfl,rfl,hH,hB,hz,q⟩:=h;cases rx;cases ry;obtain⟨z,its,n,r,hl,e⟩:=I.lstM hH;obtain⟨z2,its2,n2,r2,hl2,e2⟩:=I.lstM hB;refine PySem.P.add_list e e2 ?_ (by rw[bg,bg];omega);have ea:its.toArray++its2.toArray=(its++its2).toArray:=by simp
 rw[ea];exact⟨.ref _,_,I.lnew (t':=s.toks) (r.append r2) (by rw[bD];omega),rfl,q _ I.fresh⟩
end
section
variable {prog:Program}{w:World}{A:Around}{E:Value->Shared->Prop}{s:Shared}
set_option maxRecDepth 100000 in
end
section
variable {X:Cx}
end
end L2
namespace L2
open PySem PySem.Spec PyProof.Rows
theorem cG.ints:∀{ns:List Int}{us:List Value},cG (ns.map V.int) us->IntsAre us ns
 |[],us,h=>by
  rw[jA]at h;cases h;exact IntsAre.nil
 |n::ns,us,h=>by
  rw[bo]at h;cases h with
  |cons r t=>
   obtain⟨k,rfl⟩:=r
   exact IntsAre.cons n k (cG.ints t)
theorem ik:∀{us:List Value}{ns:List Int},IntsAre us ns->cG (ns.map V.int) us
 |_,_,.nil=>by rw[jA];exact Paired.nil
 |_,_,.cons n t h=>by rw[bo];exact Paired.cons (show RelV (V.int n) (Value.int n t)from⟨t,rfl⟩) (ik h)
theorem cG.bls:∀{bs:List Bool}{us:List Value},cG (bs.map V.bl) us->us=bs.map Value.bool
 |[],us,h=>by
  rw[jA]at h;cases h;rfl
 |b::bs,us,h=>by
  rw[bo]at h;cases h with
  |cons r t=>
   cases r
   rw[cG.bls t,bo]
theorem cG.ref1{a:Addr}{us:List Value}(r:cG [V.ref a] us):us=[Value.ref a]:=by
 cases r with
 |cons r t=>
  cases t
  cases r
  rfl
section
variable {prog:Program}{w:World}{A:Around}{E:Value->Shared->Prop}{s:Shared}{l:Addr}{its:List Value}{ns:List Int}{Q:Value->Shared->Prop}
theorem F5(hh:A.handled=none)(hl:s.heap.IsList l its.toArray)(hi:IntsAre its ns)(h:∀h' tk t',(∀b o,s.heap.get? b=some o->h'.get? b=some o)->Q (.int ns.sum t') {s with heap:=h',toks:=tk}):wpAny (model prog w) A (call (.builtin "sum") [.ref l]) Q E s:=by
 obtain⟨xs,e⟩:=hi.allInts.items;have hn:numsOf (intItems xs).toList=ns:=by rw[<-e];exact hi.numsOf
 rw[nums_intItems]at hn;rw[e]at hl;refine PySem.sum_intListG hh hl λh' tk t' hk=>?_;have:=h h' tk t' hk;rw[preSum_eq,jB (by simp),hn];exact this
end
section
variable {X:Cx}
def rSum(K:aj):List V->Hp->VK->Prop:=λvs H Q=>∃(a:Addr)(ns:List Int),vs=[V.ref a]/\bZ K H a (ns.map V.int)/\Q (.int ns.sum) H
theorem Ed(hc:X.calm=true):iJ X (.builtin "sum") (rSum X.K):=by intro pins s σ H vs us Q I r h;obtain⟨a,ns,rfl,hs,q⟩:=h;obtain⟨its,rv,hl,_⟩:=I.list hs;rw[cG.ref1 r];exact F5 (I.ok.hd hc) hl.isList rv.ints λh' tk t' hk=>⟨.int _,H,I.kept hk,⟨_,rfl⟩,q⟩
end
section
variable {X:Cx}
end
section
variable {X:Cx}
end
theorem zr{prog:Program}{w:World}{A:Around}{E:Value->Shared->Prop}{s:Shared}{l:Addr}{items:Array Value}{Q:Value->Shared->Prop}(hl:s.heap.IsList l items)(h:∀s₂:Shared,s₂={s with heap:=s.heap.push {cls:=.type "list_iterator",data:=.fields #[.ref l,.int 0 0]}}->(s₂.heap.IsListIter s.heap.objs.size l 0/\s₂.heap.IsList l items)->l≠s.heap.objs.size->Q (.ref s.heap.objs.size) s₂):wpAny (model prog w) A (pyIter (.ref l)) Q E s:=by
 have hlt:l<s.heap.objs.size:=by obtain⟨_,e,_⟩:=hl;exact Heap.lt_size e
 exact wpAny_pyIter_list hl (h _ rfl ⟨⟨_,Heap.get?_push_size _ rfl,rfl,rfl⟩,hl.push _⟩ (bF hlt))
theorem tF{prog:Program}{w:World}{A:Around}{bs:List Bool}{its:List Value}(e:its=bs.map Value.bool):TruthOf prog w A (λi v=>its.toArray[i]?=some v) (λi=>bs.getD i false):=λi v s Q E hv hq=>by
 have hv':its[i]?=some v:=by simpa using hv
 rw[e,a9]at hv';obtain⟨b,hb,rfl⟩:=Ft.mp hv';have hg:bs.getD i false=b:=by rw[mU,hb]<;>rfl
 have hq':Q (bs.getD i false) s:=hq;rw[hg]at hq';exact wpAny_truthy_bool hq'
theorem any_range:∀bs:List Bool,(iZ bs.length).any (λi=>bs.getD i false)=bs.any id
 |[]=>rfl
 |b::bs=>by rw[bG,qv,iG,xg,iG,<-any_range bs];all_goals rfl
theorem all_range:∀bs:List Bool,(iZ bs.length).all (λi=>bs.getD i false)=bs.all id
 |[]=>rfl
 |b::bs=>by rw[bG,qv,uy,Fu,uy,<-all_range bs];all_goals rfl
section
variable {X:Cx}
def rAny(K:aj):List V->Hp->VK->Prop:=λvs H Q=>∃(a:Addr)(bs:List Bool),vs=[V.ref a]/\bZ K H a (bs.map V.bl)/\Q (.bl (bs.any id)) H
def rAll(K:aj):List V->Hp->VK->Prop:=λvs H Q=>∃(a:Addr)(bs:List Bool),vs=[V.ref a]/\bZ K H a (bs.map V.bl)/\Q (.bl (bs.all id)) H
theorem yg(hc:X.calm=true):iJ X (.builtin "any") (rAny X.K):=by
 intro pins s σ H vs us Q I r h;obtain⟨a,bs,rfl,hs,q⟩:=h;obtain⟨its,rv,hl,_⟩:=I.list hs;rw[cG.ref1 r];have hb:=rv.bls;refine call_any_walk (zr hl.isList λs₂ e2 st hne=>?_);subst e2;refine⟨_,_,_,_,_,_,_,rfl,Walks.list (A:=X.A.in1) (I.ok.hd hc) _ a hne its.toArray,st,tF hb,λh' tk hk=>?_⟩;refine⟨.bl _,H,I.kept λb o eo=>hk b o (λhmem=>?_) (Heap.get?_push_of_some _ eo),?_,q⟩
 ·rcases aF.mp hmem with e1|hmem
  ·exact absurd (e1▸Heap.lt_size eo) (dJ _)
  ·cases hmem
 ·show Value.bool _=Value.bool _;rw[<-any_range,hb,bg,ae]
theorem yh(hc:X.calm=true):iJ X (.builtin "all") (rAll X.K):=by
 intro pins s σ H vs us Q I r h;obtain⟨a,bs,rfl,hs,q⟩:=h;obtain⟨its,rv,hl,_⟩:=I.list hs;rw[cG.ref1 r];have hb:=rv.bls;refine call_all_walk (zr hl.isList λs₂ e2 st hne=>?_);subst e2;refine⟨_,_,_,_,_,_,_,rfl,Walks.list (A:=X.A.in1) (I.ok.hd hc) _ a hne its.toArray,st,tF hb,λh' tk hk=>?_⟩;refine⟨.bl _,H,I.kept λb o eo=>hk b o (λhmem=>?_) (Heap.get?_push_of_some _ eo),?_,q⟩
 ·rcases aF.mp hmem with e1|hmem
  ·exact absurd (e1▸Heap.lt_size eo) (dJ _)
  ·cases hmem
 ·show Value.bool _=Value.bool _;rw[<-all_range,hb,bg,ae]
end
mutual
inductive Dp(K:aj)(H:Hp):V->PyData->Prop
 |non:Dp K H .non .none
 |bl (b:Bool):Dp K H (.bl b) (.bool b)
 |int (i:Int):Dp K H (.int i) (.int i)
 |str (x:Str):Dp K H (.str x) (.str x)
 |lst {a:Addr} {xs:List V} {ds:List PyData}:bZ K H a xs->uJ K H xs ds->Dp K H (.ref a) (.list ds)
 |tup {a:Addr} {xs:List V} {ds:List PyData}:xp K H a xs->uJ K H xs ds->Dp K H (.ref a) (.tuple ds)
inductive uJ(K:aj)(H:Hp):List V->List PyData->Prop
 |nil:uJ K H [] []
 |cons {v:V} {vs:List V} {d:PyData} {ds:List PyData}:Dp K H v d->uJ K H vs ds->uJ K H (v::vs) (d::ds)
end
section
variable {X:Cx}{pins:List (Addr×Obj)}{σ:St}{H:Hp}{s:Shared}
mutual
theorem Dp.reads(I:Inv X pins σ H s):∀(d:PyData)(v:V)(u:Value),Dp X.K H v d->RelV v u->∃as,Reads s.heap u d as
 |.none,_,_,h,r=>by
  cases h;cases r;exact⟨_,Reads.none⟩
 |.bool b,_,_,h,r=>by
  cases h;cases r;exact⟨_,Reads.bool b⟩
 |.int i,_,_,h,r=>by
  cases h;obtain⟨t,rfl⟩:=r;exact⟨_,Reads.int i t⟩
 |.str x,_,_,h,r=>by
  cases h;obtain⟨t,rfl⟩:=r;exact⟨_,Reads.str x t⟩
 |.list ds,_,_,h,r=>by
  cases h with
  |lst hs ha=>
   cases r
   obtain⟨its,rv,⟨o,n,ho,hc,_,hd⟩,_⟩:=I.list hs
   obtain⟨as,hr⟩:=Dp.readsAll I ds _ its ha rv
   exact⟨_,Reads.list ho hc hd hr⟩
 |.tuple ds,_,_,h,r=>by
  cases h with
  |tup hs ha=>
   cases r
   obtain⟨its,rv,⟨o,ho,hc,n,hd⟩,_⟩:=I.tuple hs
   obtain⟨as,hr⟩:=Dp.readsAll I ds _ its ha rv
   exact⟨_,Reads.tuple ho hc hd hr⟩
 |.dict _,_,_,h,_=>by cases h
theorem Dp.readsAll(I:Inv X pins σ H s):∀(ds:List PyData)(vs:List V)(us:List Value),uJ X.K H vs ds->cG vs us->∃as,ReadsAll s.heap us ds as
 |[],_,_,h,r=>by
  cases h;cases r;exact⟨_,ReadsAll.nil⟩
 |d::ds,_,_,h,r=>by
  cases h with
  |cons h1 h2=>
   cases r with
   |cons r1 r2=>
    obtain⟨as,q1⟩:=Dp.reads I d _ _ h1 r1
    obtain⟨bs,q2⟩:=Dp.readsAll I ds _ _ h2 r2
    exact⟨_,ReadsAll.cons q1 q2⟩
end
end
section
variable {X:Cx}
def rNeD(K:aj):R2:=λx y H Q=>∃d e,Dp K H x d/\Dp K H y e/\SeqAt.shaped d=true/\SeqAt.shaped e=true/\Q (.bl (!PyData.eqv d e)) H
theorem op_neD(hu:X.A.units+64<cLine):tU X (compareOp .NotEq) (rNeD X.K):=by intro pins s σ H x y v u Q I rx ry h;obtain⟨d,e,hd,he,sd,se,q⟩:=h;obtain⟨as,r1⟩:=Dp.reads I d x v hd rx;obtain⟨bs,r2⟩:=Dp.reads I e y u he ry;exact SeqAt.compareNe_shaped r1 r2 sd se hu ⟨.bl _,H,I,rfl,q⟩
end
end L2
namespace L2
open PySem PySem.Spec PyProof.Rows
abbrev Ee(h:Heap)(c:Addr)(v:Option Value):Prop:=h.IsCell c v
def relS(scope sc:Scope):Scope:={scope with names:=scope.names.map λ(n,k)=>if(k==.free&&sc.kind==.function&&sc.names.lookup n==some .cell)then(n,.cell)else(n,k)}
def dW(cells:List (Str×Addr)):List (Str×NameKind)->List (Str×Addr)->List (Str×Addr)
 |[],acc=>acc
 |(n,k)::r,acc=>if k==.free then dW cells r ((n,(cells.lookup n).getD 0)::acc)else dW cells r acc
theorem qF(env:Env)(f:Str×NameKind->List (Str×Addr)->Sem (ForInStep (List (Str×Addr))))(hf:∀n k c,f (n,k) c=if k==.free then(do let a <-cellOf env n;pure (.yield ((n,a)::c)))else pure (.yield c)):∀(names:List (Str×NameKind))(acc:List (Str×Addr)),(∀y∈names,y.2=.free->∃c,env.cells.lookup y.1=some c)->forIn names acc f=pure (dW env.cells names acc)
 |[],acc,_=>by rw[tp];rfl
 |(n,k)::r,acc,h=>by
  rw[AB,hf];have ih:=λacc=>qF env f hf r acc λy hy=>h y (aJ _ hy);unfold dW;by_cases hk:(k==NameKind.free)=true
  ·rw[if_pos hk,if_pos hk];obtain⟨c,hc⟩:=h (n,k) aY (by simpa using hk);have e:cellOf env n=pure c:=by unfold cellOf;rw[hc]
   rw[e];have e2:(env.cells.lookup n).getD 0=c:=by rw[hc];rfl
   rw[e2];exact ih _
  ·rw[if_neg hk,if_neg hk];exact ih _
theorem AW{scope:Scope}{env:Env}(h:∀y∈scope.names,y.2=.free->∃c,env.cells.lookup y.1=some c):closureFor scope env=pure (dW env.cells scope.names []):=by simp only[closureFor];rw[qF env _ (λn k c=>rfl) scope.names [] h];rfl
theorem mem_lookup{α:Type}:∀{l:List (Str×α)}{n:Str}{c:α},(n,c)∈l->∃c',l.lookup n=some c'
 |(k,v)::r,n,c,h=>by
  rw[fY];cases hb:n==k with
  |true=>exact⟨_,rfl⟩
  |false=>
   rcases aF.mp h with e|h
   ·cases e;simp at hb
   ·exact mem_lookup h
theorem kK{cells:List (Str×Addr)}:∀{names:List (Str×NameKind)}{acc:List (Str×Addr)}{n:Str}{c:Addr},(n,c)∈dW cells names acc->(n,c)∈acc\/((n,.free)∈names/\c=(cells.lookup n).getD 0)
 |[],_,_,_,h=>.inl h
 |(m,k)::r,acc,n,c,h=>by
  unfold dW at h;split at h
  ·rename_i hk;have hk:k=.free:=by simpa using hk
   rcases kK h with h|⟨h1,h2⟩
   ·rcases aF.mp h with e|h
    ·cases e;exact .inr ⟨hk▸aY,rfl⟩
    ·exact .inl h
   ·exact .inr ⟨aJ _ h1,h2⟩
  ·rcases kK h with h|⟨h1,h2⟩
   ·exact .inl h
   ·exact .inr ⟨aJ _ h1,h2⟩
theorem nV{cells:List (Str×Addr)}:∀{names:List (Str×NameKind)}{acc:List (Str×Addr)}{p:Str×Addr},p∈acc->p∈dW cells names acc
 |[],_,_,h=>h
 |(m,k)::r,acc,p,h=>by
  unfold dW;split
  ·exact nV (aJ _ h)
  ·exact nV h
theorem nW{cells:List (Str×Addr)}:∀{names:List (Str×NameKind)}{acc:List (Str×Addr)}{n:Str},(n,.free)∈names->(n,(cells.lookup n).getD 0)∈dW cells names acc
 |(m,k)::r,acc,n,h=>by
  unfold dW;rcases aF.mp h with e|h
  ·cases e;exact nV aY
  ·split
   ·exact nW h
   ·exact nW h
theorem lQ:∀{names:List (Str×NameKind)}{h:Heap}{acc:List (Str×Addr)}{x:Str}{c:Addr},(x,c)∈cellsFrom h.objs.size names acc->(x,c)∈acc\/((x,.cell)∈names/\h.objs.size<=c/\Ee (pushCells h names) c none)
 |[],_,_,_,_,h=>.inl h
 |(n,k)::r,h,acc,x,c,hm=>by
  unfold cellsFrom at hm;unfold pushCells;split at hm
  ·rename_i hk;rw[if_pos hk];have hk:k=.cell:=by simpa using hk
   rw[<-Heap.size_push h {cls:=.type "cell",data:=.cell none}]at hm;rcases lQ hm with hm|⟨h1,h2,h3⟩
   ·rcases aF.mp hm with e|hm
    ·cases e;exact .inr ⟨hk▸aY,aN _,_,pushCells_keeps r _ _ _ (Heap.get?_push_size _ rfl),rfl⟩
    ·exact .inl hm
   ·rw[Heap.size_push]at h2;exact .inr ⟨aJ _ h1,nD h2,h3⟩
  ·rename_i hk;rw[if_neg hk];rcases lQ hm with hm|⟨h1,h2,h3⟩
   ·exact .inl hm
   ·exact .inr ⟨aJ _ h1,h2,h3⟩
theorem oS:∀{names:List (Str×NameKind)}{n:Nat}{acc:List (Str×Addr)}{p:Str×Addr},p∈acc->p∈cellsFrom n names acc
 |[],_,_,_,h=>h
 |(m,k)::r,n,acc,p,h=>by
  unfold cellsFrom;split
  ·exact oS (aJ _ h)
  ·exact oS h
theorem rK:∀{names:List (Str×NameKind)}{n:Nat}{acc:List (Str×Addr)}{x:Str},(x,.cell)∈names->∃c,(x,c)∈cellsFrom n names acc
 |(m,k)::r,n,acc,x,h=>by
  unfold cellsFrom;rcases aF.mp h with e|h
  ·cases e;exact⟨n,oS aY⟩
  ·split
   ·exact rK h
   ·exact rK h
theorem rL:∀{names:List (Str×NameKind)}{h:Heap}{acc:List (Str×Addr)}{x y:Str}{c:Addr},(∀p∈acc,p.2<h.objs.size)->(∀x y c,(x,c)∈acc->(y,c)∈acc->x=y)->(x,c)∈cellsFrom h.objs.size names acc->(y,c)∈cellsFrom h.objs.size names acc->x=y
 |[],_,_,_,_,_,_,hi,h1,h2=>hi _ _ _ h1 h2
 |(n,k)::r,h,acc,x,y,c,hl,hi,h1,h2=>by
  unfold cellsFrom at h1 h2;split at h1
  ·rename_i hk;rw[if_pos hk]at h2;rw[<-Heap.size_push h {cls:=.type "cell",data:=.cell none}]at h1 h2;refine rL (h:=h.push _) (λp hp=>?_) (λx y c a b=>?_) h1 h2
   ·rw[Heap.size_push];rcases aF.mp hp with rfl|hp
    ·exact dE _
    ·exact cV (hl p hp)
   ·rcases aF.mp a with e|a<;>rcases aF.mp b with e'|b
    ·cases e;cases e';rfl
    ·cases e;exact absurd (hl _ b) (dJ _)
    ·cases e';exact absurd (hl _ a) (dJ _)
    ·exact hi _ _ _ a b
  ·rename_i hk;rw[if_neg hk]at h2;exact rL hl hi h1 h2
theorem zt{M:Model}{A:Around}{E:Value->Shared->Prop}{s:Shared}{scope:Scope}{globals:Addr}{closure:List (Str×Addr)}{qual:Str}{func:Option Addr}{code:Value}{around:Env}{builtins:Addr}{Q:Env->Shared->Prop}(h:Q (newEnv scope s.heap.objs.size globals (cellsFrom (s.heap.objs.size+1) scope.names closure) qual func code (some around) builtins) {s with heap:=pushCells (s.heap.push {cls:=.type "dict",data:=.dict #[]}) scope.names}):wpAny M A (newFunctionEnv scope globals closure [] qual func code (some around) builtins) Q E s:=by simp only[newFunctionEnv,Ij,if_true];refine wpAny_bind (wpAny_alloc ?_);refine wpAny_bind (wpAny_layCells _ (λn k c=>rfl) scope.names closure _ _ ?_);rw[show({s with heap:=s.heap.push {cls:=.type "dict",data:=.dict #[]}}:Shared).heap.objs.size=s.heap.objs.size+1 from Heap.size_push ..];rw[tp];exact wpAny_bind (wpAny_pure (wpAny_pure h))
theorem nX{sc:Scope}:∀{names:List (Str×NameKind)}{x:Str}{k:NameKind},(names.map λ(n,k)=>if(k==NameKind.free&&sc.kind==.function&&sc.names.lookup n==some .cell)then(n,NameKind.cell)else(n,k)).lookup x=some k->∃k',names.lookup x=some k'/\(k=k'\/(k'=.free/\k=.cell))
 |[],_,_,h=>by simp at h
 |(n,k₀)::r,x,k,h=>by
  have ih:=@nX sc r x k;have h':ja x ((if(k₀==NameKind.free&&sc.kind==.function&&sc.names.lookup n==some .cell)=true then(n,NameKind.cell)else(n,k₀))::(r.map _))=some k:=h;cases hx:x==n with
  |true=>
   simp only[fY,hx]
   by_cases hc:(k₀==NameKind.free&&sc.kind==.function&&sc.names.lookup n==some .cell)=true
   ·rw[if_pos hc]at h';simp only[fY,hx]at h';cases h';simp only[dG,beq_iff_eq]at hc;exact⟨k₀,rfl,.inr ⟨hc.1.1,rfl⟩⟩
   ·rw[if_neg hc]at h';simp only[fY,hx]at h';cases h';exact⟨_,rfl,.inl rfl⟩
  |false=>
   simp only[fY,hx]
   by_cases hc:(k₀==NameKind.free&&sc.kind==.function&&sc.names.lookup n==some .cell)=true
   ·rw[if_pos hc]at h';simp only[fY,hx]at h';exact ih h'
   ·rw[if_neg hc]at h';simp only[fY,hx]at h';exact ih h'
structure xA(N:List Str)(sc scope:Scope)(own:List (Str×Nat)):Prop where
 kind:scope.kind=.function
 uniq:∀y∈scope.names,scope.names.lookup y.1=some y.2
 ix:∀p∈own,N[p.2]?=some p.1
 free:∀y∈scope.names,y.2=.free->sc.names.lookup y.1=some .cell\/sc.names.lookup y.1=some .free
 own:∀y∈scope.names,y.2=.local\/y.2=.cell->y.1∈own.map (·.1)\/y.1∉N
def wipe(σ:St):List Nat->St
 |[]=>σ
 |v::vs=>(wipe σ vs).set v none
theorem hZ(σ:St):∀vs:List Nat,(wipe σ vs).length=σ.length
 |[]=>rfl
 |v::vs=>by unfold wipe;rw[List.length_set,hZ σ vs]
theorem rN{σ:St}{i:Nat}{x:V}:∀{vs:List Nat},(wipe σ vs)[i]?=some (some x)->σ[i]?=some (some x)/\i∉vs
 |[],h=>⟨h,by simp⟩
 |v::vs,h=>by
  unfold wipe at h;by_cases hi:v=i
  ·subst hi;by_cases hv:v<(wipe σ vs).length
   ·rw[eS hv]at h;cases h
   ·rw[du (by simpa using hv)]at h;cases h
  ·rw[s_ hi]at h;obtain⟨h1,h2⟩:=rN h;exact⟨h1,by simp only[aF,not_or];exact⟨λe=>hi e.symm,h2⟩⟩
abbrev Cx.blk(X:Cx)(s:Shared)(H:Hp)(scope:Scope)(cenv:Env)(fp:List Addr):Cx:={X with s_0:=s,H_0:=H,env:=cenv,outer:=X.stack,ex:=fp,fn:=λx=>scope.names.lookup x==some .cell,pn:=[],xe:=λ_ _=>False}
section
variable {X:Cx}{pins:List (Addr×Obj)}{σ:St}{H:Hp}{s:Shared}
theorem zu{scope:Scope}{own:List (Str×Nat)}{fp:List Addr}(I:Inv X pins σ H s)(ok:xA X.N X.env.scope scope own)(hN:X.N.Nodup)(hfp:∀b∈fp,wm X pins H b/\b<s.heap.objs.size):Inv (X.blk s H scope (compEnvC scope (cellsFrom (s.heap.objs.size+1) scope.names (dW X.env.cells scope.names [])) s.heap.objs.size X.env) fp) [] (wipe σ (own.map (·.2))) H {s with heap:=pushCells (s.heap.push {cls:=.type "dict",data:=.dict #[]}) scope.names}:=by
 have hfree:∀y∈scope.names,y.2=.free->∃c,X.env.cells.lookup y.1=some c:=λy hy e=>by
  rcases ok.free y hy e with k|k
  ·exact I.ok.has _ (.inl k)
  ·exact I.ok.has _ (.inr k)
 generalize hcenv:compEnvC scope (cellsFrom (s.heap.objs.size+1) scope.names (dW X.env.cells scope.names [])) s.heap.objs.size X.env=cenv;have kp:∀b o,s.heap.get? b=some o->(pushCells (s.heap.push {cls:=.type "dict",data:=.dict #[]}) scope.names).get? b=some o:=λb o e=>pushCells_keeps _ _ _ _ (Heap.get?_push_of_some _ e);have hL:cenv.locals=s.heap.objs.size:=by rw[<-hcenv];rfl
 have hcl:cenv.cells=cellsFrom (s.heap.objs.size+1) scope.names (dW X.env.cells scope.names []):=by rw[<-hcenv];rfl
 have hsc:cenv.scope=relS scope X.env.scope:=by rw[<-hcenv];rfl
 rw[<-Heap.size_push s.heap {cls:=.type "dict",data:=.dict #[]}]at hcl;have cm:∀{y c},(y,c)∈dW X.env.cells scope.names []->X.env.cells.lookup y=some c/\c<s.heap.objs.size:=λ{y c}hm=>by
  rcases kK hm with hm|⟨h1,rfl⟩
  ·cases hm
  ·obtain⟨c,hc⟩:=hfree _ h1 rfl;rw[hc];obtain⟨w,z⟩:=I.cell _ _ hc;exact⟨rfl,z.lt⟩
 have mem:∀{y c},cenv.cells.lookup y=some c->(X.env.cells.lookup y=some c/\c<s.heap.objs.size)\/(s.heap.objs.size+1<=c/\Ee (pushCells (s.heap.push {cls:=.type "dict",data:=.dict #[]}) scope.names) c none):=λ{y c}e=>by
  rw[hcl]at e;rcases lQ (bT e)with hm|⟨_,h2,h3⟩
  ·exact .inl (cm hm)
  ·rw[Heap.size_push]at h2;exact .inr ⟨h2,h3⟩
 have look:∀{y},scope.names.lookup y=some .free->∃c,cenv.cells.lookup y=some c/\X.env.cells.lookup y=some c:=λ{y}hl=>by
  have hy:(y,NameKind.free)∈scope.names:=bT hl;obtain⟨c',e'⟩:=mem_lookup (oS (names:=scope.names) (n:=(s.heap.push {cls:=.type "dict",data:=.dict #[]}).objs.size) (nW (cells:=X.env.cells) (acc:=[]) hy));rw[<-hcl]at e';refine⟨c',e',?_⟩;rw[hcl]at e';rcases lQ (bT e')with hm|⟨h1,_,_⟩
  ·exact(cm hm).1
  ·have:=ok.uniq _ h1;rw[hl]at this;cases this
 have okB:(X.blk s H scope cenv fp).Ok:=by
  refine⟨I.ok.mod,by show cenv.scope.kind=_;rw[hsc];exact ok.kind,by show cenv.globals=_;rw[<-hcenv];exact I.ok.glob,by show cenv.builtins=_;rw[<-hcenv];exact I.ok.blt,by show s.heap.objs.size<=cenv.locals;rw[hL];exact aN _,λy z c e1 e2=>?_,λy hy=>?_,λy c z e=>?_,I.ok.hd,I.ok.frames,.inl rfl,λb hb=>⟨?_,λy c e z=>?_⟩,I.bs,ay I.ok.bsz I.sz,λb o e hb=>?_,λb hb z=>?_,I.stack,I.stkFree⟩
  ·have e1:cenv.cells.lookup y=some c:=e1;have e2:cenv.cells.lookup z=some c:=e2;rw[hcl]at e1 e2;refine rL (λp hp=>?_) (λy z c a b=>I.ok.inj y z c (cm a).1 (cm b).1) (bT e1) (bT e2);rw[Heap.size_push];exact cV (cm (y:=p.1) (c:=p.2) hp).2
  ·show ∃c,cenv.cells.lookup y=some c;have key:∀k,cenv.kindOf y=some k->(k=.cell\/k=.free)->∃c,cenv.cells.lookup y=some c:=λk hk hk'=>by
    unfold Env.kindOf at hk;rw[hsc]at hk;obtain⟨k',e,r⟩:=nX hk;have:k'=.cell\/k'=.free:=by
     rcases r with rfl|⟨rfl,_⟩
     ·exact hk'
     ·exact .inr rfl
    rcases this with rfl|rfl
    ·obtain⟨c,hm⟩:=rK (n:=(s.heap.push {cls:=.type "dict",data:=.dict #[]}).objs.size) (acc:=dW X.env.cells scope.names []) (bT e);obtain⟨c',e'⟩:=mem_lookup hm;exact⟨c',by rw[hcl];exact e'⟩
    ·obtain⟨c,h1,_⟩:=look e;exact⟨c,h1⟩
   rcases hy with hy|hy
   ·exact key _ hy (.inl rfl)
   ·exact key _ hy (.inr rfl)
  ·have z:(scope.names.lookup y==some NameKind.cell)=true:=z;have z:scope.names.lookup y=some .cell:=by simpa using z
   have e:cenv.cells.lookup y=some c:=e;rw[hcl]at e;rcases lQ (bT e)with hm|⟨_,h2,_⟩
   ·rcases kK hm with hm|⟨h1,_⟩
    ·cases hm
    ·have q:=ok.uniq _ h1;rw[z]at q;cases q
   ·rw[Heap.size_push]at h2;exact nD h2
  ·show b≠cenv.locals;rw[hL];exact bF (hfp b hb).2
  ·have e:cenv.cells.lookup y=some c:=e;rcases mem e with⟨h1,_⟩|⟨h1,_⟩
   ·exact(hfp b hb).1.2.2.2.2.1 y c h1 z
   ·have h2:s.heap.objs.size+1<=b:=by rw[<-z];exact h1
    exact absurd (bB (hfp b hb).2 (nD h2)) (dJ _)
  ·rcases(hfp b hb).1.2.2.2.1 with z|z
   ·exact I.ok.noex b o e z
   ·exact absurd (bB (Heap.lt_size e) (ay I.ok.bsz z)) (dJ _)
  ·rcases aF.mp (I.stkSub b z)with z|z
   ·exact(hfp b hb).1.2.1 z
   ·exact(hfp b hb).1.2.2.1 z
 refine⟨okB,rfl,I.bare,Un.kept kp,⟨λ_=>none,?_,λi y av e1 e2 e3=>?_⟩,λy c e=>?_,?_,λy c e=>?_,λp hp=>?_,I.hok.kept kp,by rw[hZ];exact I.len⟩
 ·show Heap.Ns _ cenv.locals _;rw[hL];exact Heap.Ns.keeps (Heap.Ns.new ..) λb o e=>pushCells_keeps _ _ _ _ e
 ·obtain⟨e2,hne⟩:=rN e2;have hfr:scope.names.lookup y=some .free/\(cenv.kindOf y=some .cell\/cenv.kindOf y=some .free):=by
   have key:∀k,cenv.scope.names.lookup y=some k->k=.local\/k=.cell\/k=.free->scope.names.lookup y=some .free/\(cenv.kindOf y=some .cell\/cenv.kindOf y=some .free):=λk hk hk'=>by
    have hk0:=hk;rw[hsc]at hk;obtain⟨k',e,r⟩:=nX hk;have no:¬(k'=.local\/k'=.cell):=λhh=>by
     rcases ok.own _ (bT e) hh with e'|e'
     ·obtain⟨p,hp,hpy⟩:=az.mp e';have e3:=ok.ix p hp;have:p.1=y:=hpy;rw[this]at e3;exact hne (az.mpr ⟨p,hp,uz hN e3 e1⟩)
     ·exact e' (aP e1)
    rcases r with rfl|⟨rfl,rfl⟩
    ·rcases hk' with rfl|rfl|rfl
     ·exact absurd (.inl rfl) no
     ·exact absurd (.inr rfl) no
     ·exact⟨e,.inr hk0⟩
    ·exact⟨e,.inl hk0⟩
   have e3:IB cenv.scope y:=e3;rcases e3 with e3|e3|e3
   ·exact key _ e3 (.inl rfl)
   ·exact key _ e3 (.inr (.inl rfl))
   ·exact key _ e3 (.inr (.inr rfl))
  obtain⟨m,hn,hl⟩:=I.loc;have hvis:IB X.env.scope y:=(ok.free _ (bT hfr.1) rfl).elim (λk=>.inr (.inl k)) (λk=>.inr (.inr k));obtain⟨w,r,q⟩:=hl i y av e1 e2 hvis;refine⟨w,r,.inr ⟨hfr.2,?_⟩⟩;obtain⟨c,h1,h2⟩:=look hfr.1;rcases q with⟨k,_⟩|⟨_,c',e',z⟩
  ·have k:X.env.scope.names.lookup y=some .local:=k;rcases ok.free _ (bT hfr.1) rfl with k'|k'<;>rw[show X.env.scope.names.lookup y=_ from k']at k<;>cases k
  ·rw[h2]at e';cases e';exact⟨c,h1,z.keeps kp⟩
 ·have e:cenv.cells.lookup y=some c:=e;rcases mem e with⟨h1,_⟩|⟨_,z⟩
  ·obtain⟨w,z⟩:=I.cell y c h1;exact⟨w,z.keeps kp⟩
  ·exact⟨_,z⟩
 ·show H cenv.locals=none;rw[hL];exact I.hok.fresh (aN _)
 ·have e:cenv.cells.lookup y=some c:=e;rcases mem e with⟨h1,_⟩|⟨h1,_⟩
  ·exact I.freeC y c h1
  ·exact I.hok.fresh (nD h1)
 ·exact absurd (show p∈([]:List (Addr×Obj))++[]from hp) (by simp)
theorem Hx{E:Value->Shared->Prop}{D:Addr}{xs:List V}{y:V}{v:Value}{Q:Value->Shared->Prop}(I:Inv X pins σ H s)(hD:H D=some (.lst xs))(hz:xs.length<sizeLine)(r:RelV y v)(h:∀s',Inv X pins σ (upd H D (.lst (xs++[y]))) s'->Q .none s'):wpAny (model X.prog X.w) X.A (call (.builtin "list.append") [.ref D,v]) Q E s:=by obtain⟨hz',its,n,ri,e⟩:=I.hok D _ hD;have hl:=ri.length;refine append_at (hsz:=by rw[bg];omega) e λh' sb ho'=>?_;refine h {s with heap:=h'} (I.write (t':=s.toks) (by rw[hD];trivial) (.inl rfl) (λb u hb q=>(sb.2 b hb).trans q) ⟨_,ho'⟩ ⟨by rw[bD];exact hz,its++[v],n+1,ri.append (.cons r .nil),?_⟩);rw[ho'];simp
def IM(X:Cx)(ifs:List Expr)(t:TT):Prop:=∀(pins:List (Addr×Obj))(s:Shared)(σ:St)(H:Hp)(Q:Bool->Hp->Prop),Inv X pins σ H s->t σ H Q->wpAny (model X.prog X.w) X.A (forIn ifs true λc r=>if r=true then do let ok <-isTrue c X.env (eval c X.env);pure (ForInStep.yield ok)else pure (ForInStep.yield r)) (TP X pins σ Q) X.xe s
def CN:TT:=λ_ H Q=>Q true H
theorem eD:IM X [] CN:=λ_ _ _ H _ I h=>wpAny_tests_nil ⟨H,I,h⟩
theorem oU{c:Expr}{t:TT}(h:PT X c t):IM X [c] t:=λpins s σ H Q I hw=>wpAny_tests_one (h pins s σ H Q I hw)
end
theorem CO{α:Type}{t:Sem α}{Q Q':α->Shared->Prop}{M:Model}{A:Around}{E:Value->Shared->Prop}{s:Shared}(h:wpAny M A t Q (λ_ _=>False) s)(hQ:∀a s,Q a s->Q' a s):wpAny M A t Q' E s:=wpAny_mono h hQ λ_ _ z=>dB z
theorem yi{prog:Program}{w:World}{A:Around}{R:Result->Shared->Prop}{s:Shared}{elt target iter:Expr}{ifs:List Expr}{scope:Scope}{pos:Pos}{it acc:Value}{env:Env}(I:Nat->Shared->Prop)(turn:∀n s,I n s->wpAny (model prog w) A (pyNext it) (λr s₁=>match r with
   |none=>R (.ok .next) s₁
   |some v=>wpAny (model prog w) A (letOwnedTupleGo target it v) (λ_ s₁'=>wpAny (model prog w) A (assign target env v) (λ_ s₂=>
     wpAny (model prog w) A (forIn ifs true λc r=>if r=true then do let ok <-isTrue c env (eval c env);pure (ForInStep.yield ok)else pure (ForInStep.yield r)) (λok s₃=>
      if ok=true then wpAny (model prog w) A (eval elt env) (λx s₄=>
       wpAny (model prog w) A (call (.builtin "list.append") [acc,x]) (λ_ s₅=>∃m,m<n/\I m s₅) (notedBy (model prog w) A env λe s'=>R (.error e) s') s₄) (notedBy (model prog w) A env λe s'=>R (.error e) s') s₃
      else ∃m,m<n/\I m s₃) (notedBy (model prog w) A env λe s'=>R (.error e) s') s₂) (notedBy (model prog w) A env λe s'=>R (.error e) s') s₁') (notedBy (model prog w) A env λe s'=>R (.error e) s') s₁) (notedBy (model prog w) A env λe s'=>R (.error e) s') s)(n:Nat)(h:I n s):codeAny (model prog w) A (.compLoop (.ListComp elt [⟨target,iter,ifs,0⟩] scope pos) 0 it acc env) R s:=by
 refine codeAny_loop rfl I (λn s hI=>?_) n h;show wpAny _ A ((compTurn (.ListComp elt [⟨target,iter,ifs,0⟩] scope pos) 0 it acc env).onRaise (λx=>do noteFrame x env;theTreesLotGoes x)) _ _ s;refine wpAny_noted ?_;rw[compTurn_list];refine wpAny_bind (wpAny_standAt (wpAny_bind (wpAny_mono (turn n s hI) (λr s₁ h₁=>?_) λ_ _ h'=>h')));cases r with
 |none=>exact wpAny_pure h₁
 |some v=>
  refine wpAny_bind (wpAny_mono h₁ (λ_ s₁' h₁'=>?_) λ_ _ h'=>h')
  refine wpAny_bind (wpAny_mono h₁' (λ_ s₂ h₂=>wpAny_bind (wpAny_mono h₂ (λok s₃ h₃=>?_) λ_ _ h'=>h')) λ_ _ h'=>h')
  cases ok with
  |false=>exact wpAny_pure ⟨rfl,h₃⟩
  |true=>
   exact wpAny_bind (wpAny_bind (wpAny_mono h₃ (λx s₄ h₄=>wpAny_bind (wpAny_mono h₄ (λ_ s₅ h₅=>wpAny_pure (wpAny_pure ⟨rfl,h₅⟩)) λ_ _ h'=>h')) λ_ _ h'=>h'))
section
variable {X:Cx}
def GW(wi:TI)(g:TG)(tt:TT)(te:TE)(vs:List Nat):TE:=λσ H Q=>wi σ H λJ H1=>∀D,H1 D=none->∃W:Nat->Nat->Hp->Prop,(∃m,W 0 m (upd H1 D (.lst [])))/\∀i m H,W i m H->(J.stop i H/\Q (.ref D) H)\/(J.go i H/\∃Nx:Hp->Prop,(∀H',Nx H'->∃m',m'<m/\W (i+1) m' H')/\∀x H',J.yld i H x H'->g x (wipe σ vs) H' λσ2 H2=>wipe σ2 vs=wipe σ vs/\tt σ2 H2 λb H3=>
  if b=true then te σ2 H3 λy H4=>∃acc,H4 D=some (.lst acc)/\acc.length<sizeLine/\Nx (upd H4 D (.lst (acc++[y])))else Nx H3)
theorem B6{pins:List (Addr×Obj)}{s:Shared}{σ:St}{H:Hp}{Q:VK}{elt tg iter:Expr}{ifs:List Expr}{scope:Scope}{own:List (Str×Nat)}{pos pos':Pos}{wi:TI}{g:TG}{tt:TT}{te:TE}{use:Option (Value->Sem Unit)}{Qf:Value->Shared->Prop}(hc:X.calm=true)(hN:X.N.Nodup)(I:Inv X pins σ H s)(hi:PI X tg iter wi)(ok:xA X.N X.env.scope scope own)(hg:∀(s:Shared)(H:Hp)(C:Addr)(cl:List (Str×Addr))(fp:List Addr),PG (X.blk s H scope (compEnvC scope cl C X.env) fp) tg g)(ht:∀(s:Shared)(H:Hp)(C:Addr)(cl:List (Str×Addr))(fp:List Addr),IM (X.blk s H scope (compEnvC scope cl C X.env) fp) ifs tt)(he:∀(s:Shared)(H:Hp)(C:Addr)(cl:List (Str×Addr))(fp:List Addr),PE (X.blk s H scope (compEnvC scope cl C X.env) fp) elt te)(hs:∀x,foldedSetIterable iter X.env x=pure x)(h:GW wi g tt te (own.map (·.2)) σ H Q)(hRR:∀D C s' m H',Inv X pins σ H' s'->Q (.ref D) H'->s'.heap.Ns C m->wm X pins H' C->compPost (model X.prog X.w) X.A X.xe use Qf (.ref D) C (.ok .next) s'):wpAny (model X.prog X.w) X.A (comprehension (.ListComp elt [⟨tg,iter,ifs,0⟩] scope pos) scope X.env pos' (newList []) false (eval iter X.env) use) Qf X.xe s:=by
 have hfree:∀y∈scope.names,y.2=.free->∃c,X.env.cells.lookup y.1=some c:=λy hy e=>by
  rcases ok.free y hy e with k|k
  ·exact I.ok.has _ (.inl k)
  ·exact I.ok.has _ (.inr k)
 refine wpAny_comprehension_free (use:=use) rfl hs (AW hfree) ok.kind (λy hy e=>by rw[ok.uniq y hy,e]) (eR (hi pins s σ H _ I h) λxv s1 hx=>eR hx λitv s2 h2=>?_);obtain⟨it,fp,tn,J,H2,e,I2,T,st2,f2,q⟩:=h2;subst e;refine wpAny_newObj_type (zt ?_) (by show 0<=sizeLine;decide);generalize hD:s2.heap.objs.size=D;have hDn:H2 D=none:=I2.hok.fresh (qu hD);obtain⟨W,⟨m0,w0⟩,turn⟩:=q D hDn;generalize hs3:({s2 with heap:=s2.heap.push {cls:=.type "list",data:=.seq ([]:List Value).toArray}}:Shared)=s3;have I3:Inv X pins σ (upd H2 D (.lst [])) s3:=by rw[<-hs3];refine I2.laid (t':=s2.toks) (λb o e=>Heap.get?_push_of_some _ e) (qu hD) ⟨aV _,[],0,.nil,?_⟩;rw[<-hD];exact Heap.get?_push_size _ rfl
 have h3:s3.heap=s2.heap.push {cls:=.type "list",data:=.seq ([]:List Value).toArray}:=by rw[<-hs3]
 have sz:∀b∈fp,b<s2.heap.objs.size:=λb hb=>by obtain⟨o,e,_⟩:=T.obj _ _ st2 b hb;exact Heap.lt_size e
 have f3:∀b∈fp,wm X pins (upd H2 D (.lst [])) b/\b<s3.heap.objs.size:=λb hb=>by have hlt:=sz b hb;refine⟨⟨?_,(f2 b hb).2⟩,by rw[h3,Heap.size_push];exact cV hlt⟩;rw[aA (by rw[<-hD];exact bF hlt)];exact(f2 b hb).1
 have st3:tn 0 s3.heap:=T.keep _ _ _ st2 λb _ o e=>by rw[h3];exact Heap.get?_push_of_some _ e
 have I4:=zu I3 ok hN f3;have pg:=hg s3 (upd H2 D (.lst [])) s3.heap.objs.size (cellsFrom (s3.heap.objs.size+1) scope.names (dW X.env.cells scope.names [])) fp;have pt:=ht s3 (upd H2 D (.lst [])) s3.heap.objs.size (cellsFrom (s3.heap.objs.size+1) scope.names (dW X.env.cells scope.names [])) fp;have pe:=he s3 (upd H2 D (.lst [])) s3.heap.objs.size (cellsFrom (s3.heap.objs.size+1) scope.names (dW X.env.cells scope.names [])) fp;show codeAny _ _ (.compStart (.ListComp elt [⟨tg,iter,ifs,0⟩] scope pos) 0 (.ref it) (.ref D) (compEnvC scope (cellsFrom (s3.heap.objs.size+1) scope.names (dW X.env.cells scope.names [])) s3.heap.objs.size X.env)) (compPost (model X.prog X.w) X.A X.xe use Qf (.ref D) s3.heap.objs.size) {s3 with heap:=pushCells (s3.heap.push {cls:=.type "dict",data:=.dict #[]}) scope.names};have nfp:∀b∈fp,(upd H2 D (.lst [])) b=none:=λb hb=>(f3 b hb).1.1;generalize hce:compEnvC scope (cellsFrom (s3.heap.objs.size+1) scope.names (dW X.env.cells scope.names [])) s3.heap.objs.size X.env=ce at I4 pg pt pe⊢;have cL:ce.locals=s3.heap.objs.size:=by subst hce;rfl
 generalize hH3:upd H2 D (.lst [])=H3 at I3 I4 pg pt pe w0 nfp f3;generalize hs4:({s3 with heap:=pushCells (s3.heap.push {cls:=.type "dict",data:=.dict #[]}) scope.names}:Shared)=s4 at I4⊢;have st4:tn 0 s4.heap:=T.keep _ _ _ st3 λb _ o e=>by rw[<-hs4];exact pushCells_keeps _ _ _ _ (Heap.get?_push_of_some _ e)
 have stat:∀{σ':St}{H':Hp}{s':Shared},Inv (X.blk s3 H3 scope ce fp) [] σ' H' s'->(∀b∈fp,H' b=none)->∀b∈fp,wm (X.blk s3 H3 scope ce fp) [] H' b:=λ{σ' H' s'}I' hn b hb=>
  ⟨hn b hb,(I'.ok.exf b hb).1,I'.ok.exfs b hb,.inl hb,λx c e=>(I'.ok.exf b hb).2 x c e,λp hp=>absurd (show p∈([]:List (Addr×Obj))++[]from hp) (by simp)⟩
 have loop:codeAny (model X.prog X.w) X.A (.compLoop (.ListComp elt [⟨tg,iter,ifs,0⟩] scope pos) 0 (.ref it) (.ref D) ce) (compPost (model X.prog X.w) X.A X.xe use Qf (.ref D) s3.heap.objs.size) s4:=by
  refine yi (λn s'=>∃i H',Inv (X.blk s3 H3 scope ce fp) [] (wipe σ (own.map (·.2))) H' s'/\tn i s'.heap/\(∀b∈fp,H' b=none)/\W i n H') ?_ m0 ⟨0,H3,I4,st4,nfp,w0⟩;rintro n s5⟨i,H5,I5,st5,n5,w5⟩;rcases turn i n H5 w5 with⟨stop,qq⟩|⟨go,Nx,hNx,step⟩
  ·have td:=T.done (X.blk s3 H3 scope ce fp) rfl rfl rfl hc i [] s5 _ H5 (λ_ _=>False) I5 (stat I5 n5) st5 stop;refine CO td λr s6⟨hr,I6⟩=>?_;subst hr;have I7:Inv X pins σ H5 s6:=I3.call' (ch:=fp) I6.os I6.base I6.hok I6.bare λb hb=>⟨(f3 b hb).1.2.2.2.1,(f3 b hb).1.2.1,(f3 b hb).1.2.2.2.2.1,(f3 b hb).1.2.2.2.2.2⟩;have nC:H5 s3.heap.objs.size=none:=by have z:H5 ce.locals=none:=I6.free;rw[cL]at z;exact z
   obtain⟨m,hn,_⟩:=I6.loc;have hn:s6.heap.Ns ce.locals m:=hn;rw[cL]at hn;exact hRR D s3.heap.objs.size s6 m H5 I7 qq hn (I3.fpOk (aN _) nC)
  ·have ti:=T.item (X.blk s3 H3 scope ce fp) rfl rfl rfl hc i [] s5 _ H5 (λ_ _=>False) I5 (stat I5 n5) st5 go;refine CO ti λr s6⟨u,hr,h6⟩=>?_;subst hr;refine CO h6 λ_ s7⟨x,H7,I7,r7,y7,st7,n7⟩=>?_;have I7':=I7.pinned (stat I7 n7) (T.obj _ _ st7);refine CO (pg _ s7 _ H7 x u _ I7' r7 (step x H7 y7)) λ_ s8⟨σ8,H8,I8,hw8,q8⟩=>?_;refine CO (pt _ s8 σ8 H8 _ I8 q8) λb s9⟨H9,I9,q9⟩=>?_;have fin:∀{s':Shared}{H':Hp},Inv (X.blk s3 H3 scope ce fp) ([]++uC fp s7.heap) σ8 H' s'->Nx H'->∃m,m<n/\∃i H',Inv (X.blk s3 H3 scope ce fp) [] (wipe σ (own.map (·.2))) H' s'/\tn i s'.heap/\(∀b∈fp,H' b=none)/\W i m H':=λ{s' H'}I' nx=>by
    obtain⟨m',hm,w'⟩:=hNx H' nx;have pin':∀b∈fp,∀o,s7.heap.get? b=some o->s'.heap.get? b=some o/\H' b=none:=λb hb o e=>
     let z:=I'.pin (b,o) (bN _ (bN _ (pX hb e)))
     ⟨z.1,z.2.1⟩
    have hl:(wipe σ (own.map (·.2))).length=σ8.length:=by rw[<-hw8,hZ]
    refine⟨m',hm,i+1,H',(I'.unpinned (pins:=[])).weak hl (λj v e=>?_),T.keep _ _ _ st7 λb hb o e=>(pin' b hb o e).1,λb hb=>?_,w'⟩
    ·rw[<-hw8]at e;exact(rN e).1
    ·obtain⟨o,e,_⟩:=T.obj _ _ st7 b hb;exact(pin' b hb o e).2
   cases b with
   |false=>
    simp only[cO,if_false]at q9⊢
    exact fin I9 q9
   |true=>
    simp only[if_true]at q9⊢
    refine CO (pe _ s9 σ8 H9 _ I9 q9) λz s10⟨yv,H10,I10,r10,acc,hD10,hz10,nx⟩=>?_
    exact Hx (X:=X.blk s3 H3 scope ce fp) I10 hD10 hz10 r10 λs11 I11=>fin I11 nx
 exact codeAny_compStart_list loop (T.self X.A 0 _ _ _ st4 loop)
theorem gN{elt tg iter:Expr}{ifs:List Expr}{scope:Scope}{own:List (Str×Nat)}{pos:Pos}{wi:TI}{g:TG}{tt:TT}{te:TE}(hc:X.calm=true)(hN:X.N.Nodup)(hi:PI X tg iter wi)(ok:xA X.N X.env.scope scope own)(hg:∀(s:Shared)(H:Hp)(C:Addr)(cl:List (Str×Addr))(fp:List Addr),PG (X.blk s H scope (compEnvC scope cl C X.env) fp) tg g)(ht:∀(s:Shared)(H:Hp)(C:Addr)(cl:List (Str×Addr))(fp:List Addr),IM (X.blk s H scope (compEnvC scope cl C X.env) fp) ifs tt)(he:∀(s:Shared)(H:Hp)(C:Addr)(cl:List (Str×Addr))(fp:List Addr),PE (X.blk s H scope (compEnvC scope cl C X.env) fp) elt te)(hs:∀x,foldedSetIterable iter X.env x=pure x:=by intro _;rfl):PE X (.ListComp elt [⟨tg,iter,ifs,0⟩] scope pos) (GW wi g tt te (own.map (·.2))):=by intro pins s σ H Q I h;rw[eval_ListComp];refine B6 hc hN I hi ok hg ht he hs h λD C s' m H' I' q hn f=>⟨m,hn,λh'' sb=>?_⟩;obtain⟨f0,f1,f2,f3,f4,f5⟩:=f;exact⟨.ref D,H',I'.turned (t':=s'.toks) (λb o hb e=>(sb.2 b hb).trans e) f0 f1 f3 f4 f5,rfl,q⟩
theorem qG{i:Nat}{y:Str}{py:Pos}{elt tg iter:Expr}{ifs:List Expr}{scope:Scope}{own:List (Str×Nat)}{pos spos:Pos}{wi:TI}{g:TG}{tt:TT}{te:TE}(hc:X.calm=true)(hN:X.N.Nodup)(hy:X.N[i]?=some y)(hyl:X.env.scope.names.lookup y=some .local)(hsw:swapsWith (.ListComp elt [⟨tg,iter,ifs,0⟩] scope pos) (some (.Name y py)) spos.line X.env=pure true)(hi:PI X tg iter wi)(ok:xA X.N X.env.scope scope own)(hg:∀(s:Shared)(H:Hp)(C:Addr)(cl:List (Str×Addr))(fp:List Addr),PG (X.blk s H scope (compEnvC scope cl C X.env) fp) tg g)(ht:∀(s:Shared)(H:Hp)(C:Addr)(cl:List (Str×Addr))(fp:List Addr),IM (X.blk s H scope (compEnvC scope cl C X.env) fp) ifs tt)(he:∀(s:Shared)(H:Hp)(C:Addr)(cl:List (Str×Addr))(fp:List Addr),PE (X.blk s H scope (compEnvC scope cl C X.env) fp) elt te)(hs:∀x,foldedSetIterable iter X.env x=pure x:=by intro _;rfl):PS X (.Assign [.Name y py] (.ListComp elt [⟨tg,iter,ifs,0⟩] scope pos) spos) (FP (GW wi g tt te (own.map (·.2))) (kJ i)):=by
 intro pins s σ H D I h;rw[exec_Assign_Name_used _ _ _ _ hsw];refine wpAny_bind (wpAny_standAt (wpAny_bind ?_));show wpAny _ X.A (do let _ <-comprehension (.ListComp elt [⟨tg,iter,ifs,0⟩] scope pos) scope X.env (firstIterPos [⟨tg,iter,ifs,0⟩] pos) (newList []) false (eval iter X.env) (some (assign (.Name y py) X.env))) _ _ s;have h:GW wi g tt te (own.map (·.2)) σ H (λx H1=>kJ i x σ H1 D.nx):=h;refine wpAny_bind (eR (B6 (Qf:=λ_ s'=>SP X pins D .next s') hc hN I hi ok hg ht he hs h λL C s' m H' I' q hn f=>?_) λ_ s' hq=>wpAny_pure (wpAny_pure hq));show wpAny _ _ (assign (.Name y py) X.env (.ref L)) _ _ _;refine wpAny_assign_Name (xo (v:=V.ref L) I' hN hy (.inl hyl) rfl (λs2 I2⟨a,sb,ha⟩=>?_) (.inr hyl));obtain⟨f0,f1,f2,f3,f4,f5⟩:=f;have haC:C≠a:=by
  rcases ha with z|z
  ·rw[z];exact f1
  ·exact λe=>f4 y a z e.symm
 refine⟨m,hn.sameBut sb haC,λh3 sb3=>?_⟩;exact⟨_,H',I2.turned (t':=s2.toks) (λb o hb e=>(sb3.2 b hb).trans e) f0 f1 f3 f4 f5,q⟩
theorem um{elt:Expr}{gs:List Comprehension}{scope:Scope}{pos py:Pos}{y:Str}{l:Nat}{env:Env}(hk:env.scope.kind=.function)(hy:env.scope.names.lookup y=some .local)(hl:(py.line==pos.line)=true)(ha:(scope.names.any λ(n,k)=>n==y&&(k==.local||k==.cell))=false):swapsWith (.ListComp elt gs scope pos) (some (.Name y py)) l env=pure true:=by
 have ky:env.kindOf y=some .local:=hy;have hb:env.blockKind=.function:=by unfold Env.blockKind;rw[hk];rfl
 unfold swapsWith;simp only[hb,ky,ha,Expr.pos,hl];rfl
end
theorem yj{K:aj}{a:Addr}{xs:List V}{g:TG}{tt:TT}{te:TE}{vs:List Nat}{σ:St}{H1:Hp}{D:Addr}{Qd:Hp->Prop}(Pv:Nat->Hp->Prop)(h0:Pv 0 (upd H1 D (.lst [])))(hl:∀i H,i<=xs.length->Pv i H->bZ K H a xs)(hs:∀i x H,xs[i]?=some x->Pv i H->g x (wipe σ vs) H λσ2 H2=>wipe σ2 vs=wipe σ vs/\tt σ2 H2 λb H3=>
   if b=true then te σ2 H3 λy H4=>∃acc,H4 D=some (.lst acc)/\acc.length<sizeLine/\Pv (i+1) (upd H4 D (.lst (acc++[y])))else Pv (i+1) H3)(hd:∀H,Pv xs.length H->Qd H):∃W:Nat->Nat->Hp->Prop,(∃m,W 0 m (upd H1 D (.lst [])))/\∀i m H,W i m H->((BR K a).stop i H/\Qd H)\/((BR K a).go i H/\∃Nx:Hp->Prop,(∀H',Nx H'->∃m',m'<m/\W (i+1) m' H')/\∀x H',(BR K a).yld i H x H'->g x (wipe σ vs) H' λσ2 H2=>wipe σ2 vs=wipe σ vs/\tt σ2 H2 λb H3=>
    if b=true then te σ2 H3 λy H4=>∃acc,H4 D=some (.lst acc)/\acc.length<sizeLine/\Nx (upd H4 D (.lst (acc++[y])))else Nx H3):=by
 refine⟨λi m H=>m=xs.length-i/\i<=xs.length/\Pv i H,⟨xs.length,by simp,aV _,h0⟩,?_⟩;rintro i m H⟨rfl,hi,p⟩;have q:=hl i H hi p;by_cases hlt:i<xs.length
 ·refine .inr ⟨⟨xs,xs[i],q,by simp[hlt]⟩,Pv (i+1),λH' p'=>⟨xs.length-(i+1),by omega,rfl,hlt,p'⟩,λx H' y=>?_⟩;obtain⟨e,y⟩:=y;subst e;exact hs i x _ (y xs q) p
 ·have e:i=xs.length:=by omega
  subst e;exact .inl ⟨⟨xs,q,aN _⟩,hd H p⟩
def Hy(N:List Str)(sc scope:Scope)(own:List (Str×Nat)):Bool:=(match scope.kind with|.function=>true|_=>false)&&(scope.names.all λy=>decide (scope.names.lookup y.1=some y.2))&&(own.all λp=>decide (N[p.2]?=some p.1))&&(scope.names.all λy=>match y.2 with
   |.free=>(match sc.names.lookup y.1 with|some .cell=>true|some .free=>true|_=>false)
   |.local=>decide (y.1∈own.map (·.1))||decide (y.1∉N)
   |.cell=>decide (y.1∈own.map (·.1))||decide (y.1∉N)
   |_=>true)
theorem Ef{N:List Str}{sc scope:Scope}{own:List (Str×Nat)}(h:Hy N sc scope own=true):xA N sc scope own:=by
 unfold Hy at h;simp only[dG,bU,decide_eq_true_eq]at h;obtain⟨⟨⟨h1,h2⟩,h3⟩,h4⟩:=h;refine⟨?_,h2,h3,λy hy e=>?_,λy hy e=>?_⟩
 ·split at h1
  ·assumption
  ·cases h1
 ·have q:=h4 y hy;simp only[e]at q;split at q<;>first|exact .inl (by assumption)|exact .inr (by assumption)|cases q
 ·have q:=h4 y hy;rcases e with e|e<;>(simp only[e,lL,decide_eq_true_eq]at q;exact q)
end L2
namespace L2
open PySem PySem.Spec PyProof.Rows
section
variable {prog:Program}{w:World}{A:Around}{R:Result->Shared->Prop}{s:Shared}{elt t0 i0 t1 i1:Expr}{ifs0 ifs1:List Expr}{scope:Scope}{pos:Pos}{it acc:Value}{env:Env}
end
section
variable {X:Cx}
end
end L2
namespace L2
open PySem PySem.Spec PyProof.Rows
section
variable {κ:Type}[DecidableEq κ]
def dZ(kvs:List (κ×V))(k:κ):Option V:=(kvs.find? λkv=>decide (kv.1=k)).map (·.2)
def putK(kvs:List (κ×V))(k:κ)(v:V):List (κ×V):=if(kvs.any λkv=>decide (kv.1=k))=true then kvs.map (λkv=>if kv.1=k then(kv.1,v)else kv)else kvs++[(k,v)]
def pE(kvs:List (κ×V))(k:κ):List (κ×V):=kvs.filter λkv=>decide (kv.1≠k)
theorem eu{p:κ×V}{r:List (κ×V)}{k:κ}(e:p.1=k):dZ (p::r) k=some p.2:=by simp[dZ,fK,e]
theorem eA{p:κ×V}{r:List (κ×V)}{k:κ}(e:¬p.1=k):dZ (p::r) k=dZ r k:=by simp[dZ,fK,e]
theorem jY(k:κ):∀kvs:List (κ×V),(kvs.any λkv=>decide (kv.1=k))=(dZ kvs k).isSome
 |[]=>rfl
 |p::r=>by
  rw[iG];by_cases e:p.1=k
  ·simp only[eu e,decide_eq_true e,Bool.true_or,Ij]
  ·rw[eA e,decide_eq_false e,Bool.false_or];exact jY k r
theorem zw(k j:κ)(y:V):∀kvs:List (κ×V),dZ (kvs.map λkv=>if kv.1=k then(kv.1,y)else kv) j=(dZ kvs j).map λx=>if j=k then y else x
 |[]=>rfl
 |p::r=>by
  have ih:=zw k j y r;rw[bo];by_cases h:p.1=k
  ·rw[if_pos h];by_cases e:p.1=j
   ·rw[eu (p:=(p.1,y)) e,eu e,qA,if_pos (e.symm.trans h)]
   ·rw[eA (p:=(p.1,y)) e,eA e,ih]
  ·rw[if_neg h];by_cases e:p.1=j
   ·rw[eu (p:=p) e,eu e,qA,if_neg (λz=>h (e.trans z))]
   ·rw[eA (p:=p) e,eA e,ih]
theorem xB(k j:κ)(y:V):∀kvs:List (κ×V),dZ kvs k=none->dZ (kvs++[(k,y)]) j=if j=k then some y else dZ kvs j
 |[],_=>by
  by_cases e:k=j
  ·rw[if_pos e.symm];exact eu (p:=(k,y)) e
  ·rw[if_neg (λz=>e z.symm)];exact eA (p:=(k,y)) e
 |p::r,hn=>by
  rw[za];have hk:¬p.1=k:=λz=>by rw[eu z]at hn;cases hn
  rw[eA hk]at hn;have ih:=xB k j y r hn;by_cases e:p.1=j
  ·rw[eu e,eu e,if_neg (λz=>hk (e.trans z))]
  ·rw[eA e,eA e,ih]
theorem zx(kvs:List (κ×V))(k j:κ)(y:V):dZ (putK kvs k y) j=if j=k then some y else dZ kvs j:=by
 unfold putK;by_cases a:(kvs.any λkv=>decide (kv.1=k))=true
 ·rw[if_pos a,zw];rw[jY]at a;by_cases e:j=k
  ·obtain⟨x,hx⟩:=DA.mp a;rw[if_pos e,e,hx,qA,if_pos rfl]
  ·rw[if_neg e];cases dZ kvs j with
   |none=>rfl
   |some x=>rw[qA,if_neg e]
 ·rw[if_neg a];refine xB k j y kvs ?_;rw[jY]at a;cases q:dZ kvs k with
  |none=>rfl
  |some x=>rw[q]at a;exact(a rfl).elim
theorem kL(kvs:List (κ×V))(k:κ)(v:V):(putK kvs k v).length<=kvs.length+1:=by
 unfold putK;split
 ·rw[ae];omega
 ·rw[bD,bG,qB];omega
theorem uK{kvs:List (κ×V)}{k:κ}(v:V)(h:dZ kvs k=none):putK kvs k v=kvs++[(k,v)]:=by unfold putK;rw[jY,h];exact if_neg (by decide)
theorem mf.isSome_eq{o:Option V}{u:Option Value}(r:mf o u):o.isSome=u.isSome:=by
 cases o with
 |none=>cases u with
  |none=>rfl
  |some _=>exact(show False from r).elim
 |some _=>cases u with
  |none=>exact(show False from r).elim
  |some _=>rfl
theorem mf.getD{o:Option V}{u:Option Value}{d:V}{d':Value}(r:mf o u)(rd:RelV d d'):RelV (o.getD d) (u.getD d'):=by
 cases o with
 |none=>cases u with
  |none=>exact rd
  |some _=>exact(show False from r).elim
 |some _=>cases u with
  |none=>exact(show False from r).elim
  |some _=>exact r
theorem KV.val{kvs:List (κ×V)}{vs:List (κ×Value)}(r:KV kvs vs)(k:κ):mf (dZ kvs k) (valueAt vs k):=by
 unfold KV at r;induction r with
 |nil=>exact True.intro
 |@cons p q ps qs h t ih=>
  obtain⟨h1,h2⟩:=h
  by_cases e:p.1=k
  ·have e':q.1=k:=h1.symm.trans e;have b:valueAt (q::qs) k=some q.2:=by simp[valueAt,fK,e']
   rw[eu e,b];exact h2
  ·have e':¬q.1=k:=λz=>e (h1.trans z);have b:valueAt (q::qs) k=valueAt qs k:=by simp[valueAt,fK,e']
   rw[eA e,b];exact ih
theorem KV.any{kvs:List (κ×V)}{vs:List (κ×Value)}(r:KV kvs vs)(k:κ):(kvs.any λkv=>decide (kv.1=k))=vs.any λkv=>decide (kv.1=k):=by
 unfold KV at r;induction r with
 |nil=>rfl
 |cons h t ih=>rw[iG,iG,ih,h.1]
theorem KV.repl{kvs:List (κ×V)}{vs:List (κ×Value)}(r:KV kvs vs)(k:κ){y:V}{u:Value}(ry:RelV y u):KV (kvs.map λkv=>if kv.1=k then(kv.1,y)else kv) (vs.map λkv=>if kv.1=k then(kv.1,u)else kv):=by
 unfold KV at r⊢;induction r with
 |nil=>exact .nil
 |@cons p q ps qs h t ih=>
  rw[bo,bo]
  refine .cons ?_ ih
  obtain⟨h1,h2⟩:=h
  by_cases e:p.1=k
  ·rw[if_pos e,if_pos (h1.symm.trans e)];exact⟨h1,ry⟩
  ·rw[if_neg e,if_neg (λz=>e (h1.trans z))];exact⟨h1,h2⟩
theorem KV.put{kvs:List (κ×V)}{vs:List (κ×Value)}(r:KV kvs vs)(k:κ){y:V}{u:Value}(ry:RelV y u):KV (putK kvs k y) (stored vs k u):=by
 unfold putK stored;rw[r.any k];by_cases e:(vs.any λkv=>decide (kv.1=k))=true
 ·rw[if_pos e,if_pos e];exact r.repl k ry
 ·rw[if_neg e,if_neg e];exact Paired.snoc r ⟨rfl,ry⟩
theorem KV.drop{kvs:List (κ×V)}{vs:List (κ×Value)}(r:KV kvs vs)(k:κ):KV (pE kvs k) (without vs k):=by
 unfold KV at r⊢;unfold pE without;induction r with
 |nil=>exact .nil
 |@cons p q ps qs h t ih=>
  obtain⟨h1,h2⟩:=h
  rw[cw,cw]
  by_cases e:p.1=k
  ·have a:¬decide (p.1≠k)=true:=by simp[e]
   have b:¬decide (q.1≠k)=true:=by simp[h1.symm.trans e]
   rw[if_neg a,if_neg b];exact ih
  ·have e':¬q.1=k:=λz=>e (h1.trans z);have a:decide (p.1≠k)=true:=by simp[e]
   have b:decide (q.1≠k)=true:=by simp[e']
   rw[if_pos a,if_pos b];exact .cons ⟨h1,h2⟩ ih
theorem KV.length{kvs:List (κ×V)}{vs:List (κ×Value)}(r:KV kvs vs):kvs.length=vs.length:=Paired.length r
theorem zy(kvs:List (κ×V))(k:κ):(pE kvs k).length<=kvs.length:=bp _ _
end
theorem pG{P:Program}{w:World}{k:Key}{u:Value}(r:RelV (kV k) u):(cM P w).is k u=true:=by
 cases k with
 |inl i=>obtain⟨t,e⟩:=(show ∃t,u=Value.int i t from r);subst e;exact zf P w i t
 |inr x=>obtain⟨t,e⟩:=(show ∃t,u=Value.str x t from r);subst e;exact zg P w x t
theorem xC{P:Program}{w:World}:∀{ks:List Key}{us:List Value},cG (ks.map kV) us->ItemsAre (cM P w) ks us
 |[],_,r=>by rw[jA]at r;cases r;exact .nil
 |k::ks,_,r=>by
  rw[bo]at r;cases r with
  |cons h t=>exact .cons (pG h) (xC t)
abbrev KT(H:Hp):List (List Key×V)->List (List Key×Addr×Value)->Prop:=Paired λp q=>p.1=q.1/\H q.2.1=some (.tup (p.1.map kV))/\RelV p.2 q.2.2
theorem KT.val{H:Hp}{kvs:List (List Key×V)}{xs:List (List Key×Addr×Value)}(r:KT H kvs xs)(k:List Key):mf (dZ kvs k) ((atKey xs k).map (·.2)):=by
 induction r with
 |nil=>exact True.intro
 |@cons p q ps qs h t ih=>
  obtain⟨h1,_,h2⟩:=h
  by_cases e:p.1=k
  ·have e':q.1=k:=h1.symm.trans e;have b:atKey (q::qs) k=some q.2:=by simp[atKey,fK,e']
   rw[eu e,b];exact h2
  ·have e':¬q.1=k:=λz=>e (h1.trans z);have b:atKey (q::qs) k=atKey qs k:=by simp[atKey,fK,e']
   rw[eA e,b];exact ih
theorem KT.repl{H:Hp}{kvs:List (List Key×V)}{xs:List (List Key×Addr×Value)}(r:KT H kvs xs)(k:List Key){y:V}{u:Value}(ry:RelV y u):KT H (kvs.map λkv=>if kv.1=k then(kv.1,y)else kv) (xs.map (putAt k u)):=by
 induction r with
 |nil=>exact .nil
 |@cons p q ps qs h t ih=>
  rw[bo,bo]
  refine .cons ?_ ih
  obtain⟨h1,h2,h3⟩:=h
  unfold putAt
  by_cases e:p.1=k
  ·rw[if_pos e,if_pos (h1.symm.trans e)];exact⟨h1,h2,ry⟩
  ·rw[if_neg e,if_neg (λz=>e (h1.trans z))];exact⟨h1,h2,h3⟩
theorem KT.put{H:Hp}{kvs:List (List Key×V)}{xs:List (List Key×Addr×Value)}(r:KT H kvs xs)(k:List Key){b:Addr}{y:V}{u:Value}(hb:H b=some (.tup (k.map kV)))(ry:RelV y u):KT H (putK kvs k y) (storedH xs k b u):=by
 have e:(kvs.any λkv=>decide (kv.1=k))=(atKey xs k).isSome:=by rw[jY,(r.val k).isSome_eq,xh]
 unfold putK storedH;rw[e];by_cases q:(atKey xs k).isSome=true
 ·rw[if_pos q,if_pos q];exact r.repl k ry
 ·rw[if_neg q,if_neg q];exact Paired.snoc r ⟨rfl,hb,ry⟩
theorem KT.keeps{H H':Hp}{kvs:List (List Key×V)}{xs:List (List Key×Addr×Value)}(r:KT H kvs xs)(ht:∀b ys,H b=some (.tup ys)->H' b=some (.tup ys)):KT H' kvs xs:=Paired.mapP r λ_ _ z=>⟨z.1,ht _ _ z.2.1,z.2.2⟩
section
variable {P:Program}{w:World}{H:Hp}{h:Heap}{a:Addr}
theorem GX{u:HO}(ok:nS P w H h)(e:Rd H a u):fS P w H h a u:=e.ok ok
theorem tG{kvs:List (Key×V)}(ok:nS P w H h)(e:Rd H a (.dK kvs)):kvs.length<=sizeLine/\(a==sysModules)=false/\∃vs,KV kvs vs/\h.DictOf (cM P w) a vs:=show fS P w H h a (.dK kvs)from GX ok e
theorem B7{kvs:List (Key×V)}(ok:nS P w H h)(e:H a=some (.dK kvs)):kvs.length<=sizeLine/\(a==sysModules)=false/\∃vs,KV kvs vs/\h.DictOf (cM P w) a vs:=tG ok (.inl e)
theorem rO{ks:List Key}(ok:nS P w H h)(e:H a=some (.tup (ks.map kV))):(tupleKind (cM P w)).is h ks a:=by obtain⟨_,its,r,o,h1,h2,n,h3⟩:=(show fS P w H h a (.tup (ks.map kV))from ok a _ e);exact⟨o,its.toArray,n,h1,h2,h3,by simpa using xC r⟩
theorem uL{kvs:List (List Key×V)}(ok:nS P w H h)(e:Rd H a (.dT kvs)):kvs.length<=sizeLine/\(a==sysModules)=false/\∃xs,KT H kvs xs/\h.DictOfH (tupleKind (cM P w)) a xs:=by
 obtain⟨z,y,xs,r,o,es,ep,h1,h2,h3,h4,h5⟩:=(show fS P w H h a (.dT kvs)from GX ok e);refine⟨z,y,xs,r,o,es,ep,h1,h2,h3,h4,λx hx=>?_,h5⟩;have all:∀{l:List (List Key×V)}{m:List (List Key×Addr×Value)},KT H l m->∀x∈m,(tupleKind (cM P w)).is h x.1 x.2.1:=by
  intro l m q;induction q with
  |nil=>intro x hx;exact nomatch hx
  |@cons p q ps qs hq t ih=>
   intro x hx
   rcases aF.mp hx with e|hx
   ·subst e;exact rO ok (by rw[<-hq.1];exact hq.2.1)
   ·exact ih x hx
 exact all r x hx
theorem IP{kvs:List (List Key×V)}(ok:nS P w H h)(e:H a=some (.dT kvs)):kvs.length<=sizeLine/\(a==sysModules)=false/\∃xs,KT H kvs xs/\h.DictOfH (tupleKind (cM P w)) a xs:=uL ok (.inl e)
end
def lR(H:Hp)(a:Addr)(y:V)(r:Option V):Prop:=(∃kvs k,Rd H a (.dK kvs)/\y=kV k/\r=dZ kvs k)\/∃kvs k b,Rd H a (.dT kvs)/\y=.ref b/\H b=some (.tup (k.map kV))/\r=dZ kvs k
def kD(H:Hp)(a:Addr)(y v:V)(H':Hp):Prop:=(∃kvs k,H a=some (.dK kvs)/\y=kV k/\kvs.length<sizeLine/\H'=upd H a (.dK (putK kvs k v)))\/∃kvs k b,H a=some (.dT kvs)/\y=.ref b/\H b=some (.tup (k.map kV))/\kvs.length<sizeLine/\H'=upd H a (.dT (putK kvs k v))
theorem lR.k{H:Hp}{a:Addr}{kvs:List (Key×V)}{k:Key}(e:H a=some (.dK kvs)):lR H a (kV k) (dZ kvs k):=.inl ⟨kvs,k,.inl e,rfl,rfl⟩
theorem kD.k{H:Hp}{a:Addr}{kvs:List (Key×V)}{k:Key}{v:V}(e:H a=some (.dK kvs))(hl:kvs.length<sizeLine):kD H a (kV k) v (upd H a (.dK (putK kvs k v))):=.inl ⟨kvs,k,e,rfl,hl,rfl⟩
section
variable {X:Cx}{pins:List (Addr×Obj)}{σ:St}{H:Hp}{s:Shared}{a:Addr}{y v:V}{u r:Value}{o:Option V}{A:Around}{E:Value->Shared->Prop}
theorem Inv.big(I:Inv X pins σ H s):sysModules<s.heap.objs.size:=by have h:mainGlobals<s.heap.objs.size:=(I.mod.glob.keeps I.bk).lt;exact Nat.lt_trans (by decide) h
theorem CP{Q:Value->Shared->Prop}(hu:A.units+1<cLine)(I:Inv X pins σ H s)(g:lR H a y (some v))(ry:RelV y u)(h:∀w' s',Inv X pins σ H s'->RelV v w'->Q w' s'):wpAny (model X.prog X.w) A (getItem (.ref a) u) Q E s:=by
 rcases g with⟨kvs,k,e,ey,l⟩|⟨kvs,k,b,e,ey,eb,l⟩
 ·subst ey;obtain⟨z,hd,vs,rel,dd⟩:=tG I.hok e;obtain⟨w',hw,rw'⟩:=mf.some_of (v:=v) (o:=valueAt vs k) (by rw[l];exact rel.val k);exact wpAny_getItem_of (pG ry) dd.mapOf hw (h w' _ (I.tok _) rw')
 ·subst ey;cases(show u=Value.ref b from ry);obtain⟨z,hd,xs,rel,dd⟩:=uL I.hok e;obtain⟨w',hw,rw'⟩:=mf.some_of (v:=v) (o:=(atKey xs k).map (·.2)) (by rw[l];exact rel.val k);obtain⟨p,hp,hp2⟩:=Ft.mp hw;refine wpAny_getItem_heap (tupleKind_room_in1 hu) (rO I.hok eb) dd hp ?_;rw[hp2];exact h w' _ (I.tok _) rw'
theorem d_in{Q:Value->Shared->Prop}(hu:A.units+1<cLine)(I:Inv X pins σ H s)(g:lR H a y o)(ry:RelV y u)(h:∀s',Inv X pins σ H s'->Q (.bool o.isSome) s'):wpAny (model X.prog X.w) A (compareOp .In u (.ref a)) Q E s:=by
 rcases g with⟨kvs,k,e,ey,l⟩|⟨kvs,k,b,e,ey,eb,l⟩
 ·subst ey;obtain⟨z,hd,vs,rel,dd⟩:=tG I.hok e;refine wpAny_in_of (pG ry) hd dd.mapOf ?_;rw[<-(rel.val k).isSome_eq,<-l];exact h _ (I.tok _)
 ·subst ey;cases(show u=Value.ref b from ry);obtain⟨z,hd,xs,rel,dd⟩:=uL I.hok e;refine wpAny_in_heap (tupleKind_room_in1 hu) (rO I.hok eb) hd dd ?_;have q:=(rel.val k).isSome_eq;rw[xh]at q;rw[<-q,<-l];exact h _ (I.tok _)
theorem F6{Q:Value->Shared->Prop}(hu:A.units+1<cLine)(I:Inv X pins σ H s)(g:lR H a y o)(ry:RelV y u)(h:∀s',Inv X pins σ H s'->Q (.bool (!o.isSome)) s'):wpAny (model X.prog X.w) A (compareOp .NotIn u (.ref a)) Q E s:=by
 rcases g with⟨kvs,k,e,ey,l⟩|⟨kvs,k,b,e,ey,eb,l⟩
 ·subst ey;obtain⟨z,hd,vs,rel,dd⟩:=tG I.hok e;refine wpAny_notIn_of (pG ry) hd dd.mapOf ?_;rw[<-(rel.val k).isSome_eq,<-l];exact h _ (I.tok _)
 ·subst ey;cases(show u=Value.ref b from ry);obtain⟨z,hd,xs,rel,dd⟩:=uL I.hok e;refine wpAny_notIn_heap (tupleKind_room_in1 hu) (rO I.hok eb) hd dd ?_;have q:=(rel.val k).isSome_eq;rw[xh]at q;rw[<-q,<-l];exact h _ (I.tok _)
theorem qH{h':Heap}{t':Nat}{ob:HO}(I:Inv X pins σ H s)(mu:Fz (H a))(hs:Heap.SameBut a s.heap h')(he:∃q,h'.get? a=some q)(new:fS X.prog X.w (upd H a ob) h' a ob):Inv X pins σ (upd H a ob) {s with heap:=h',toks:=t'}:=I.write (x:=a) (e:=a) mu (.inl rfl) (λb q hb z=>(hs.2 b hb).trans z) he new
theorem yk{P:Program}{w:World}{H':Hp}{h':Heap}{kvs:List (Key×V)}{vs:List (Key×Value)}(z:kvs.length<=sizeLine)(hd:(a==sysModules)=false)(rel:KV kvs vs)(dd:h'.DictOf (cM P w) a vs):fS P w H' h' a (.dK kvs):=⟨z,hd,vs,rel,dd⟩
theorem CQ{H':Hp}{Q:Unit->Shared->Prop}(hu:A.units+1<cLine)(I:Inv X pins σ H s)(g:kD H a y v H')(ry:RelV y u)(rv:RelV v r)(h:∀s',Inv X pins σ H' s'->Q () s'):wpAny (model X.prog X.w) A (setItem (.ref a) u r) Q E s:=by
 rcases g with⟨kvs,k,e,ey,l,eH⟩|⟨kvs,k,b,e,ey,eb,l,eH⟩
 ·subst ey eH;obtain⟨z,hd,vs,rel,dd⟩:=B7 I.hok e;have hz:vs.length<=sizeLine:=by rw[<-rel.length];exact z
  have hl:(putK kvs k v).length<=sizeLine:=by have:=kL kvs k v;omega
  refine wpAny_setItem_pairs (hsz:=hz) (pG ry) dd λh' dd' hs=>h _ ?_;have he:∃q,h'.get? a=some q:=let⟨q,_,_,hq,_⟩:=dd';⟨q,hq⟩;exact qH I (by rw[e];exact True.intro) hs he (yk hl hd (rel.put k rv) dd')
 ·subst ey eH;cases(show u=Value.ref b from ry);obtain⟨z,hd,xs,rel,dd⟩:=IP I.hok e;have hz:xs.length<=sizeLine:=by rw[<-Paired.length rel];exact z
  have hl:(putK kvs k v).length<=sizeLine:=by have:=kL kvs k v;omega
  refine wpAny_setItem_heap (hsz:=hz) (tupleKind_room_in1 hu) (rO I.hok eb) dd λh' dd' hs=>h _ ?_;obtain⟨q,es,ep,hq,h2,h3,h4,_,h5⟩:=dd';refine qH I (by rw[e];exact True.intro) hs ⟨q,hq⟩ ⟨hl,hd,_,(rel.put k eb rv).keeps λc ys ec=>?_,q,es,ep,hq,h2,h3,h4,h5⟩;rw[aA (cn ec e (λz=>nomatch z))];exact ec
end
section
variable {X:Cx}{pins:List (Addr×Obj)}{σ:St}{H:Hp}{s:Shared}{a:Addr}{kvs:List (Key×V)}{k:Key}{u:Value}{A:Around}{E:Value->Shared->Prop}
theorem Ir{Q:Unit->Shared->Prop}(I:Inv X pins σ H s)(e:H a=some (.dK kvs))(ry:RelV (kV k) u)(l:(dZ kvs k).isSome=true)(h:∀s',Inv X pins σ (upd H a (.dK (pE kvs k))) s'->Q () s'):wpAny (model X.prog X.w) A (delItem (.ref a) u) Q E s:=by obtain⟨z,hd,vs,rel,dd⟩:=B7 I.hok e;refine wpAny_delItem_slot dd.typeIs (by decide) Cy (call_meetsIn Cy dd.typeIs PySem.F.entry_dict_delitem (PySem.F.args_dict_delitem_2 _ _) (meets_dict_delitem_pairs (cM X.prog X.w) a (pG ry)) ⟨vs,dd,by rw[<-rel.length];exact z,by rw[<-(rel.val k).isSome_eq];exact l,λh' dd' hs=>h _ ?_⟩);have he:∃q,h'.get? a=some q:=let⟨q,_,_,hq,_⟩:=dd';⟨q,hq⟩;exact qH I (by rw[e];exact True.intro) hs he (yk (ay (zy kvs k) z) hd (rel.drop k) dd')
theorem IQ{v:V}{more:List Value}{Q:Value->Shared->Prop}(I:Inv X pins σ H s)(e:H a=some (.dK kvs))(ry:RelV (kV k) u)(l:dZ kvs k=some v)(hm:more=[]\/∃x,more=[x])(h:∀w' s',Inv X pins σ (upd H a (.dK (pE kvs k))) s'->RelV v w'->Q w' s'):wpAny (model X.prog X.w) A (call (.builtin "dict.pop") (.ref a::u::more)) Q E s:=by
 obtain⟨z,hd,vs,rel,dd⟩:=B7 I.hok e;obtain⟨w',hw,rw'⟩:=mf.some_of (v:=v) (o:=valueAt vs k) (by rw[<-l];exact rel.val k);have hp:(keyPart u).isSome=true:=by
  cases k with
  |inl i=>obtain⟨t,q⟩:=(show ∃t,u=Value.int i t from ry);subst q;rfl
  |inr x=>obtain⟨t,q⟩:=(show ∃t,u=Value.str x t from ry);subst q;rfl
 have ha:argsOk "dict.pop" ⟨.ref a::u::more,[]⟩:=by
  rcases hm with q|⟨x,q⟩
  ·subst q;exact PySem.F.args_dict_pop_2 _ _
  ·subst q;exact PySem.F.args_dict_pop_3 _ _ _
 refine call_meetsIn FD dd.typeIs PySem.F.entry_dict_pop ha (meets_dict_pop_there (cM X.prog X.w) a (pG ry) more hm hp) ⟨vs,w',dd,by rw[<-rel.length];exact z,hw,λh' dd' hs=>h w' _ ?_ rw'⟩;have he:∃q,h'.get? a=some q:=let⟨q,_,_,hq,_⟩:=dd';⟨q,hq⟩;exact qH I (by rw[e];exact True.intro) hs he (yk (ay (zy kvs k) z) hd (rel.drop k) dd')
theorem IS{Q:Value->Shared->Prop}(I:Inv X pins σ H s)(e:Rd H a (.dK kvs))(h:∀t s',Inv X pins σ H s'->Q (.int kvs.length t) s'):wpAny (model X.prog X.w) A (call (.builtin "len") [.ref a]) Q E s:=by obtain⟨z,hd,vs,rel,dd⟩:=tG I.hok e;refine call_len_dict hd dd (by rw[<-rel.length];rw[sizeLine_eq]at z;omega) ?_;rw[<-rel.length];exact h _ _ (I.tok _)
end
def IT(i:Expr):Prop:=∀ov iv,subscripted i false ov iv=operate [ov,iv] (getItem ov iv)
theorem F7{prog:Program}{w:World}{A:Around}{E:Value->Shared->Prop}{s:Shared}{env:Env}{value slice:Expr}{pos:Pos}{T id:String}{Q:Value->Shared->Prop}(hl:typeLookup (.type T) "__getitem__"=pure (some (.builtin id)))(hs:IT slice)(h:wpAny (model prog w) A (eval value env) (λo s₁=>wpAny (model prog w) A (eval slice env) (λi s₂=>s₂.TypeIs o T/\wpAny (model prog w) A (getItem o i) Q E s₂) E s₁) E s):wpAny (model prog w) A (eval (.Subscript value slice pos) env) Q E s:=by
 refine Subscript_ (wpAny_mono h (λo s₁ h₁=>wpAny_mono h₁ (λi s₂ h₂=>?_) λ_ _ x=>x) λ_ _ x=>x);obtain⟨hT,h₂⟩:=h₂;unfold subscriptTail;refine wpAny_bind ?_;rw[getitemInPython_of_ne hT.not_modules];refine wpAny_bind (wpAny_specialOf hT hl ?_);have fin:wpAny (model prog w) A (subscripted slice false o i) (λr s₃=>wpAny (model prog w) A (letTemporaryGo value o r>>=λ_=>pure r) Q E s₃) E s₂:=by rw[hs o i];exact wpAny_operating (wpAny_mono h₂ (λr s₃ h₃=>wpAny_bind (wpAny_letTemporaryGo (wpAny_pure h₃))) λ_ _ x=>x)
 first
  |exact wpAny_pure (wpAny_bind fin)
  |exact wpAny_bind (wpAny_pure (wpAny_bind fin))
  |exact wpAny_bind fin
theorem zA{X:Cx}{pins:List (Addr×Obj)}{σ:St}{H:Hp}{s:Shared}{a:Addr}{y:V}{o:Option V}(I:Inv X pins σ H s)(g:lR H a y o):s.TypeIs (.ref a) "dict":=by
 rcases g with⟨kvs,k,e,_,_⟩|⟨kvs,k,b,e,_,_,_⟩
 ·obtain⟨_,_,vs,_,dd⟩:=tG I.hok e;exact dd.typeIs
 ·obtain⟨_,_,xs,_,dd⟩:=uL I.hok e;exact dd.typeIs
def xD(td ty:TE):TE:=λσ H Q=>td σ H λx H1=>ty σ H1 λy H2=>∃a v,x=.ref a/\lR H2 a y (some v)/\Q v H2
def tDIn(ty td:TE):TE:=λσ H Q=>ty σ H λy H1=>td σ H1 λx H2=>∃a o,x=.ref a/\lR H2 a y o/\Q (.bl o.isSome) H2
def B8(ty td:TE):TE:=λσ H Q=>ty σ H λy H1=>td σ H1 λx H2=>∃a o,x=.ref a/\lR H2 a y o/\Q (.bl (!o.isSome)) H2
def B9(td ty tv:TE):TS:=λD σ H=>tv σ H λv H1=>td σ H1 λx H2=>ty σ H2 λy H3=>∃a H4,x=.ref a/\kD H3 a y v H4/\D.nx σ H4
section
variable {X:Cx}{o i e value:Expr}{pos pos' tpos:Pos}{td ty tv:TE}
theorem cp(hu:X.A.units+1<cLine)(ho:PE X o td)(hi:PE X i ty)(hs:IT i):PE X (.Subscript o i pos) (xD td ty):=by intro pins s σ H Q I h;refine F7 PySem.F.slot_dict_getitem.lookup hs (eR (ho pins s σ H _ I h) λu s1⟨x,H1,I1,rx,q1⟩=>eR (hi pins s1 σ H1 _ I1 q1) λiv s2⟨y,H2,I2,ry,a,v,ex,g,q2⟩=>?_);subst ex;obtain rfl:u=Value.ref a:=rx;exact⟨zA I2 g,CP hu I2 g ry λw' s3 I3 rw'=>⟨v,H2,I3,rw',q2⟩⟩
theorem nY(hu:X.A.units+1<cLine)(hi:PE X i ty)(ho:PE X o td):PC X .In i o (tDIn ty td):=by intro pins s σ H Q I h;refine eR (hi pins s σ H _ I h) λiv s1⟨y,H1,I1,ry,q1⟩=>eR (ho pins s1 σ H1 _ I1 q1) λu s2⟨x,H2,I2,rx,a,ov,ex,g,q2⟩=>?_;subst ex;obtain rfl:u=Value.ref a:=rx;exact d_in hu I2 g ry λs3 I3=>⟨.bl ov.isSome,H2,I3,rfl,q2⟩
theorem gw(hu:X.A.units+1<cLine)(hi:PE X i ty)(ho:PE X o td):PC X .NotIn i o (B8 ty td):=by intro pins s σ H Q I h;refine eR (hi pins s σ H _ I h) λiv s1⟨y,H1,I1,ry,q1⟩=>eR (ho pins s1 σ H1 _ I1 q1) λu s2⟨x,H2,I2,rx,a,ov,ex,g,q2⟩=>?_;subst ex;obtain rfl:u=Value.ref a:=rx;exact F6 hu I2 g ry λs3 I3=>⟨.bl (!ov.isSome),H2,I3,rfl,q2⟩
theorem d9(hu:X.A.units+1<cLine)(ho:PE X o td)(hi:PE X i ty)(hv:PE X value tv)(hs:swapsWith value (some (.Subscript o i pos')) pos.line X.env=pure false):PS X (.Assign [.Subscript o i pos'] value pos) (B9 td ty tv):=by intro pins s σ H D I h;refine wpAny_Assign_Subscript (eR (hv pins s σ H _ I h) λr s1⟨v,H1,I1,rv,q1⟩=>eR (ho pins s1 σ H1 _ I1 q1) λu s2⟨x,H2,I2,rx,q2⟩=>eR (hi pins s2 σ H2 _ I2 q2) λiv s3⟨y,H3,I3,ry,a,H4,ex,g,q3⟩=>?_) hs;subst ex;obtain rfl:u=Value.ref a:=rx;exact CQ hu I3 g ry rv λs4 I4=>⟨σ,H4,I4,q3⟩
end
theorem zB{P:Program}{w:World}{H:Hp}(h:Heap)(hb:sysModules<h.objs.size):fS P w H (h.push {cls:=.type "dict",data:=.dict #[]}) h.objs.size (.dK []):=⟨aV _,beq_eq_false_iff_ne.mpr (l_ (bF hb)),[],.nil,Heap.DictOf.new h⟩
def Hz:TE:=λ_ H Q=>∀p,H p=none->Q (.ref p) (upd H p (.dK []))
section
variable {X:Cx}{pos:Pos}
theorem cW:PE X (.Dict [] [] pos) Hz:=λpins s σ H Q I h=>
 wpAny_Dict_empty ⟨.ref s.heap.objs.size,_,I.laid (a:=s.heap.objs.size) (o:=.dK []) (t':=s.toks) (λ_ _ q=>Heap.get?_push_of_some _ q) (aN _) (zB s.heap I.big),rfl,h _ (I.hok.fresh (aN _))⟩
end
def AX:List (TE×TE)->St->Hp->(List (V×V)->Hp->Prop)->Prop
 |[],_,H,Q=>Q [] H
 |(tk,tv)::r,σ,H,Q=>tk σ H λx H1=>tv σ H1 λy H2=>AX r σ H2 λps H3=>Q ((x,y)::ps) H3
abbrev VV:List (V×V)->List (Value×Value)->Prop:=Paired λp q=>RelV p.1 q.1/\RelV p.2 q.2
def Jp(X:Cx)(pos:Pos)(keys:List (Option Expr))(values:List Expr)(trs:List (TE×TE)):Prop:=∀(pins:List (Addr×Obj))(s:Shared)(σ:St)(H:Hp)(Q:List (V×V)->Hp->Prop),Inv X pins σ H s->AX trs σ H Q->wpAny (model X.prog X.w) X.A (evalPairs (pairTrees keys values X.env pos)) (λvs s'=>∃ps H',Inv X pins σ H' s'/\VV ps vs/\Q ps H') X.xe s
theorem F8{X:Cx}{pos:Pos}:Jp X pos [] [] []:=λpins s σ H Q I h=>pairTrees_nil_walk ⟨[],H,I,.nil,h⟩
theorem Eg{X:Cx}{pos:Pos}{k v:Expr}{ks:List (Option Expr)}{vs:List Expr}{tk tv:TE}{trs:List (TE×TE)}(hk:PE X k tk)(hv:PE X v tv)(hr:Jp X pos ks vs trs):Jp X pos (some k::ks) (v::vs) ((tk,tv)::trs):=λpins s σ H Q I h=>
 pairTrees_cons_walk (eR (hk pins s σ H _ I h) λu s1⟨x,H1,I1,rx,q1⟩=>eR (hv pins s1 σ H1 _ I1 q1) λw2 s2⟨y,H2,I2,ry,q2⟩=>
  eR (hr pins s2 σ H2 _ I2 q2) λws s3⟨ps,H3,I3,rel,q3⟩=>⟨(x,y)::ps,H3,I3,.cons ⟨rx,ry⟩ rel,q3⟩)
def iM(kvs more:List (Key×V)):List (Key×V):=more.foldl (λacc kv=>putK acc kv.1 kv.2) kvs
theorem KV.merge:∀{more:List (Key×V)}{rs:List (Key×Value)}{kvs:List (Key×V)}{vs:List (Key×Value)},KV more rs->KV kvs vs->KV (iM kvs more) (merged vs rs):=by
 intro more rs kvs vs r;unfold KV at r;induction r generalizing kvs vs with
 |nil=>intro q;exact q
 |@cons p q ps qs h t ih=>
  intro r0
  have e:KV (putK kvs p.1 p.2) (stored vs q.1 q.2):=by have:=r0.put p.1 h.2;rw[<-h.1];exact this
  exact ih e
theorem k4:∀(more kvs:List (Key×V)),(iM kvs more).length<=kvs.length+more.length
 |[],kvs=>by show kvs.length<=kvs.length+0;omega
 |p::r,kvs=>by have h1:=k4 r (putK kvs p.1 p.2);have h2:=kL kvs p.1 p.2;show(iM (putK kvs p.1 p.2) r).length<=_;rw[bG];omega
theorem uN{P:Program}{w:World}:∀{kvs:List (Key×V)}{ws:List (Value×Value)},VV (kvs.map λkv=>(kV kv.1,kv.2)) ws->∃rs,Carries (cM P w) ws rs/\KV kvs rs
 |[],_,r=>by rw[jA]at r;cases r;exact⟨[],True.intro,.nil⟩
 |p::kvs,_,r=>by
  rw[bo]at r;cases r with
  |@cons a b as bs h t=>
   obtain⟨rs,c,q⟩:=uN (P:=P) (w:=w) t
   obtain⟨b1,b2⟩:=b
   exact⟨(p.1,b2)::rs,⟨pG h.1,rfl,c⟩,.cons ⟨rfl,h.2⟩ q⟩
def IU(trs:List (TE×TE)):TE:=λσ H Q=>∀p,H p=none->AX trs σ (upd H p (.dK [])) λps H2=>H2 p=some (.dK [])/\∃kvs:List (Key×V),ps=kvs.map (λkv=>(kV kv.1,kv.2))/\kvs.length<=15/\Q (.ref p) (upd H2 p (.dK (iM [] kvs)))
theorem F9{X:Cx}{pos:Pos}{keys:List (Option Expr)}{values:List Expr}{trs:List (TE×TE)}(h:Jp X pos keys values trs)(hall:keys.all (·.isSome)=true)(hl:keys.length=values.length)(h0:keys≠[])(h15:keys.length<=15):PE X (.Dict keys values pos) (IU trs):=by
 intro pins s σ H Q I q;have hn:=I.hok.fresh (aN s.heap.objs.size);have I1:=I.laid (a:=s.heap.objs.size) (o:=.dK []) (h':=s.heap.push {cls:=.type "dict",data:=.dict #[]}) (t':=s.toks) (λ_ _ q=>Heap.get?_push_of_some _ q) (aN _) (zB s.heap I.big);refine wpAny_Dict_walk (knd:=cM X.prog X.w) hall hl h0 h15 (eR (h pins _ σ _ _ I1 (q _ hn)) λws s2⟨ps,H2,I2,rel,e,kvs,ep,lk,q2⟩=>?_);subst ep;obtain⟨rs,c,rk⟩:=uN (P:=X.prog) (w:=X.w) rel;obtain⟨z,hd,vs0,r0,dd⟩:=B7 I2.hok e;cases r0;refine⟨rs,c,dd,λh' dd' hs=>⟨.ref s.heap.objs.size,_,?_,rfl,q2⟩⟩;have hz:(iM [] kvs).length<=sizeLine:=by have h1:=k4 kvs [];rw[qB]at h1;rw[sizeLine_eq];omega
 have he:∃q,h'.get? s.heap.objs.size=some q:=let⟨q,_,_,hq,_⟩:=dd';⟨q,hq⟩;exact qH I2 (by rw[e];exact True.intro) hs he (yk hz hd (rk.merge .nil) dd')
structure M1(X:Cx)(o:Expr)(m:Str)(apos:Pos)(e:Expr)(cpos:Pos):Prop where
 base:attributeBase o m X.env (eval o X.env)=eval o X.env
 few:((backTo cpos (starEach [e] X.env)).all (λx=>!x.1)&&(backToKw cpos (keywordEach [] X.env)).all (λx=>x.1.isSome)&&decide (([e]:List Expr).length+([]:List Keyword).length+(if([]:List Keyword).isEmpty then 0 else 1)<30))=true
 line:(apos.endLine==cpos.line)=true
 trees:backTo cpos (starEach [e] X.env)=[(false,eval e X.env)]
structure M2(X:Cx)(o:Expr)(m:Str)(apos:Pos)(e f:Expr)(cpos:Pos):Prop where
 base:attributeBase o m X.env (eval o X.env)=eval o X.env
 few:((backTo cpos (starEach [e,f] X.env)).all (λx=>!x.1)&&(backToKw cpos (keywordEach [] X.env)).all (λx=>x.1.isSome)&&decide (([e,f]:List Expr).length+([]:List Keyword).length+(if([]:List Keyword).isEmpty then 0 else 1)<30))=true
 line:(apos.endLine==cpos.line)=true
 trees:backTo cpos (starEach [e,f] X.env)=[(false,eval e X.env),(false,eval f X.env)]
def IsD(H:Hp)(a:Addr):Prop:=(∃kvs,Rd H a (.dK kvs))\/∃kvs,Rd H a (.dT kvs)
theorem Eh{X:Cx}{pins:List (Addr×Obj)}{σ:St}{H:Hp}{s:Shared}{a:Addr}(I:Inv X pins σ H s)(d:IsD H a):s.TypeIs (.ref a) "dict"/\(∀b,Value.ref a=.ref b->∃ob,s.heap.get? b=some ob/\ob.dict=none)/\(a==sysModules)=false:=by
 rcases d with⟨kvs,e⟩|⟨kvs,e⟩
 ·obtain⟨_,hd,vs,_,dd⟩:=tG I.hok e;refine⟨dd.typeIs,λb q=>?_,hd⟩;cases q;obtain⟨ob,_,_,h1,h2,_⟩:=dd;exact⟨ob,h1,h2.2.1⟩
 ·obtain⟨_,hd,xs,_,dd⟩:=uL I.hok e;refine⟨dd.typeIs,λb q=>?_,hd⟩;cases q;obtain⟨ob,_,_,h1,h2,_⟩:=dd;exact⟨ob,h1,h2.2.1⟩
section
variable {X:Cx}{pins:List (Addr×Obj)}{σ:St}{H:Hp}{s:Shared}{a:Addr}{y d:V}{u r:Value}{o:Option V}{A:Around}{E:Value->Shared->Prop}
theorem HA{Q:Value->Shared->Prop}(hu:A.units+1<cLine)(I:Inv X pins σ H s)(g:lR H a y o)(ry:RelV y u)(rd:RelV d r)(h:∀w' s',Inv X pins σ H s'->RelV (o.getD d) w'->Q w' s'):wpAny (model X.prog X.w) A (call (.builtin "dict.get") [.ref a,u,r]) Q E s:=by
 rcases g with⟨kvs,k,e,ey,l⟩|⟨kvs,k,b,e,ey,eb,l⟩
 ·subst ey;obtain⟨z,hd,vs,rel,dd⟩:=tG I.hok e;refine call_meetsIn rD dd.typeIs Fv (DJ _ _ _) (meets_dict_get_default (cM X.prog X.w) a (pG ry) hd r) ⟨_,dd.mapOf,h _ _ (I.tok _) ?_⟩;rw[l];exact(rel.val k).getD rd
 ·subst ey;cases(show u=Value.ref b from ry);obtain⟨z,hd,xs,rel,dd⟩:=uL I.hok e;refine call_meetsIn rD dd.typeIs Fv (DJ _ _ _) (meetsH_dict_get_default (tupleKind (cM X.prog X.w)) a b hd r) ⟨tupleKind_room_in1 hu,k,xs,rO I.hok eb,dd,h _ _ (I.tok _) ?_⟩;rw[l];exact(rel.val k).getD rd
end
def HB(td ty tx:TE):TE:=λσ H Q=>td σ H λx H1=>∃a,x=.ref a/\IsD H1 a/\ty σ H1 λy H2=>tx σ H2 λz H3=>∃o,lR H3 a y o/\Q (o.getD z) H3
def HC(td ty:TE):TE:=λσ H Q=>td σ H λx H1=>∃a,x=.ref a/\IsD H1 a/\ty σ H1 λy H2=>∃kvs k v,H2 a=some (.dK kvs)/\y=kV k/\dZ kvs k=some v/\Q v (upd H2 a (.dK (pE kvs k)))
section
variable {X:Cx}{o e f:Expr}{apos cpos:Pos}{td ty tx:TE}
theorem Ei(hu:X.A.units+1<cLine)(ho:PE X o td)(he:PE X e ty)(hf:PE X f tx)(m:M2 X o "get" apos e f cpos):PE X (.Call (.Attribute o "get" apos) [e,f] [] cpos) (HB td ty tx):=by
 intro pins s σ H Q I h;refine wpAny_Call_method m.base m.few m.line DK rD PySem.F.type_dict_get (eR (ho pins s σ H _ I h) λu s1⟨x,H1,I1,rx,a,ex,d,q1⟩=>?_);subst ex;obtain rfl:u=Value.ref a:=rx;obtain⟨t1,t2,_⟩:=Eh I1 d;refine⟨t1,t2,?_⟩;rw[m.trees];refine Calls.callWith_builtin rfl (Calls.evalArgs_plain (Calls.spliced_cons (eR (he pins s1 σ H1 _ I1 q1) λiv s2⟨y,H2,I2,ry,q2⟩=>
  Calls.spliced_cons (eR (hf pins s2 σ H2 _ I2 q2) λfv s3⟨z,H3,I3,rz,ov,g,q3⟩=>Calls.spliced_nil ?_))))
 exact HA hu I3 g ry rz λw' s4 I4 rw'=>⟨_,H3,I4,rw',q3⟩
theorem zC(ho:PE X o td)(he:PE X e ty)(m:M1 X o "pop" apos e cpos):PE X (.Call (.Attribute o "pop" apos) [e] [] cpos) (HC td ty):=by intro pins s σ H Q I h;refine wpAny_Call_method m.base m.few m.line DK FD PySem.F.type_dict_pop (eR (ho pins s σ H _ I h) λu s1⟨x,H1,I1,rx,a,ex,d,q1⟩=>?_);subst ex;obtain rfl:u=Value.ref a:=rx;obtain⟨t1,t2,_⟩:=Eh I1 d;refine⟨t1,t2,?_⟩;rw[m.trees];refine Calls.callWith_builtin rfl (Calls.evalArgs_plain (Calls.spliced_cons (eR (he pins s1 σ H1 _ I1 q1) λiv s2⟨y,H2,I2,ry,kvs,k,v,ea,ey,l,q2⟩=>Calls.spliced_nil ?_)));subst ey;exact IQ I2 ea ry l (.inl rfl) λw' s3 I3 rw'=>⟨v,_,I3,rw',q2⟩
end
section
variable {X:Cx}{pins:List (Addr×Obj)}{σ:St}{H:Hp}{s:Shared}{a:Addr}{kvs:List (Key×V)}{A:Around}{E:Value->Shared->Prop}
end
section
variable {X:Cx}{pins:List (Addr×Obj)}{σ:St}{H:Hp}{s:Shared}{a:Addr}{y:V}{u:Value}{A:Around}{E:Value->Shared->Prop}
end
end L2
namespace L2
open PySem PySem.Spec PyProof.Rows
theorem zD:entryFor table "dict.update.loop"=some Builtin.«dict.update.loop»:=entryFor_of_tree (by kernel_rfl)
theorem nZ:plainId "dict.update.loop"=true:=by decide+kernel
section
variable {prog:Program}{w:World}{A:Around}{E:Value->Shared->Prop}
end
section
variable {X:Cx}
end
end L2
namespace L2
open PySem PySem.Spec PyProof.Rows
theorem uO:bootBuiltins "reversed"=some (.type "reversed"):=by decide+kernel
section
variable {X:Cx}{pins:List (Addr×Obj)}{σ:St}{H:Hp}{s:Shared}{h':Heap}
theorem Inv.lock{d:Addr}{u:HO}(I:Inv X pins σ H s)(h:H d=some u)(mu:Fz (some u)):∃od,Inv X pins σ (upd H d (.frz od u)) s:=by
 have x:=I.hok d u h;have ex:∃od,s.heap.get? d=some od:=by
  cases u with
  |lst xs=>obtain⟨_,_,_,_,e⟩:=x;exact⟨_,e⟩
  |dK kvs=>obtain⟨_,_,_,_,o,_,_,e,_⟩:=x;exact⟨o,e⟩
  |dT kvs=>obtain⟨_,_,_,_,o,_,_,e,_⟩:=x;exact⟨o,e⟩
  |set S n=>obtain⟨o,_,_,_,e,_⟩:=x;exact⟨o,e⟩
  |ins C dx fs=>obtain⟨_,_,_,e,_⟩:=x;exact⟨_,e⟩
  |ext φ=>obtain⟨_,⟨_,e⟩,_⟩:=x;exact⟨_,e⟩
  |_=>exact dB mu
 obtain⟨od,e⟩:=ex;have new:fS X.prog X.w (upd H d (.frz od u)) s.heap d (.frz od u):=by
  refine⟨e,x.stay (λb v _ q=>q) (λb q=>?_) λb xs q=>?_⟩
  ·rw[aA (λz=>by rw[z,h]at q;cases q;exact mu)];exact q
  ·rw[aA (λz=>by rw[z,h]at q;cases q;exact mu)];exact q
 exact⟨od,I.write (x:=d) (e:=d) (t':=s.toks) (h':=s.heap) (by rw[h];exact mu) (.inl rfl) (λb v _ q=>q) ⟨od,e⟩ new⟩
theorem Inv.nofrz{d:Addr}{u:HO}(I:Inv X pins σ H s)(h:H d=some u)(mu:Fz (some u)):∀o' u',X.H_0 d≠some (.frz o' u'):=λo' u' e=>by have q:=I.base.frzs d o' u' e;rw[h]at q;cases q;exact mu
theorem Inv.unlock{d:Addr}{od:Obj}{u:HO}(I:Inv X pins σ H s)(h:H d=some (.frz od u))(hn:∀o' u',X.H_0 d≠some (.frz o' u')):Inv X pins σ (upd H d u) s:=by
 have neH:∀b o,H b=some o->(∀o' u',o≠.frz o' u')->b≠d:=λb o e hne z=>by rw[z,h]at e;cases e;exact hne _ _ rfl
 have neN:∀b,H b=none->b≠d:=λb e z=>by rw[z,h]at e;cases e
 refine⟨I.ok,I.os,I.bare,⟨I.base.keep,I.base.slot,λb o e n hx=>?_,I.base.there,λb xs e=>?_,λb o x e=>?_,λb ps e=>?_⟩,I.loc,I.cell,?_,λx c e=>?_,λp hp=>?_,λb o e=>?_,I.len⟩
 ·rw[aA (neN b (I.base.free b o e n hx))];exact I.base.free b o e n hx
 ·have q:=I.base.tups b xs e;rw[aA (neH b _ q (λ_ _ z=>nomatch z))];exact q
 ·have q:=I.base.frzs b o x e;rw[aA (λz=>by rw[z]at e;exact hn _ _ e)];exact q
 ·obtain⟨m,q⟩:=I.base.tbls b ps e;exact⟨m,by rw[aA (neH b _ q (λ_ _ z=>nomatch z))];exact q⟩
 ·rw[aA (neN _ I.free)];exact I.free
 ·rw[aA (neN c (I.freeC x c e))];exact I.freeC x c e
 ·obtain⟨e,n,r⟩:=I.pin p hp;exact⟨e,by rw[aA (neN _ n)];exact n,r⟩
 ·by_cases hb:b=d
  ·rw[hb,ao]at e;cases e;rw[hb];obtain⟨_,x⟩:=I.hok d _ h;exact x.stay (λc v _ q=>q) (λc q=>by rw[aA (neH c _ q (λ_ _ z=>nomatch z))];exact q) λc xs q=>by rw[aA (neH c _ q (λ_ _ z=>nomatch z))];exact q
  ·rw[aA hb]at e;exact(I.hok b o e).stay (λc v _ q=>q) (λc q=>by rw[aA (neH c _ q (λ_ _ z=>nomatch z))];exact q) λc xs q=>by rw[aA (neH c _ q (λ_ _ z=>nomatch z))];exact q
end
def GY(t:TS):TS:=λD σ H=>∃d u,H d=some u/\Fz (some u)/\∀od,t ⟨λσ' H'=>H' d=some (.frz od u)/\D.nx σ' (upd H' d u),λv H'=>H' d=some (.frz od u)/\D.rt v (upd H' d u),λσ' H'=>H' d=some (.frz od u)/\D.bk σ' (upd H' d u),λσ' H'=>H' d=some (.frz od u)/\D.ct σ' (upd H' d u)⟩ σ (upd H d (.frz od u))
def yl(t:TE):TE:=λσ H Q=>∃d u,H d=some u/\Fz (some u)/\∀od,t σ (upd H d (.frz od u)) λv H'=>H' d=some (.frz od u)/\Q v (upd H' d u)
section
variable {X:Cx}
theorem il{st:Stmt}{t:TS}(h:PS X st t):PS X st (GY t):=by
 intro pins s σ H D I hw;obtain⟨d,u,hd,mu,hw⟩:=hw;obtain⟨od,I1⟩:=I.lock hd mu;refine eR (h pins s σ _ _ I1 (hw od)) λf s1 q=>?_;cases f with
 |next=>obtain⟨σ',H',I2,e,q⟩:=q;exact⟨σ',_,I2.unlock e (I.nofrz hd mu),q⟩
 |brk=>obtain⟨σ',H',I2,e,q⟩:=q;exact⟨σ',_,I2.unlock e (I.nofrz hd mu),q⟩
 |cont=>obtain⟨σ',H',I2,e,q⟩:=q;exact⟨σ',_,I2.unlock e (I.nofrz hd mu),q⟩
 |ret v=>obtain⟨x,σ',H',I2,r,e,q⟩:=q;exact⟨x,σ',_,I2.unlock e (I.nofrz hd mu),r,q⟩
theorem mn{e:Expr}{t:TE}(h:PE X e t):PE X e (yl t):=by intro pins s σ H Q I hw;obtain⟨d,u,hd,mu,hw⟩:=hw;obtain⟨od,I1⟩:=I.lock hd mu;refine eR (h pins s σ _ _ I1 (hw od)) λv s1⟨x,H1,I2,r,e2,q⟩=>?_;exact⟨x,_,I2.unlock e2 (I.nofrz hd mu),r,q⟩
theorem rP{tg:Expr}{pins:List (Addr×Obj)}{σ:St}{H:Hp}{s:Shared}{R:It->Hp->Prop}{J:It}{tn:Nat->Heap->Prop}{tk:Nat}(I:Inv X pins σ H s)(o:Obj)(T:Turn X.prog X.w X.K tg J [s.heap.objs.size] s.heap.objs.size tn)(st:tn 0 (s.heap.push o))(q:R J H):PIE X pins σ tg R (.ref s.heap.objs.size) {s with heap:=s.heap.push o,toks:=tk}:=by
 refine⟨s.heap.objs.size,[s.heap.objs.size],tn,J,H,rfl,I.kept λb ob e=>Heap.get?_push_of_some _ e,T,st,λb hb=>?_,q⟩;have e:b=s.heap.objs.size:=by simpa using hb
 subst e;exact I.fpOk (aN _) (I.hok.fresh (aN _))
end
def IV(lo c:Int)(n:Nat):It:=⟨λi _=>i<n,λi H x H'=>H'=H/\x=.int (lo+(i:Nat)*c),λi _=>n<=i⟩
theorem zE{P:Program}{w:World}{K:aj}{tg:Expr}(it:Addr)(lo c:Int)(n:Nat):Turn P w K tg (IV lo c n) [it] it (λi h=>IsRangeIter h it (lo+(i:Nat)*c) ((n:Int)-(i:Nat)) c) where
 mem:=by simp
 obj:=λi h st b hb=>by
  have e:b=it:=by simpa using hb
  subst e;exact⟨_,st,λv z=>nomatch z⟩
 keep:=λi h h' st k=>k it (by simp) _ st
 item:=by intro X hP hw hK hc i pins s σ H E I hf st hg;subst hP hw hK;obtain⟨f0,f1,f2,f3,f4,f5⟩:=hf it (by simp);have W:=Walks.range (prog:=X.prog) (w:=X.w) (I.ok.hd hc) it lo c n;refine W.item i s _ _ hg st λv h' tk hv st' kk=>?_;obtain⟨t,rfl⟩:=hv;have I1:Inv X pins σ H {s with heap:=h',toks:=tk}:=I.turned (λb o hb e=>kk b o (by simpa using hb) e) f0 f1 f3 f4 f5;exact⟨_,rfl,uB (s:={s with heap:=h',toks:=tk}) (n:="range_iterator") st' rfl rfl (by decide) ⟨.int (lo+(i:Nat)*c),H,I1,⟨t,rfl⟩,⟨rfl,rfl⟩,st',λb hb=>(hf b hb).1⟩⟩
 done:=by intro X hP hw hK hc i pins s σ H E I hf st hg;subst hP hw hK;obtain⟨f0,f1,f2,f3,f4,f5⟩:=hf it (by simp);exact wpAny_pyNext_range_end (I.ok.hd hc) st (by have:n<=i:=hg;omega) λh' eb=>⟨rfl,I.turned (t':=s.toks) (λb o hb e=>eb b o hb e) f0 f1 f3 f4 f5⟩
 self:=λA i s Q E st h=>wpAny_pyIter_rangeiter st h
def RgC(i j c:Int)(n:Nat):Prop:=c≠0/\c.natAbs<1073741824/\Builtin.Range.small i j c=true/\Builtin.Range.rangeSize i j c=n
def IW(ta:TA):TI:=λσ H R=>ta σ H λvs H1=>∃(i j c:Int)(n:Nat),vs=[.int i,.int j,.int c]/\RgC i j c n/\R (IV i c n) H1
section
variable {X:Cx}{tg:Expr}
theorem xE{a b c:Expr}{ta:TA}{p pos:Pos}(hg:Gl X "range")(hm:X.mg "range"=none)(ha:PA X [a,b,c] ta)(hs:starEach [a,b,c] X.env=(false,eval a X.env)::starEach [b,c] X.env:=by rfl)(hpl:(backTo pos (starEach [b,c] X.env)).any (·.1)=false:=by rfl):PI X tg (.Call (.Name "range" p) [a,b,c] [] pos) (IW ta):=by
 intro pins s σ H R I h;refine Call_ (rH I hg hm boot_range (eU (eR (ha pos pins s σ H _ I h) λus s1⟨vs,H1,I1,r1,q1⟩=>?_) hs hpl));obtain⟨i,j,k,n,e,⟨c0,c1,c2,c3⟩,q⟩:=q1;subst e;cases r1 with
 |cons r rr=>
  cases rr with
  |cons r' rr=>
   cases rr with
   |cons r'' rr=>
    cases rr
    obtain⟨t,rfl⟩:=r
    obtain⟨t',rfl⟩:=r'
    obtain⟨t'',rfl⟩:=r''
    refine call_range_3 c0 ?_ (.inl (PyProof.noPylong_small c1))
    refine wpAny_pyIter_range (IsRange.new ..) c2 ?_
    have I2:Inv X pins σ H1 {s1 with heap:=s1.heap.push {cls:=.type "range",data:=.fields #[.int i t,.int j t',.int k t'']}}:=I1.kept (t':=s1.toks) λb o e=>Heap.get?_push_of_some _ e
    refine rP (tk:=s1.toks) I2 _ (zE _ i k n) ?_ q
    have e1:i+((0:Nat):Int)*k=i:=by simp
    have e2:(n:Int)-((0:Nat):Int)=Builtin.Range.rangeSize i j k:=by rw[c3];simp
    show IsRangeIter _ _ (i+((0:Nat):Int)*k) ((n:Int)-((0:Nat):Int)) k
    rw[e1,e2]
    exact Heap.get?_push_size _ rfl
end
theorem AY{lo c:Int}{n:Nat}{g:TG}{tb:TS}{D:Ends}{σ:St}{H:Hp}(Pv:Nat->St->Hp->Prop)(h0:Pv 0 σ H)(hs:∀i σ H,i<n->Pv i σ H->g (.int (lo+(i:Nat)*c)) σ H λσ2 H2=>tb {D with nx:=Pv (i+1),ct:=Pv (i+1),bk:=D.nx} σ2 H2)(hd:∀σ H,Pv n σ H->D.nx σ H):∃W:Nat->Nat->St->Hp->Prop,(∃m,W 0 m σ H)/\∀i m σ H,W i m σ H->((IV lo c n).stop i H/\D.nx σ H)\/((IV lo c n).go i H/\∃N:St->Hp->Prop,(∀σ' H',N σ' H'->∃m',m'<m/\W (i+1) m' σ' H')/\∀x H',(IV lo c n).yld i H x H'->g x σ H' λσ2 H2=>tb {D with nx:=N,ct:=N,bk:=D.nx} σ2 H2):=by
 refine⟨λi m σ H=>m=n-i/\i<=n/\Pv i σ H,⟨n,by simp,aV _,h0⟩,?_⟩;rintro i m σ H⟨rfl,hi,p⟩;by_cases hlt:i<n
 ·refine .inr ⟨hlt,Pv (i+1),λσ' H' p'=>⟨n-(i+1),by omega,rfl,hlt,p'⟩,λx H' y=>?_⟩;obtain⟨e,y⟩:=y;subst e y;exact hs i σ _ hlt p
 ·have e:i=n:=by omega
  subst e;exact .inl ⟨aN _,hd σ H p⟩
def Itv(K:aj)(a:Addr)(n:Nat):It:=⟨λi H=>i<n/\∃(xs:List V)(x:V),bZ K H a xs/\xs[n-1-i]?=some x,λi H x H'=>H'=H/\∀xs,bZ K H a xs->xs[n-1-i]?=some x,λi _=>n<=i⟩
theorem Ej{P:Program}{w:World}{K:aj}{tg:Expr}(a it:Addr)(n:Nat):Turn P w K tg (Itv K a n) [it] it (λi h=>i<=n/\h.IsRevIter it a ((n:Int)-1-(i:Nat))) where
 mem:=by simp
 obj:=λi h st b hb=>by
  have e:b=it:=by simpa using hb
  subst e;obtain⟨_,o,e,c,d⟩:=st;exact⟨o,e,λv z=>by rw[d]at z;cases z⟩
 keep:=λi h h' st k=>⟨st.1,st.2.at λo e=>k it (by simp) o e⟩
 item:=by
  intro X hP hw hK hc i pins s σ H E I hf st hg;subst hP hw hK;obtain⟨hin,xs,x,hq,hx⟩:=hg;obtain⟨its,rv,p,hz⟩:=I.list hq;obtain⟨u,hu,ru⟩:=rv.get hx;obtain⟨f0,f1,f2,f3,f4,f5⟩:=hf it (by simp);obtain⟨_,hit⟩:=st;have e1:(n:Int)-1-((i:Nat):Int)=((n-1-i:Nat):Int):=by omega
  rw[e1]at hit;refine wpAny_pyNext_rev_item hit p.isList (x:=u) (by simpa using hu) λh' st' sb=>?_;have e2:((n-1-i:Nat):Int)-1=(n:Int)-1-((i+1:Nat):Int):=by omega
  rw[e2]at st';have I1:Inv X pins σ H {s with heap:=h'}:=I.turned (t':=s.toks) (λb o hb e=>(sb.2 b hb).trans e) f0 f1 f3 f4 f5;obtain⟨o,e,c,d⟩:=id st';exact⟨u,rfl,uB (s:={s with heap:=h'}) e c d (by decide) ⟨x,H,I1,ru,⟨rfl,λys hy=>by rw[I.list_inj hy hq];exact hx⟩,⟨hin,st'⟩,λb hb=>(hf b hb).1⟩⟩
 done:=by
  intro X hP hw hK hc i pins s σ H E I hf st hg;subst hP hw hK;obtain⟨f0,f1,f2,f3,f4,f5⟩:=hf it (by simp);obtain⟨hin,hit⟩:=st;have hge:n<=i:=hg;have e1:(n:Int)-1-((i:Nat):Int)=-1:=by omega
  rw[e1]at hit;exact wpAny_pyNext_rev_end (I.ok.hd hc) hit λh' eb=>⟨rfl,I.turned (t':=s.toks) (λb o hb e=>eb b o hb e) f0 f1 f3 f4 f5⟩
 self:=λA i s Q E st h=>wpAny_pyIter_revIter st.2 h
def iRev(K:aj)(ta:TA):TI:=λσ H R=>ta σ H λvs H1=>∃(a:Addr)(xs:List V),vs=[.ref a]/\bZ K H1 a xs/\R (Itv K a xs.length) H1
section
variable {X:Cx}{tg:Expr}
theorem zF{e:Expr}{ta:TA}{p pos:Pos}(hg:Gl X "reversed")(hm:X.mg "reversed"=none)(ha:PA X [e] ta)(hs:starEach [e] X.env=[(false,eval e X.env)]:=by rfl):PI X tg (.Call (.Name "reversed" p) [e] [] pos) (iRev X.K ta):=by
 intro pins s σ H R I h;refine Call_ (rH I hg hm uO (eU (eR (ha pos pins s σ H _ I h) λus s1⟨vs,H1,I1,r1,q1⟩=>?_) hs rfl));obtain⟨a,xs,e,hq,q⟩:=q1;subst e;cases r1 with
 |cons r rr=>
  cases rr
  cases r
  obtain⟨its,rv,p',hz⟩:=I1.list hq
  have hl:=rv.length
  have e1:((its.toArray.size:Nat):Int)-1=(xs.length:Int)-1-((0:Nat):Int):=by simp only[bg];omega
  refine call_reversed_list p'.isList (wpAny_pyIter_revIter (l:=a) (i:=((its.toArray.size:Nat):Int)-1) ⟨_,Heap.get?_push_size _ rfl,rfl,rfl⟩ ?_)
  refine rP (tk:=s1.toks) I1 _ (Ej a _ xs.length) ⟨aV _,?_⟩ q
  rw[<-e1]
  exact⟨_,Heap.get?_push_size _ rfl,rfl,rfl⟩
end
def IX(x:Str):It:=⟨λi _=>i<x.cps.size,λi H v H'=>H'=H/\∃c,x.cps[i]?=some c/\v=.str ⟨#[c]⟩,λi _=>x.cps.size<=i⟩
theorem zG{P:Program}{w:World}{K:aj}{tg:Expr}(it:Addr)(x:Str)(t:Tok)(ty:String)(hty:ty="str_ascii_iterator"\/ty="str_iterator"):Turn P w K tg (IX x) [it] it (λi h=>h.IsStrIter it ty x t i) where
 mem:=by simp
 obj:=λi h st b hb=>by
  have e:b=it:=by simpa using hb
  subst e;obtain⟨o,e,c,d⟩:=st;exact⟨o,e,λv z=>by rw[d]at z;cases z⟩
 keep:=λi h h' st k=>let⟨o,ho,r⟩:=st;⟨o,k it (by simp) o ho,r⟩
 item:=by
  intro X hP hw hK hc i pins s σ H E I hf st hg;subst hP hw hK;obtain⟨f0,f1,f2,f3,f4,f5⟩:=hf it (by simp);have W:Walks X.prog X.w X.A it [it] [it] x.cps.size (SignAt x) (λi h=>h.IsStrIter it ty x t i):=by
   rcases hty with e|e
   ·rw[e];exact Walks.strAscii (I.ok.hd hc) it x t
   ·rw[e];exact Walks.strWide (I.ok.hd hc) it x t
  have hno:["enumerate","zip","dict_itemiterator","dict_reverseitemiterator","odict_iterator","itertools.zip_longest","itertools.pairwise"].contains ty=false:=by
   rcases hty with e|e
   ·rw[e];decide
   ·rw[e];decide
  refine W.item i s _ _ hg st λv h' tk hv st' kk=>?_;obtain⟨c,u,hcx,rfl⟩:=hv;have I1:Inv X pins σ H {s with heap:=h',toks:=tk}:=I.turned (λb o hb e=>kk b o (by simpa using hb) e) f0 f1 f3 f4 f5;obtain⟨oi,e,cc,dd⟩:=id st';exact⟨_,rfl,uB (s:={s with heap:=h',toks:=tk}) e cc dd hno ⟨.str ⟨#[c]⟩,H,I1,⟨u,rfl⟩,⟨rfl,c,hcx,rfl⟩,st',λb hb=>(hf b hb).1⟩⟩
 done:=by
  intro X hP hw hK hc i pins s σ H E I hf st hg;subst hP hw hK;obtain⟨f0,f1,f2,f3,f4,f5⟩:=hf it (by simp);have hx:x.cps[i]?=none:=eV hg;rcases hty with e|e
  ·rw[e]at st;exact wpAny_pyNext_ascii_end (I.ok.hd hc) st hx λh' eb=>⟨rfl,I.turned (t':=s.toks) (λb o hb e=>eb b o hb e) f0 f1 f3 f4 f5⟩
  ·rw[e]at st;exact wpAny_pyNext_wide_end (I.ok.hd hc) st hx λh' eb=>⟨rfl,I.turned (t':=s.toks) (λb o hb e=>eb b o hb e) f0 f1 f3 f4 f5⟩
 self:=λA i s Q E st h=>by
  rcases hty with e|e
  ·rw[e]at st;exact wpAny_pyIter_striter_ascii st h
  ·rw[e]at st;exact wpAny_pyIter_striter_wide st h
def iStr(te:TE):TI:=λσ H R=>te σ H λv H1=>∃x,v=.str x/\R (IX x) H1
theorem HD{X:Cx}{tg e:Expr}{te:TE}(he:PE X e te):PI X tg e (iStr te):=by
 intro pins s σ H R I h;refine eR (he pins s σ H _ I h) λv s1⟨y,H1,I1,r1,x,ex,q⟩=>?_;subst ex;obtain⟨t,rfl⟩:=r1;cases ha:x.cps.all (·<128)
 ·exact wpAny_pyIter_wide ha (rP (tk:=s1.toks) I1 _ (zG _ x t "str_iterator" (.inr rfl)) ⟨_,Heap.get?_push_size _ rfl,rfl,rfl⟩ q)
 ·exact wpAny_pyIter_ascii ha (rP (tk:=s1.toks) I1 _ (zG _ x t "str_ascii_iterator" (.inl rfl)) ⟨_,Heap.get?_push_size _ rfl,rfl,rfl⟩ q)
section
variable {prog:Program}{w:World}{A:Around}{E:Value->Shared->Prop}{s:Shared}
theorem xF{d:Addr}{o:Obj}{es:Array DictEntry}{ep:Nat}{Q:Value->Shared->Prop}(hd:(d==sysModules)=false)(ho:s.heap.get? d=some o)(hc:o.ExactDict)(hdat:o.data=.dict es ep)(hQ:Q (.ref s.heap.objs.size) {s with heap:=s.heap.push {cls:=.type "dict_keyiterator",data:=.fields #[.ref d,.int 0 0,.int es.size 0,.int ep 0]}}):wpAny (model prog w) A (pyIter (.ref d)) Q E s:=by have hT:s.TypeIs (.ref d) "dict":=⟨o,ho,hc.1⟩;refine wpAny_pyIter_slot hT F.slot_dict_iter (wpAny_call_entry F.slot_dict_iter hT F.entry_dict_iter ?_ (F.args_dict_iter_1 _));unfold Builtin.«dict.__iter__»;refine wpAny_bind ?_;unfold Builtin.Dict.dictSlotNone;refine wpAny_bind (wpAny_notOrdered_dict hT ?_);show wpAny _ _ (pure (Value.ref d)) _ _ s;refine wpAny_pure ?_;show wpAny _ _ (Builtin.Dict.showsAll d>>=_) _ _ s;unfold Builtin.Dict.showsAll;rw[if_neg (by rw[hd];exact aI)];refine wpAny_bind (wpAny_pure ?_);refine wpAny_bind (wpAny_dictEntries ho hdat ?_);refine wpAny_bind (wpAny_dictEpoch ho hdat ?_);refine wpAny_bind (wpAny_newObj_type (wpAny_pure ⟨_,rfl,"dict_keyiterator",_,⟨_,Heap.get?_push_size _ rfl,rfl⟩,F.slot_dict_keyiterator_next.lookup,?_⟩));simpa[rawInt]using hQ
theorem wq{it d:Addr}{i n ep:Nat}{od:Obj}{es:Array DictEntry}{en:DictEntry}{Q:Option Value->Shared->Prop}(hit:s.heap.IsKeyIter it d i n ep)(hod:s.heap.get? d=some od)(hdd:od.data=.dict es ep)(hsz:es.size=n)(hx:es[i]?=some en)(hQ:∀h',h'.IsKeyIter it d (i+1) n ep->Heap.SameBut it s.heap h'->Q (some en.key) {s with heap:=h'}):wpAny (model prog w) A (pyNext (.ref it)) Q E s:=by
 obtain⟨o,ho,hc,hd⟩:=id hit;unfold pyNext;refine wpAny_bind (wpAny_attempt (wpAny_callSpecial?_slot (name:=Str.ofString "__next__") hit.typeIs F.slot_dict_keyiterator_next (wpAny_call_entry F.slot_dict_keyiterator_next hit.typeIs F.entry_dict_keyiterator_next ?_ (F.args_dict_keyiterator_next_1 _))));refine wpAny_bind (wpAny_pure ?_);refine wpAny_bind ?_;refine wpAny_bind ?_;first|refine wpAny_bind (wpAny_typeNameOfWhole_keyiter hit.typeIs (wpAny_pure ?_))|refine wpAny_bind (wpAny_typeNameOf_keyiter hit.typeIs (wpAny_pure ?_))
 refine wpAny_bind (wpAny_fieldsOf ho hd ?_);have hown:Builtin.Dict_items.ownsTuple "dict_keyiterator"=false:=by decide
 simp only[hown,cO,if_false];show wpAny _ _ (if(Value.ref d==Value.none)=true then _ else _) _ _ s;rw[if_neg (show ¬((Value.ref d==Value.none)=true)from aI)];refine wpAny_bind (wpAny_pure ?_);refine wpAny_bind (wpAny_dictEntries hod hdd ?_);rw[if_neg (by rw[hsz];simp)];refine wpAny_bind (wpAny_pure ?_);refine wpAny_bind (wpAny_dictEpoch hod hdd ?_);rw[if_neg (by simp)];refine wpAny_pure ?_;obtain⟨hlt',hen⟩:=BJ.mp hx;simp only[show ¬((i:Int)<0)from by omega,if_false,cy,bM hlt'];refine wpAny_bind ?_;first|refine wpAny_bind (wpAny_typeNameOfWhole_keyiter hit.typeIs (wpAny_pure ?_))|refine wpAny_bind (wpAny_typeNameOf_keyiter hit.typeIs (wpAny_pure ?_))
 refine wpAny_bind (wpAny_isOneOf_keyiter hit.typeIs ?_);show wpAny _ _ (setField (.ref it) 1 (rawInt ((i:Int)+1))>>=_) _ _ s;refine wpAny_bind (wpAny_setField ho hd (by simp) ?_);have hit':(s.heap.update it (Obj.mapFields (·.setIfInBounds 1 (rawInt ((i:Int)+1))))).IsKeyIter it d (i+1) n ep:=⟨_,Heap.get?_update_self _ ho (Obj.isFreed_of_fields (Obj.data_mapFields hd _)),(Obj.cls_mapFields ..).trans hc,by rw[Obj.data_mapFields hd];simp[rawInt]⟩;refine wpAny_bind (wpAny_holding ?_);refine wpAny_bind (wpAny_isOneOf_keyiter (s:={s with heap:=s.heap.update it (Obj.mapFields (·.setIfInBounds 1 (rawInt ((i:Int)+1))))}) hit'.typeIs ?_);show wpAny _ _ (pure es[i].key) _ _ _;rw[hen];exact wpAny_pure (wpAny_pure ⟨_,rfl,wpAny_pure (hQ _ hit' (Heap.SameBut.update ..))⟩)
theorem qI{it d:Addr}{i n ep:Nat}{od:Obj}{es:Array DictEntry}{Q:Option Value->Shared->Prop}(hh:A.handled=none)(hit:s.heap.IsKeyIter it d i n ep)(hod:s.heap.get? d=some od)(hdd:od.data=.dict es ep)(hsz:es.size=n)(hge:n<=i)(hQ:∀h',Heap.ExtBut it s.heap h'->Q none {s with heap:=h'}):wpAny (model prog w) A (pyNext (.ref it)) Q E s:=by
 obtain⟨o,ho,hc,hd⟩:=id hit;unfold pyNext;refine wpAny_bind (wpAny_attempt (wpAny_callSpecial?_slot (name:=Str.ofString "__next__") hit.typeIs F.slot_dict_keyiterator_next (wpAny_call_entry F.slot_dict_keyiterator_next hit.typeIs F.entry_dict_keyiterator_next ?_ (F.args_dict_keyiterator_next_1 _))));refine wpAny_bind (wpAny_pure ?_);refine wpAny_bind ?_;refine wpAny_bind ?_;first|refine wpAny_bind (wpAny_typeNameOfWhole_keyiter hit.typeIs (wpAny_pure ?_))|refine wpAny_bind (wpAny_typeNameOf_keyiter hit.typeIs (wpAny_pure ?_))
 refine wpAny_bind (wpAny_fieldsOf ho hd ?_);have hown:Builtin.Dict_items.ownsTuple "dict_keyiterator"=false:=by decide
 simp only[hown,cO,if_false];show wpAny _ _ (if(Value.ref d==Value.none)=true then _ else _) _ _ s;rw[if_neg (show ¬((Value.ref d==Value.none)=true)from aI)];refine wpAny_bind (wpAny_pure ?_);refine wpAny_bind (wpAny_dictEntries hod hdd ?_);rw[if_neg (by rw[hsz];simp)];refine wpAny_bind (wpAny_pure ?_);refine wpAny_bind (wpAny_dictEpoch hod hdd ?_);rw[if_neg (by simp)];refine wpAny_pure ?_;have hge':es.size<=i:=by rw[hsz];exact hge
 simp only[show ¬((i:Int)<0)from by omega,if_false,cy,eV hge'];refine wpAny_bind ?_;first|refine wpAny_bind (wpAny_typeNameOfWhole_keyiter hit.typeIs (wpAny_pure ?_))|refine wpAny_bind (wpAny_typeNameOf_keyiter hit.typeIs (wpAny_pure ?_))
 show wpAny _ _ (setField (.ref it) 0 .none>>=_) _ _ s;refine wpAny_bind (wpAny_setField ho hd (by simp) ?_);show wpAny _ _ (newExc (.type "StopIteration") []>>=_) _ _ _;refine wpAny_bind ?_;simp only[newExc,newTuple];refine wpAny_bind (wpAny_newObj_type ?_ (by size_fits));refine wpAny_bind (m:=firstArgMember _ _) (wpAny_of_eq (a:=Value.none) (by first|rfl|(simp only[firstArgMember];rfl)) ?_);refine wpAny_newObj_type ?_ (by size_fits);simp only[raiseNew];refine wpAny_bind (wpAny_handled ?_);rw[show A.in1.handled=none from hh];refine wpAny_bind (wpAny_pure (wpAny_throw ?_));refine wpAny_bind (wpAny_isInstance (T:="StopIteration") (b:=true) ⟨_,Heap.get?_push_size _ rfl,rfl⟩ isSubtype_stop ?_);exact wpAny_pure (hQ _ (((Heap.SameBut.update ..).extBut.push _).push _))
end
theorem HE{κ:Type}{kvs:List (κ×V)}{vs:List (κ×Value)}(h:KV kvs vs):∀{i:Nat}{k:κ}{v:V},kvs[i]?=some (k,v)->∃u,vs[i]?=some (k,u)/\RelV v u:=by
 unfold KV at h;induction h with
 |nil=>intro i k v e;simp at e
 |@cons a b l₁ l₂ r t ih=>
  intro i k v e
  cases i with
  |zero=>
   simp only[pB,cH]at e
   subst e
   refine⟨b.2,?_,r.2⟩
   simp only[pB]
   exact congrArg some (xi r.1.symm rfl)
  |succ j=>
   simp only[DL]at e⊢
   exact ih e
theorem AZ{α β:Type}{G:α->β->Prop}{l₁:List α}{l₂:List β}(h:Paired G l₁ l₂):∀{i:Nat}{a:α},l₁[i]?=some a->∃b,l₂[i]?=some b/\G a b:=by
 induction h with
 |nil=>intro i a e;simp at e
 |@cons a b l₁ l₂ r t ih=>
  intro i a' e
  cases i with
  |zero=>
   simp only[pB,cH]at e
   subst e
   exact⟨b,rfl,r⟩
  |succ j=>
   simp only[DL]at e⊢
   exact ih e
theorem Ek{k:Key}{u:Value}(h:nQ k u=true):RelV (kV k) u:=by
 rcases dY h with⟨i,t,rfl,rfl⟩|⟨x,t,rfl,rfl⟩
 ·exact⟨t,rfl⟩
 ·exact⟨t,rfl⟩
section
variable {X:Cx}{pins:List (Addr×Obj)}{σ:St}{H:Hp}{s:Shared}{d:Addr}{o:Obj}
theorem Inv.frzK{kvs:List (Key×V)}(I:Inv X pins σ H s)(h:H d=some (.frz o (.dK kvs))):(d==sysModules)=false/\s.heap.get? d=some o/\o.ExactDict/\∃(es:Array DictEntry)(ep:Nat)(vs:List (Key×Value)),o.data=.dict es ep/\es.size=kvs.length/\KV kvs vs/\s.heap.DictAt (cM X.prog X.w) d vs ep:=by obtain⟨hd,z,hs,vs,kv,o',es,ep,ho,hx,hdt,r⟩:=I.hok d _ h;rw[hd]at ho;cases ho;refine⟨hs,hd,hx,es,ep,vs,hdt,?_,kv,o,es,hd,hx,hdt,r⟩;have l1:=r.2.1.length;have l2:kvs.length=vs.length:=Paired.length kv;rw[dU]at l1;omega
theorem Inv.frzT{kvs:List (List Key×V)}(I:Inv X pins σ H s)(h:H d=some (.frz o (.dT kvs))):(d==sysModules)=false/\s.heap.get? d=some o/\o.ExactDict/\∃(es:Array DictEntry)(ep:Nat),o.data=.dict es ep/\es.size=kvs.length/\∀(i:Nat)(k:List Key)(v:V),kvs[i]?=some (k,v)->∃(en:DictEntry)(q:Addr),es[i]?=some en/\en.key=.ref q/\H q=some (.tup (k.map kV)):=by
 obtain⟨hd,z,hs,xs,pr,o',es,ep,ho,hx,hdt,he,_⟩:=I.hok d _ h;rw[hd]at ho;cases ho;refine⟨hs,hd,hx,es,ep,hdt,?_,λi k v e=>?_⟩
 ·have l1:es.size=xs.length:=size_of_entries he;have l2:kvs.length=xs.length:=Paired.length pr;omega
 ·obtain⟨b,hb,e1,e2,_⟩:=AZ pr e;have q:=entry_at he i;rw[hb]at q;exact⟨_,b.2.1,q,rfl,e2⟩
end
def IY(d:Addr)(o:Obj)(kvs:List (Key×V)):It:=⟨λi H=>H d=some (.frz o (.dK kvs))/\i<kvs.length,λi H x H'=>H'=H/\∃k v,kvs[i]?=some (k,v)/\x=kV k,λi H=>H d=some (.frz o (.dK kvs))/\kvs.length<=i⟩
def IZ(d:Addr)(o:Obj)(kvs:List (List Key×V)):It:=⟨λi H=>H d=some (.frz o (.dT kvs))/\i<kvs.length,λi H x H'=>H'=H/\∃(k:List Key)(v:V)(q:Addr),kvs[i]?=some (k,v)/\x=.ref q/\H q=some (.tup (k.map kV)),λi H=>H d=some (.frz o (.dT kvs))/\kvs.length<=i⟩
theorem uo{o:Obj}{es es':Array DictEntry}{ep ep':Nat}(h:o.data=.dict es ep)(h':o.data=.dict es' ep'):es'=es/\ep'=ep:=by rw[h]at h';cases h';exact⟨rfl,rfl⟩
section
variable {P:Program}{w:World}{K:aj}{tg:Expr}{d:Addr}{o:Obj}{es:Array DictEntry}{ep:Nat}
theorem CU{kvs:List (Key×V)}(it:Addr)(hod:o.data=.dict es ep):Turn P w K tg (IY d o kvs) [it] it (λi h=>h.IsKeyIter it d i kvs.length ep) where
 mem:=by simp
 obj:=λi h st b hb=>by
  have e:b=it:=by simpa using hb
  subst e;obtain⟨oi,e,c,dd⟩:=st;exact⟨oi,e,λv z=>by rw[dd]at z;cases z⟩
 keep:=λi h h' st k=>st.at λoi e=>k it (by simp) oi e
 item:=by intro X hP hw hK hc i pins s σ H E I hf st hg;subst hP hw hK;obtain⟨hd,hi⟩:=hg;obtain⟨f0,f1,f2,f3,f4,f5⟩:=hf it (by simp);obtain⟨hs,hgd,hx,es',ep',vs,hdt,hsz,kv,hm⟩:=I.frzK hd;obtain⟨rfl,rfl⟩:=uo hod hdt;obtain⟨⟨k,v⟩,hkv⟩:∃p,kvs[i]?=some p:=⟨kvs[i],bu hi⟩;obtain⟨u,hu,ru⟩:=HE kv hkv;have hl:kvs.length=vs.length:=Paired.length kv;rw[hl]at st;refine wpAny_pyNext_dict_item st hm hu λkey h' hkey st' sb=>?_;have I1:Inv X pins σ H {s with heap:=h'}:=I.turned (t':=s.toks) (λb ob hb e=>(sb.2 b hb).trans e) f0 f1 f3 f4 f5;obtain⟨oi,e,c,dd⟩:=id st';refine⟨key,rfl,uB (s:={s with heap:=h'}) e c dd (by decide) ⟨kV k,H,I1,Ek (show nQ k key=true from hkey),⟨rfl,k,v,hkv,rfl⟩,?_,λb hb=>(hf b hb).1⟩⟩;show h'.IsKeyIter it d (i+1) kvs.length _;rw[hl];exact st'
 done:=by intro X hP hw hK hc i pins s σ H E I hf st hg;subst hP hw hK;obtain⟨hd,hi⟩:=hg;obtain⟨f0,f1,f2,f3,f4,f5⟩:=hf it (by simp);obtain⟨hs,hgd,hx,es',ep',vs,hdt,hsz,kv,hm⟩:=I.frzK hd;obtain⟨rfl,rfl⟩:=uo hod hdt;exact qI (I.ok.hd hc) st hgd hdt hsz hi λh' eb=>⟨rfl,I.turned (t':=s.toks) (λb ob hb e=>eb b ob hb e) f0 f1 f3 f4 f5⟩
 self:=λA i s Q E st h=>wpAny_pyIter_keyiter st h
theorem A0{kvs:List (List Key×V)}(it:Addr)(hod:o.data=.dict es ep):Turn P w K tg (IZ d o kvs) [it] it (λi h=>h.IsKeyIter it d i kvs.length ep) where
 mem:=by simp
 obj:=λi h st b hb=>by
  have e:b=it:=by simpa using hb
  subst e;obtain⟨oi,e,c,dd⟩:=st;exact⟨oi,e,λv z=>by rw[dd]at z;cases z⟩
 keep:=λi h h' st k=>st.at λoi e=>k it (by simp) oi e
 item:=by intro X hP hw hK hc i pins s σ H E I hf st hg;subst hP hw hK;obtain⟨hd,hi⟩:=hg;obtain⟨f0,f1,f2,f3,f4,f5⟩:=hf it (by simp);obtain⟨hs,hgd,hx,es',ep',hdt,hsz,ent⟩:=I.frzT hd;obtain⟨rfl,rfl⟩:=uo hod hdt;obtain⟨⟨k,v⟩,hkv⟩:∃p,kvs[i]?=some p:=⟨kvs[i],bu hi⟩;obtain⟨en,q,hen,hkey,hq⟩:=ent i k v hkv;refine wq st hgd hdt hsz hen λh' st' sb=>?_;have I1:Inv X pins σ H {s with heap:=h'}:=I.turned (t':=s.toks) (λb ob hb e=>(sb.2 b hb).trans e) f0 f1 f3 f4 f5;obtain⟨oi,e,c,dd⟩:=id st';exact⟨en.key,rfl,uB (s:={s with heap:=h'}) e c dd (by decide) ⟨.ref q,H,I1,hkey,⟨rfl,k,v,q,hkv,rfl,hq⟩,st',λb hb=>(hf b hb).1⟩⟩
 done:=by intro X hP hw hK hc i pins s σ H E I hf st hg;subst hP hw hK;obtain⟨hd,hi⟩:=hg;obtain⟨f0,f1,f2,f3,f4,f5⟩:=hf it (by simp);obtain⟨hs,hgd,hx,es',ep',hdt,hsz,ent⟩:=I.frzT hd;obtain⟨rfl,rfl⟩:=uo hod hdt;exact qI (I.ok.hd hc) st hgd hdt hsz hi λh' eb=>⟨rfl,I.turned (t':=s.toks) (λb ob hb e=>eb b ob hb e) f0 f1 f3 f4 f5⟩
 self:=λA i s Q E st h=>by refine wpAny_pyIter_slot st.typeIs F.slot_dict_keyiterator_iter (wpAny_call_entry F.slot_dict_keyiterator_iter st.typeIs F.entry_dict_keyiterator_iter ?_ (F.args_dict_keyiterator_iter_1 _));show wpAny _ _ (ret (.ref it)) _ _ s;exact wpAny_pure ⟨_,rfl,"dict_keyiterator",_,st.typeIs,F.slot_dict_keyiterator_next.lookup,h⟩
end
def zH(td:TE):TI:=λσ H R=>td σ H λx H1=>∃d o,x=.ref d/\((∃kvs,H1 d=some (.frz o (.dK kvs))/\R (IY d o kvs) H1)\/∃kvs,H1 d=some (.frz o (.dT kvs))/\R (IZ d o kvs) H1)
section
variable {X:Cx}{tg e:Expr}{td:TE}{apos cpos:Pos}
theorem e9(he:PE X e td):PI X tg e (zH td):=by
 intro pins s σ H R I h;refine eR (he pins s σ H _ I h) λu s1⟨x,H1,I1,rx,d,o,ex,q⟩=>?_;subst ex;obtain rfl:u=Value.ref d:=rx;rcases q with⟨kvs,hd,q⟩|⟨kvs,hd,q⟩
 ·obtain⟨hs,hgd,hx,es,ep,vs,hdt,hsz,kv,hm⟩:=I1.frzK hd;refine xF hs hgd hx hdt (rP (tk:=s1.toks) I1 _ (CU _ hdt) ⟨_,Heap.get?_push_size _ rfl,rfl,?_⟩ q);rw[hsz]<;>rfl
 ·obtain⟨hs,hgd,hx,es,ep,hdt,hsz,ent⟩:=I1.frzT hd;refine xF hs hgd hx hdt (rP (tk:=s1.toks) I1 _ (A0 _ hdt) ⟨_,Heap.get?_push_size _ rfl,rfl,?_⟩ q);rw[hsz]<;>rfl
end
theorem CV:bootBuiltins "zip"=some (.type "zip"):=by decide+kernel
end L2
section
namespace Bits
open PySem PyProof.Rows
end Bits
end
section
namespace TL
open PySem PySem.Builtin PySem.Builtin.Str PySem.StrLaws
end TL
end
namespace L2
open PySem PySem.Spec PyProof.Rows
section
variable {X:Cx}{pins:List (Addr×Obj)}{σ:St}{H:Hp}{s:Shared}{Q:VK}
end
section
variable {X:Cx}
end
section
variable {X:Cx}{o e:Expr}{to te:TE}
end
end L2
namespace L2
open PySem PySem.Spec PyProof.Rows
section
variable {X:Cx}
end
end L2
namespace Att
open PySem PySem.W PySem.Calls PyProof.Rows
section
variable {prog:Program}{w:World}{A:Around}{E:Value->Shared->Prop}{s:Shared}{K:Frag}
end
end Att
namespace L2
open PySem PySem.Spec PyProof.Rows
end L2
namespace L2
open PySem PySem.Spec PyProof.Rows
end L2
namespace L2
open PySem PySem.Spec PyProof.Rows
def inClass(s:Stmt)(j:Nat):Stmt:=match s with
 |.ClassDef _ _ _ body _ _ _ _ _ _ _=>body.getD j (.Pass ⟨0,0,0,0⟩)
 |_=>.Pass ⟨0,0,0,0⟩
def ip(s:Stmt):Arguments:=match s with
 |.FunctionDef _ a _ _ _ _ _ _ _ _=>a
 |_=>{posonlyargs:=[],args:=[],vararg:=none,kwonlyargs:=[],kw_defaults:=[],kwarg:=none,defaults:=[]}
def gX(s:Stmt):List Stmt:=match s with
 |.FunctionDef _ _ b _ _ _ _ _ _ _=>b
 |_=>[]
def aH(s:Stmt):Scope:=match s with
 |.FunctionDef _ _ _ _ _ _ sc _ _ _=>sc
 |_=>{kind:=.function,names:=[],isGenerator:=false,isCoroutine:=false}
abbrev eY:DH:=λ_ _ _ _ _ _=>False
abbrev E0:XK:=λ_ _ _=>False
theorem B_{X:Cx}:pY eY X E0:=λ_ _ _ _ _ _ _ h=>h.elim
structure eJ(K:aj)(x qual:Str)(st:Stmt)(f:Addr)(fd:FuncData):Prop where
 ex:∃(oc:Value)(od:Option Addr)(kV doc pm:Value)(an:Option Addr)(cdv ct:Value)(osl:Array (Option Value)),fd=dO x qual (ip st) (gX st) (aH st) .none kV doc pm an cdv ct/\K.lookup f=some ⟨oc,od,.func fd,osl⟩/\jx K cdv qual=true
 kp:eG K (.ref f)=true
section
variable {P:Program}{w:World}{K:aj}{mg:Str->Option Value}{base:Heap}
theorem eJ.ok{x qual:Str}{st:Stmt}{f:Addr}{fd:FuncData}{N ps:List Str}{k:Nat}{sp:Sp}(F:eJ K x qual st f fd)(S:a_ N ps (aH st))(len:∀vs H Q E,sp vs H Q E->vs.length=ps.length)(hbody:∀(cdv:Value)(A:Around)(outer:List Env)(s:Shared)(H:Hp)(vs:List V)(Q:VK)(E:XK),cT k (A.deeper (envOfC qual (aH st) s.heap.objs.size f cdv))->sp vs H Q E->∃t,BQ (CL eY P w K mg base N qual (aH st) f cdv A outer s H E).nox (gX st) t/\t {nx:=λ_ H'=>Q .non H',rt:=Q} (start N vs) H):ck P w K mg base eY (k+1) f fd ps sp:=by obtain⟨oc,od,kV,doc,pm,an,cdv,ct,osl,rfl,lk,hcd⟩:=F.ex;refine IH lk hcd S len λA outer s H vs Q E hr hsp=>?_;obtain⟨t,h,q⟩:=hbody cdv A outer s H vs Q E hr hsp;exact⟨t,h.nox,q⟩
theorem eJ.binds{x qual:Str}{st:Stmt}{f:Addr}{fd:FuncData}{ps:List Str}(F:eJ K x qual st f fd)(h:∀(kV doc pm:Value)(an:Option Addr)(cdv ct:Value)(us:List Value),us.length=ps.length->bindArgs (dO x qual (ip st) (gX st) (aH st) .none kV doc pm an cdv ct) ⟨us,[]⟩=pure (ps.zip us)):Binds K fd ps []:=by obtain⟨oc,od,kV,doc,pm,an,cdv,ct,osl,rfl,lk,hcd⟩:=F.ex;exact .all (h kV doc pm an cdv ct)
theorem A1{x qual:Str}{st:Stmt}{f:Addr}{oc:Value}{od an:Option Addr}{osl:Array (Option Value)}{kV doc pm cdv ct:Value}(l:K.lookup f=some ⟨oc,od,.func (dO x qual (ip st) (gX st) (aH st) .none kV doc pm an cdv ct),osl⟩)(c:jx K cdv qual=true)(k:eG K (.ref f)=true):eJ K x qual st f (dO x qual (ip st) (gX st) (aH st) .none kV doc pm an cdv ct):=⟨⟨oc,od,kV,doc,pm,an,cdv,ct,osl,rfl,l,c⟩,k⟩
end
theorem eM{A:Around}{k:Nat}(hr:cT k A):A.units+1<cLine:=bX (Nat.add_le_add_left (by decide:1<=64) _) hr.units
section
variable {X:Cx}
theorem pv(i:Nat){x:Str}{pos:Pos}(hN:X.N[i]?=some x:=by rfl)(hv:IB X.env.scope x:=by first|exact Or.inl rfl|exact Or.inr (Or.inl rfl)|exact Or.inr (Or.inr rfl))(hd:(x==("__debug__":Str))=false:=by decide)(hcd:(x==("__classdict__":Str))=false:=by decide):PE X (.Name x pos) (fg i):=Hl hN hv hd hcd
theorem iN:iJ X (.builtin "len") (λxs H Q=>∃a kvs,xs=[V.ref a]/\H a=some (.dK kvs)/\Q (.int kvs.length) H):=by intro pins s σ H xs us Q I r h;obtain⟨a,kvs,rfl,ha,q⟩:=h;obtain⟨u,rfl,ru⟩:=vals1 r;cases ru;exact IS I (.inl ha) λt s' I'=>⟨.int kvs.length,H,I',⟨t,rfl⟩,q⟩
end
theorem gx{A B:Prop}(h:B):if false=true then A else B:=by rw[if_neg aI];exact h
theorem iE{A B:Prop}(h:A):if true=true then A else B:=by rw[if_pos rfl];exact h
def Same(H H':Hp):Prop:=∀b o,H b=some o->H' b=some o
theorem Same.refl(H:Hp):Same H H:=λ_ _ h=>h
theorem Same.trans{H H1 H2:Hp}(a:Same H H1)(b:Same H1 H2):Same H H2:=λc o h=>b c o (a c o h)
theorem Same.free{H H':Hp}(e:Same H H'){l:Addr}(h:H' l=Option.none):H l=Option.none:=by
 cases q:H l with
 |none=>rfl
 |some o=>
  rw[e l o q]at h
  cases h
theorem Same.seq{K:aj}{H H':Hp}{a:Addr}{xs:List V}(e:Same H H')(h:bZ K H a xs):bZ K H' a xs:=by
 rcases h with(h|⟨o,h⟩)|h
 ·exact .inl (.inl (e _ _ h))
 ·exact .inl (.inr ⟨o,e _ _ h⟩)
 ·exact .inr h
section
variable {κ:Type}[DecidableEq κ]
theorem gz:∀{l:List κ}{k:κ},l.Nodup->¬k∈l->(l++[k]).Nodup
 |[],k,_,_=>by simp
 |a::r,k,h,hk=>by
  obtain⟨h1,h2⟩:=bO.mp h;show(a::(r++[k])).Nodup;refine bO.mpr ⟨λm=>?_,gz h2 λm=>hk (aF.mpr (Or.inr m))⟩;rcases aD.mp m with q|q
  ·exact h1 q
  ·exact hk (aF.mpr (Or.inl (aE.mp q).symm))
end
theorem at_of{xs:List V}{z:Int}{j:Nat}{v:V}(e:z=(j:Int))(h:xs[j]?=some v):Ht xs z=some v:=by rw[e];exact F1 h
theorem Same.made{H H1:Hp}{x dx C:Addr}(nx:H x=Option.none)(nd:H dx=Option.none)(k:∀b o,(upd (upd H dx (.own x)) x (.ins C dx [])) b=some o->b≠x->H1 b=some o):Same H H1:=λb o e=>
 k b o (by rw[aA (aB e nx),aA (aB e nd)];exact e) (aB e nx)
end L2
section
namespace L2
open PySem PySem.Spec PyProof.Rows
open PySem.W (WData Codec OpenSpec Well WellAll ReadsW ReadsAllW)
mutual
inductive Dw(K:aj)(H:Hp):V->WData->Prop
 |non:Dw K H .non .none
 |bl (b:Bool):Dw K H (.bl b) (.bool b)
 |int (i:Int):Dw K H (.int i) (.int i)
 |str (x:Str):Dw K H (.str x) (.str x)
 |byt (b:Array UInt8):Dw K H (.byt b) (.bytes b.toList)
 |lst {a:Addr} {xs:List V} {ds:List WData}:bZ K H a xs->mV K H xs ds->Dw K H (.ref a) (.list ds)
 |tup {a:Addr} {xs:List V} {ds:List WData}:xp K H a xs->mV K H xs ds->Dw K H (.ref a) (.tuple ds)
inductive mV(K:aj)(H:Hp):List V->List WData->Prop
 |nil:mV K H [] []
 |cons {v:V} {vs:List V} {d:WData} {ds:List WData}:Dw K H v d->mV K H vs ds->mV K H (v::vs) (d::ds)
end
theorem dw_ints{K:aj}{H:Hp}:∀ns:List Int,mV K H (ns.map V.int) (ns.map WData.int)
 |[]=>.nil
 |n::r=>.cons (.int n) (dw_ints r)
theorem ints_dw{K:aj}{H:Hp}:∀(ns:List Int)(xs:List V),mV K H xs (ns.map WData.int)->xs=ns.map V.int
 |[],xs,h=>by
  cases h;rfl
 |n::r,xs,h=>by
  cases h with
  |cons h1 h2=>
   cases h1
   rw[ints_dw r _ h2]<;>rfl
section
variable {P:Program}{w:World}{K:aj}{H:Hp}{h:Heap}{R:Jh}{cl:Str->Option Addr}
theorem sqL_at{a:Addr}{xs:List V}(hok:nS P w H h)(KX:K.In h)(q:bZ K H a xs):∃(its:List Value)(o:Obj)(n:Nat),cG xs its/\h.get? a=some o/\o.cls=.type "list"/\o.data=.seq its.toArray n:=by
 rcases q with q|⟨o,its,n,e,hc,_,hd,_,hv⟩
 ·obtain⟨_,its,n,hv,e⟩:=(show fS P w H h a (.lst xs)from q.ok hok);exact⟨its,_,n,hv,e,rfl,rfl⟩
 ·exact⟨its.toList,o,n,hv,KX _ _ e,hc,by simp[hd]⟩
theorem sqT_at{a:Addr}{xs:List V}(hok:nS P w H h)(KX:K.In h)(q:xp K H a xs):∃(its:List Value)(o:Obj)(n:Nat),cG xs its/\h.get? a=some o/\o.cls=.type "tuple"/\o.data=.seq its.toArray n:=by
 rcases q with q|⟨o,its,n,e,hc,hd,_,hv⟩
 ·obtain⟨_,its,hv,o,e,hc,n,hd⟩:=(show fS P w H h a (.tup xs)from q.ok hok);exact⟨its,o,n,hv,e,hc,hd⟩
 ·exact⟨its.toList,o,n,hv,KX _ _ e,hc,by simp[hd]⟩
mutual
theorem Dw.reads(hok:nS P w H h)(KX:K.In h):∀(d:WData)(v:V)(u:Value),Dw K H v d->RelV v u->∃as,ReadsW R cl h u d as
 |.none,_,_,x,r=>by
  cases x;cases r;exact⟨_,ReadsW.none⟩
 |.bool b,_,_,x,r=>by
  cases x;cases r;exact⟨_,ReadsW.bool b⟩
 |.int i,_,_,x,r=>by
  cases x;obtain⟨t,rfl⟩:=r;exact⟨_,ReadsW.int i t⟩
 |.str s,_,_,x,r=>by
  cases x;obtain⟨t,rfl⟩:=r;exact⟨_,ReadsW.str s t⟩
 |.bytes b,_,_,x,r=>by
  cases x;obtain⟨t,rfl⟩:=r;exact⟨_,ReadsW.bytes _ t⟩
 |.list ds,_,_,x,r=>by
  cases x with
  |lst hs ha=>
   cases r
   obtain⟨its,o,n,rv,ho,hc,hd⟩:=sqL_at hok KX hs
   obtain⟨as,hr⟩:=Dw.readsAll hok KX ds _ its ha rv
   exact⟨_,ReadsW.list ho hc hd hr⟩
 |.tuple ds,_,_,x,r=>by
  cases x with
  |tup hs ha=>
   cases r
   obtain⟨its,o,n,rv,ho,hc,hd⟩:=sqT_at hok KX hs
   obtain⟨as,hr⟩:=Dw.readsAll hok KX ds _ its ha rv
   exact⟨_,ReadsW.tuple ho hc hd hr⟩
 |.float _,_,_,x,_=>by cases x
 |.dict _,_,_,x,_=>by cases x
 |.bytearray _,_,_,x,_=>by cases x
 |.set _,_,_,x,_=>by cases x
 |.frozenset _,_,_,x,_=>by cases x
 |.obj _ _,_,_,x,_=>by cases x
theorem Dw.readsAll(hok:nS P w H h)(KX:K.In h):∀(ds:List WData)(vs:List V)(us:List Value),mV K H vs ds->cG vs us->∃as,ReadsAllW R cl h us ds as
 |[],_,_,x,r=>by
  cases x;cases r;exact⟨_,ReadsAllW.nil⟩
 |d::ds,_,_,x,r=>by
  cases x with
  |cons h1 h2=>
   cases r with
   |cons r1 r2=>
    obtain⟨as,q1⟩:=Dw.reads hok KX d _ _ h1 r1
    obtain⟨bs,q2⟩:=Dw.readsAll hok KX ds _ _ h2 r2
    exact⟨_,ReadsAllW.cons q1 q2⟩
end
end
mutual
def plW:WData->Bool
 |.none=>true
 |.bool _=>true
 |.int _=>true
 |.str _=>true
 |.bytes _=>true
 |.list xs=>plWs xs
 |.tuple xs=>plWs xs
 |_=>false
def plWs:List WData->Bool
 |[]=>true
 |x::r=>plW x&&plWs r
end
theorem plWs_map{α:Type}{f:α->WData}(h:∀a,plW (f a)=true):∀l:List α,plWs (l.map f)=true
 |[]=>rfl
 |x::r=>by show(plW (f x)&&plWs (r.map f))=true;rw[h x,plWs_map h r]<;>rfl
theorem pl_enc:∀(c:Codec)(a:c.denote),plW (c.enc a)=true
 |.unit,_=>rfl
 |.bool,_=>rfl
 |.int _ _,_=>rfl
 |.nat _ _,_=>rfl
 |.u8,_=>rfl
 |.bytes _ _,_=>rfl
 |.text _ _ _ _,_=>rfl
 |.list _ _ c,a=>plWs_map (λx=>pl_enc c x) a
 |.pair c d,a=>by
  show(plW (c.enc a.1)&&(plW (d.enc a.2)&&true))=true;rw[pl_enc c a.1,pl_enc d a.2]<;>rfl
 |.triple c d e,a=>by
  show(plW (c.enc a.1)&&(plW (d.enc a.2.1)&&(plW (e.enc a.2.2)&&true)))=true;rw[pl_enc c a.1,pl_enc d a.2.1,pl_enc e a.2.2]<;>rfl
 |.option c,none=>rfl
 |.option c,some x=>pl_enc c x
theorem pl_encAll:∀(cs:List Codec)(a:Codec.denoteAll cs),plWs (Codec.encAll cs a)=true
 |[],_=>rfl
 |c::cs,a=>by show(plW (c.enc a.1)&&plWs (Codec.encAll cs a.2))=true;rw[pl_enc c a.1,pl_encAll cs a.2]<;>rfl
theorem weight_mem:∀{xs:List WData}{d:WData},d∈xs->d.weight<=WData.weightAll xs
 |[],d,h=>absurd h (by simp)
 |x::r,d,h=>by
  show d.weight<=x.weight+1+WData.weightAll r;rcases aF.mp h with e|m
  ·rw[e];omega
  ·have z:=weight_mem m;omega
def toV:Value->V
 |.none=>.non
 |.bool b=>.bl b
 |.int i _=>.int i
 |.str x _=>.str x
 |.bytes b _=>.byt b
 |.ref a=>.ref a
 |_=>.non
def OkU(A:List Addr):Value->Prop
 |.none=>True
 |.bool _=>True
 |.int _ _=>True
 |.str _ _=>True
 |.bytes _ _=>True
 |.ref a=>a∈A
 |_=>False
theorem OkU.mono{A B:List Addr}(h:∀a∈A,a∈B):∀{u:Value},OkU A u->OkU B u:=λ{u}x=>by
 cases u with
 |ref a=>exact h a x
 |none=>trivial
 |bool b=>trivial
 |int i t=>trivial
 |str s t=>trivial
 |bytes b t=>trivial
 |_=>exact dB x
theorem relV_toV{A:List Addr}{u:Value}(x:OkU A u):RelV (toV u) u:=by
 cases u with
 |ref a=>rfl
 |none=>rfl
 |bool b=>rfl
 |int i t=>exact⟨t,rfl⟩
 |str s t=>exact⟨t,rfl⟩
 |bytes b t=>exact⟨t,rfl⟩
 |_=>exact dB x
theorem vals_toV{A:List Addr}:∀{vs:List Value},(∀u∈vs,OkU A u)->cG (vs.map toV) vs
 |[],_=>.nil
 |u::r,h=>.cons (relV_toV (h u (aY ..))) (vals_toV λx hx=>h x (aJ _ hx))
def ArgOb(h:Heap)(A:List Addr)(a:Addr):Prop:=∃vs:List Value,vs.length<=sizeLine/\(∀u∈vs,OkU A u)/\(h.get? a=some {cls:=.type "list",data:=.seq vs.toArray}\/h.get? a=some {cls:=.type "tuple",data:=.seq vs.toArray})
theorem ArgOb.mono{h:Heap}{A B:List Addr}{a:Addr}(k:∀a∈A,a∈B)(x:ArgOb h A a):ArgOb h B a:=by obtain⟨vs,h1,h2,h3⟩:=x;exact⟨vs,h1,λu hu=>(h2 u hu).mono k,h3⟩
theorem wellAll_len{P:Params}{h:Heap}:∀{vs:List Value}{ds:List WData},WellAll P h vs ds->vs.length=ds.length
 |_,_,.nil=>rfl
 |_,_,.cons _ b=>by show _+1=_+1;rw[wellAll_len b]
theorem well_list{P:Params}{h:Heap}{v:Value}{ds:List WData}(x:Well P h v (.list ds)):∃(a:Addr)(vs:List Value),v=.ref a/\h.get? a=some {cls:=.type "list",data:=.seq vs.toArray}/\WellAll P h vs ds:=by
 cases x with
 |list ho hall=>exact⟨_,_,rfl,ho,hall⟩
theorem well_tuple{P:Params}{h:Heap}{v:Value}{ds:List WData}(x:Well P h v (.tuple ds)):∃(a:Addr)(vs:List Value),v=.ref a/\h.get? a=some {cls:=.type "tuple",data:=.seq vs.toArray}/\WellAll P h vs ds:=by
 cases x with
 |tuple ho hall=>exact⟨_,_,rfl,ho,hall⟩
theorem well_cons{P:Params}{h:Heap}{us:List Value}{d:WData}{ds:List WData}(x:WellAll P h us (d::ds)):∃(v:Value)(vs:List Value),us=v::vs/\Well P h v d/\WellAll P h vs ds:=by
 cases x with
 |cons a b=>exact⟨_,_,rfl,a,b⟩
theorem line_of{n:Nat}(h:n<=1048576):n<=sizeLine:=ay h (by decide)
section
variable {P:Params}{h:Heap}
mutual
theorem area_one:∀(d:WData)(v:Value),Well P h v d->plW d=true->d.weight<=1048576->∃A:List Addr,OkU A v/\∀a∈A,ArgOb h A a
 |.none,_,x,_,_=>by
  cases x;exact⟨[],trivial,λa m=>absurd m (by simp)⟩
 |.bool b,_,x,_,_=>by
  cases x;exact⟨[],trivial,λa m=>absurd m (by simp)⟩
 |.int i,_,x,_,_=>by
  cases x;exact⟨[],trivial,λa m=>absurd m (by simp)⟩
 |.str s,_,x,_,_=>by
  cases x;exact⟨[],trivial,λa m=>absurd m (by simp)⟩
 |.bytes b,_,x,_,_=>by
  cases x;exact⟨[],trivial,λa m=>absurd m (by simp)⟩
 |.list ds,_,x,p,z=>by
  obtain⟨a,vs,rfl,ho,hall⟩:=well_list x;have z2:WData.weightAll ds<=1048576:=z;obtain⟨A,h1,h2⟩:=area_all ds _ hall p λd hd=>ay (weight_mem hd) z2;have k:∀b∈A,b∈a::A:=λb hb=>aJ _ hb;refine⟨a::A,aY ..,λb hb=>?_⟩;rcases aF.mp hb with e|m
  ·rw[e];exact⟨vs,line_of (by rw[wellAll_len hall];exact ay (AD ds) z2),λu hu=>(h1 u hu).mono k,.inl ho⟩
  ·exact(h2 b m).mono k
 |.tuple ds,_,x,p,z=>by
  obtain⟨a,vs,rfl,ho,hall⟩:=well_tuple x;have z2:WData.weightAll ds<=1048576:=z;obtain⟨A,h1,h2⟩:=area_all ds _ hall p λd hd=>ay (weight_mem hd) z2;have k:∀b∈A,b∈a::A:=λb hb=>aJ _ hb;refine⟨a::A,aY ..,λb hb=>?_⟩;rcases aF.mp hb with e|m
  ·rw[e];exact⟨vs,line_of (by rw[wellAll_len hall];exact ay (AD ds) z2),λu hu=>(h1 u hu).mono k,.inr ho⟩
  ·exact(h2 b m).mono k
 |.float _,_,_,p,_=>cE (show false=true from p)
 |.dict _,_,_,p,_=>cE (show false=true from p)
 |.bytearray _,_,_,p,_=>cE (show false=true from p)
 |.set _,_,_,p,_=>cE (show false=true from p)
 |.frozenset _,_,_,p,_=>cE (show false=true from p)
 |.obj _ _,_,_,p,_=>cE (show false=true from p)
theorem area_all:∀(ds:List WData)(vs:List Value),WellAll P h vs ds->plWs ds=true->(∀d∈ds,d.weight<=1048576)->∃A:List Addr,(∀u∈vs,OkU A u)/\∀a∈A,ArgOb h A a
 |[],_,x,_,_=>by
  cases x;exact⟨[],λu m=>absurd m (by simp),λa m=>absurd m (by simp)⟩
 |d::ds,_,x,p,z=>by
  obtain⟨v,vs,rfl,x1,x2⟩:=well_cons x;have q:plW d=true/\plWs ds=true:=kF.mp p;obtain⟨A,a1,a2⟩:=area_one d v x1 q.1 (z d (aY ..));obtain⟨B,b1,b2⟩:=area_all ds vs x2 q.2 λe he=>z e (aJ _ he);have kA:∀b∈A,b∈A++B:=λb hb=>aD.mpr (.inl hb);have kB:∀b∈B,b∈A++B:=λb hb=>aD.mpr (.inr hb);refine⟨A++B,λu hu=>?_,λb hb=>?_⟩
  ·rcases aF.mp hu with e|m
   ·rw[e];exact a1.mono kA
   ·exact(b1 u m).mono kB
  ·rcases aD.mp hb with m|m
   ·exact(a2 b m).mono kA
   ·exact(b2 b m).mono kB
end
end
def hoOf(o:Obj):Option HO:=match o.data with
 |.seq vs _=>if(o.cls==Value.type "list")=true then some (.frz o (.lst (vs.toList.map toV)))else some (.frz o (.tup (vs.toList.map toV)))
 |_=>none
def argH(K:aj)(h:Heap)(A:List Addr):Hp:=λb=>if b∈A then(if(K.lookup b).isNone=true then(h.get? b).bind hoOf else none)else none
def OnlyF(H:Hp):Prop:=∀b,H b=none\/∃o u,H b=some (.frz o u)
theorem hoOf_lst(vs:List Value):hoOf {cls:=.type "list",data:=.seq vs.toArray}=some (.frz {cls:=.type "list",data:=.seq vs.toArray} (.lst (vs.map toV))):=by show(if(Value.type "list"==Value.type "list")=true then some (HO.frz {cls:=.type "list",data:=.seq vs.toArray} (.lst (vs.toArray.toList.map toV)))else some (HO.frz {cls:=.type "list",data:=.seq vs.toArray} (.tup (vs.toArray.toList.map toV))))=_;rw[if_pos (beq_self_eq_true _)]
theorem hoOf_tup(vs:List Value):hoOf {cls:=.type "tuple",data:=.seq vs.toArray}=some (.frz {cls:=.type "tuple",data:=.seq vs.toArray} (.tup (vs.map toV))):=by show(if(Value.type "tuple"==Value.type "list")=true then some (HO.frz {cls:=.type "tuple",data:=.seq vs.toArray} (.lst (vs.toArray.toList.map toV)))else some (HO.frz {cls:=.type "tuple",data:=.seq vs.toArray} (.tup (vs.toArray.toList.map toV))))=_;rw[if_neg (by decide)]
section
variable {P:Program}{w:World}{K:aj}{h:Heap}{A:List Addr}
theorem argH_at{b:Addr}{o:Obj}(hb:b∈A)(hk:K.lookup b=none)(e:h.get? b=some o):argH K h A b=hoOf o:=by unfold argH;rw[if_pos hb,hk,if_pos (show(none:Option Obj).isNone=true from rfl),e]<;>rfl
theorem of_argH{b:Addr}{u:HO}(q:argH K h A b=some u):b∈A/\K.lookup b=none:=by
 unfold argH at q;by_cases hb:b∈A
 ·rw[if_pos hb]at q;cases hk:K.lookup b with
  |none=>exact⟨hb,rfl⟩
  |some o=>
   rw[hk,if_neg (by simp)]at q
   cases q
 ·rw[if_neg hb]at q;cases q
theorem argH_is(ar:∀a∈A,ArgOb h A a){b:Addr}{u:HO}(q:argH K h A b=some u):K.lookup b=none/\∃vs:List Value,vs.length<=sizeLine/\(∀u∈vs,OkU A u)/\((h.get? b=some {cls:=.type "list",data:=.seq vs.toArray}/\u=.frz {cls:=.type "list",data:=.seq vs.toArray} (.lst (vs.map toV)))\/(h.get? b=some {cls:=.type "tuple",data:=.seq vs.toArray}/\u=.frz {cls:=.type "tuple",data:=.seq vs.toArray} (.tup (vs.map toV)))):=by
 obtain⟨hb,hk⟩:=of_argH q;obtain⟨vs,h1,h2,h3⟩:=ar b hb;refine⟨hk,vs,h1,h2,?_⟩;rcases h3 with e|e
 ·rw[argH_at hb hk e,hoOf_lst]at q;exact .inl ⟨e,(a0 q).symm⟩
 ·rw[argH_at hb hk e,hoOf_tup]at q;exact .inr ⟨e,(a0 q).symm⟩
theorem argH_only(ar:∀a∈A,ArgOb h A a):OnlyF (argH K h A):=λb=>by
 cases q:argH K h A b with
 |none=>exact .inl rfl
 |some u=>
  obtain⟨_,vs,_,_,⟨_,e⟩|⟨_,e⟩⟩:=argH_is ar q
  ·exact .inr ⟨_,_,by rw[e]⟩
  ·exact .inr ⟨_,_,by rw[e]⟩
theorem argH_ok(ar:∀a∈A,ArgOb h A a):nS P w (argH K h A) h:=λb u q=>by
 obtain⟨_,vs,h1,h2,⟨e,rfl⟩|⟨e,rfl⟩⟩:=argH_is ar q
 ·exact⟨e,by rw[ae];exact h1,vs,_,vals_toV h2,e⟩
 ·exact⟨e,by rw[ae];exact h1,vs,vals_toV h2,_,e,rfl,_,rfl⟩
theorem seq_inj{c c':Value}{vs us:List Value}(e:(some {cls:=c,data:=.seq vs.toArray}:Option Obj)=some {cls:=c',data:=.seq us.toArray}):c=c'/\vs=us:=by have e1:=a0 e;have e2:c=c':=congrArg Obj.cls e1;have e3:Data.seq vs.toArray=Data.seq us.toArray:=congrArg Obj.data e1;injection e3 with e4;refine⟨e2,?_⟩;have e5:=congrArg Array.toList e4;simpa using e5
theorem argL(KX:K.In h)(ar:∀a∈A,ArgOb h A a){a:Addr}{vs:List Value}(ha:a∈A)(e:h.get? a=some {cls:=.type "list",data:=.seq vs.toArray}):(∀u∈vs,OkU A u)/\bZ K (argH K h A) a (vs.map toV):=by
 obtain⟨us,h1,h2,h3⟩:=ar a ha;have hu:us=vs:=by
  rcases h3 with q|q
  ·rw[e]at q;exact(seq_inj q).2.symm
  ·rw[e]at q;exact absurd (Value.type.inj (seq_inj q).1) (by decide)
 subst hu;refine⟨h2,?_⟩;cases hk:K.lookup a with
 |none=>exact .inl (.inr ⟨_,by rw[argH_at ha hk e,hoOf_lst]⟩)
 |some o=>
  have e2:=KX a o hk
  rw[e]at e2
  obtain rfl:=a0 e2
  exact .inr ⟨_,us.toArray,_,hk,rfl,rfl,rfl,by rw[bg];exact h1,by simpa using vals_toV h2⟩
theorem argT(KX:K.In h)(ar:∀a∈A,ArgOb h A a){a:Addr}{vs:List Value}(ha:a∈A)(e:h.get? a=some {cls:=.type "tuple",data:=.seq vs.toArray}):(∀u∈vs,OkU A u)/\xp K (argH K h A) a (vs.map toV):=by
 obtain⟨us,h1,h2,h3⟩:=ar a ha;have hu:us=vs:=by
  rcases h3 with q|q
  ·rw[e]at q;exact absurd (Value.type.inj (seq_inj q).1) (by decide)
  ·rw[e]at q;exact(seq_inj q).2.symm
 subst hu;refine⟨h2,?_⟩;cases hk:K.lookup a with
 |none=>exact .inl (.inr ⟨_,by rw[argH_at ha hk e,hoOf_tup]⟩)
 |some o=>
  have e2:=KX a o hk
  rw[e]at e2
  obtain rfl:=a0 e2
  exact .inr ⟨_,us.toArray,_,hk,rfl,rfl,by rw[bg];exact h1,by simpa using vals_toV h2⟩
mutual
theorem dw_one{Pm:Params}(KX:K.In h)(ar:∀a∈A,ArgOb h A a):∀(d:WData)(v:Value),Well Pm h v d->plW d=true->OkU A v->Dw K (argH K h A) (toV v) d
 |.none,_,x,_,_=>by
  cases x;exact .non
 |.bool b,_,x,_,_=>by
  cases x;exact .bl b
 |.int i,_,x,_,_=>by
  cases x;exact .int i
 |.str s,_,x,_,_=>by
  cases x;exact .str s
 |.bytes b,_,x,_,_=>by
  cases x;have z:=Dw.byt (K:=K) (H:=argH K h A) b.toArray;exact z
 |.list ds,_,x,p,hu=>by
  obtain⟨a,vs,rfl,ho,hall⟩:=well_list x;obtain⟨h2,hs⟩:=argL KX ar hu ho;exact .lst hs (dw_all KX ar ds _ hall p h2)
 |.tuple ds,_,x,p,hu=>by
  obtain⟨a,vs,rfl,ho,hall⟩:=well_tuple x;obtain⟨h2,hs⟩:=argT KX ar hu ho;exact .tup hs (dw_all KX ar ds _ hall p h2)
 |.float _,_,_,p,_=>cE (show false=true from p)
 |.dict _,_,_,p,_=>cE (show false=true from p)
 |.bytearray _,_,_,p,_=>cE (show false=true from p)
 |.set _,_,_,p,_=>cE (show false=true from p)
 |.frozenset _,_,_,p,_=>cE (show false=true from p)
 |.obj _ _,_,_,p,_=>cE (show false=true from p)
theorem dw_all{Pm:Params}(KX:K.In h)(ar:∀a∈A,ArgOb h A a):∀(ds:List WData)(vs:List Value),WellAll Pm h vs ds->plWs ds=true->(∀u∈vs,OkU A u)->mV K (argH K h A) (vs.map toV) ds
 |[],_,x,_,_=>by
  cases x;exact .nil
 |d::ds,_,x,p,hu=>by obtain⟨v,vs,rfl,x1,x2⟩:=well_cons x;have q:plW d=true/\plWs ds=true:=kF.mp p;exact .cons (dw_one KX ar d v x1 q.1 (hu _ (aY ..))) (dw_all KX ar ds vs x2 q.2 λu m=>hu u (aJ _ m))
end
end
theorem spec_call{P:Program}{w:World}{K:aj}{mg mb:Str->Option Value}{CX:DH}{k:Nat}{fa:Addr}{fd:FuncData}{ps:List Str}{sp:Sp}{s₁:Shared}{vals:List Value}{ds:List WData}{R:Jh}{cl:Str->Option Addr}{d0:WData}(KX:K.In s₁.heap)(hns:s₁.heap.Ns mainGlobals mg)(hb:s₁.heap.Ns builtinsNs mb)(hbb:∀x:Str,x≠"__name__"->mb x=bootBuiltins x)(hlim:s₁.heap.NoLimit)(hg:s₁.gens=#[])(hwl:WellAll w.params s₁.heap vals ds)(hpl:plWs ds=true)(hwt:∀d∈ds,d.weight<=1048576)(hr:cT k callerA)(F:∀base:Heap,K.In base->base.Ns mainGlobals mg->ck P w K mg base CX k fa fd ps sp)(hbind:∀(s:Shared)(us:List Value),us.length=ps.length->BindsTo s fd ⟨us,[]⟩ (ps.zip us))(hlen:ds.length=ps.length)(hsp:∀(H:Hp)(xs:List V),OnlyF H->mV K H xs ds->sp xs H (λv H'=>Dw K H' v d0) λ_ _ _=>False)(hCX:∀H e s',CX [] H s₁ (λ_ _ _=>False) e s'->False):codeAny (model P w) callerA (.call (.ref fa) ⟨vals,[]⟩) (λr s'=>∃u as,r=.ok (.ret u)/\ReadsW R cl s'.heap u d0 as/\OldK s₁.heap s'.heap/\s'.os=s₁.os/\AllBare s'.gens) s₁:=by
 obtain⟨A,ho,ar⟩:=area_all ds vals hwl hpl hwt;have hO:OnlyF (argH K s₁.heap A):=argH_only ar;have hok:nS P w (argH K s₁.heap A) s₁.heap:=argH_ok ar;have hS:=dw_all KX ar ds vals hwl hpl ho;have hV:=vals_toV ho;have hK:∀b u,argH K s₁.heap A b=some u->K.lookup b=none:=λb u q=>(argH_is ar q).1;have noA:∀{b:Addr}{o:Obj}{es:Array DictEntry}{ep:Nat},s₁.heap.get? b=some o->o.data=.dict es ep->argH K s₁.heap A b=none:=λ{b o es ep}e d=>by
  cases q:argH K s₁.heap A b with
  |none=>rfl
  |some u=>
   obtain⟨_,vs,_,_,⟨e2,_⟩|⟨e2,_⟩⟩:=argH_is ar q
   ·rw[e2]at e;cases e;have d':Data.seq vs.toArray _=Data.dict es ep:=d;cases d'
   ·rw[e2]at e;cases e;have d':Data.seq vs.toArray _=Data.dict es ep:=d;cases d'
 generalize argH K s₁.heap A=H at hO hok hS hK noA;have base_of:∀{b:Addr}{o:Obj},s₁.heap.get? b=some o->H b=none->(x8 s₁.heap H).get? b=some o:=λe n=>DO e n;have nsK:∀{b:Addr}{m:Str->Option Value},s₁.heap.Ns b m->(x8 s₁.heap H).Ns b m:=λ{b m}⟨o,es,ep,e,d,r⟩=>⟨o,es,ep,base_of e (noA e d),d,r⟩;have nK:∀b o,K.lookup b=some o->H b=none:=λb o e=>by
  cases q:H b with
  |none=>rfl
  |some u=>
   rw[hK b u q]at e
   cases e
 have hKb:K.In (x8 s₁.heap H):=λb o e=>base_of (KX b o e) (nK b o e);have hM:Mod K mg (x8 s₁.heap H):=⟨hKb,nsK hns,⟨mb,nsK hb,hbb⟩,let⟨mc,h1,h2⟩:=hlim;⟨mc,nsK h1,h2⟩⟩;have e0:AR P w K mg (x8 s₁.heap H) callerA [] s₁ H:=⟨rfl,hM,λb o e=>FJ e,qu (CD _ _),trivial,λb hb=>absurd (show b∈([]:List Addr)from hb) (by simp),hok,.of_eq hg⟩;have hl:vals.length=ps.length:=by rw[wellAll_len hwl];exact hlen
 refine codeAny_mono ((F _ hKb (nsK hns)).run callerA [] s₁ H ⟨vals,[]⟩ vals (vals.map toV) _ _ hr e0 (hbind s₁ vals hl) hV (hsp H _ hO hS)) λr s' x=>?_;cases r with
 |error e=>exact(hCX H e s' x).elim
 |ok fl=>
  cases fl with
  |next=>exact dB x
  |brk=>exact dB x
  |cont=>exact dB x
  |ret u=>
   obtain⟨v,H',os,bare,un,hok',r',q⟩:=x
   have kept:∀b o,s₁.heap.get? b=some o->s'.heap.get? b=some o:=λb o e=>by
    cases q2:H b with
    |none=>exact un.keep b o e q2 (by intro z;exact absurd (show b∈([]:List Addr)from z) (by simp)) (by simp)
    |some u2=>
     rcases hO b with z|⟨ob,u3,z⟩
     ·rw[q2]at z;cases z
     ·have z2:=un.frzs b ob _ z;obtain⟨e1,_⟩:=hok b _ z;obtain⟨e2,_⟩:=hok' b _ z2;rw[e]at e1;cases e1;exact e2
   have KX':K.In s'.heap:=λb o e=>kept b o (KX b o e)
   obtain⟨as,hrd⟩:=Dw.reads (R:=R) (cl:=cl) hok' KX' d0 v u q r'
   exact⟨u,as,rfl,hrd,OldK.of_keep kept,os,bare⟩
theorem layable_weight{ds:List WData}(h:WData.layableAll ds=true):∀d∈ds,d.weight<=1048576:=λd hd=>
 (PySem.W.layableW_iff.mp (bU.mp h d hd)).2.2
theorem encAll_len:∀(cs:List Codec)(a:Codec.denoteAll cs),(Codec.encAll cs a).length=cs.length
 |[],_=>rfl
 |c::cs,a=>by show(Codec.encAll cs a.2).length+1=cs.length+1;rw[encAll_len cs a.2]
theorem walk_spec{r:OpenSpec}{k:Nat}{q:Program}{loose:List Str}{XP:(Str->Option Value)->Heap->Prop}{YP:World->Heap->Prop}{d:DefRec}{K:Params->aj}{CX:World->DH}{ps:List Str}{sp:World->Sp}(hwell:r.wellSaid=true)(hdf:d.params.defaults=[])(hlen:r.args.length=ps.length)(hr:cT k callerA)(hY:∀(w:World)(h:Heap),YP w h->(K w.params).In h)(F:∀(w:World)(mg:Str->Option Value)(fa:Addr)(h:Heap),YP w h->(K w.params).In h->h.Ns mainGlobals mg->mg d.name=some (.ref fa)->∃fd:FuncData,(∀(s:Shared)(us:List Value),us.length=ps.length->BindsTo s fd ⟨us,[]⟩ (ps.zip us))/\∀base:Heap,(K w.params).In base->base.Ns mainGlobals mg->ck r.prog w (K w.params) mg base (CX w) k fa fd ps (sp w))(hsp:∀(w:World)(H:Hp)(xs:List V)(a:Codec.denoteAll r.args),OnlyF H->Codec.withinAll r.args a=true->Codec.app r.args r.asked a=true->mV (K w.params) H xs (Codec.encAll r.args a)->sp w xs H (λv H'=>Dw (K w.params) H' v (r.ret.enc (Codec.app r.args r.f a))) λ_ _ _=>False)(hCX:∀(w:World)(H:Hp)(s:Shared)(e:Value)(s':Shared),CX w [] H s (λ_ _ _=>False) e s'->False):PySem.W.WalkOS q loose XP YP r d [] (λf vs=>PySem.call f vs):=by intro w s_0 s₁ mg mb G Y fa o pm cd doc dV kV ho hd hcd hD hmg hg args vals as hpre hlay hrd hwl hlo;obtain⟨a,e1,e2⟩:=PySem.W.os_pre_some hpre;obtain⟨e3,hwi⟩:=Codec.encAll_of_decAll r.args args a e1;subst e3;have KX:=hY w _ Y;obtain⟨fd,hb,hF⟩:=F w mg fa _ Y KX G.T.g hmg;refine PySem.W.enter_call (codeAny_mono (spec_call (R:=[]) (cl:=classAt s_0.heap) (d0:=r.ret.enc (Codec.app r.args r.f a)) KX G.T.g G.T.b G.T.builtins G.T.nolimit hg hwl (pl_encAll _ _) (layable_weight hlay) hr hF hb (by rw[encAll_len];exact hlen) (λH xs hO hS=>hsp w H xs a hO hwi e2 hS) λH e s'=>hCX w H s₁ e s') λr' s' hq=>?_);obtain⟨u,as',rfl,h1,h2,h3,h4⟩:=hq;exact⟨.inl ⟨u,_,as',rfl,λ_=>rfl,h1,(OpenSpec.post_iff hwell hwi _ _).mpr rfl,λz=>cE (show false=true from z)⟩,h2,h3,h4⟩
theorem walk_specK{r:OpenSpec}{k:Nat}{q:Program}{loose:List Str}{XP:(Str->Option Value)->Heap->Prop}{YP:World->Heap->Prop}{d:DefRec}{K:Params->aj}{CX:DH}{ps:List Str}{sp:aj->Sp}(hwell:r.wellSaid=true)(hdf:d.params.defaults=[])(hlen:r.args.length=ps.length)(hr:cT k callerA)(hY:∀(w:World)(h:Heap),YP w h->(K w.params).In h)(F:∀(w:World)(mg:Str->Option Value)(fa:Addr)(h:Heap),YP w h->(K w.params).In h->h.Ns mainGlobals mg->mg d.name=some (.ref fa)->∃fd:FuncData,(∀(s:Shared)(us:List Value),us.length=ps.length->BindsTo s fd ⟨us,[]⟩ (ps.zip us))/\∀base:Heap,(K w.params).In base->base.Ns mainGlobals mg->ck r.prog w (K w.params) mg base CX k fa fd ps (sp (K w.params)))(hsp:∀(K:aj)(H:Hp)(xs:List V)(a:Codec.denoteAll r.args),OnlyF H->Codec.withinAll r.args a=true->Codec.app r.args r.asked a=true->mV K H xs (Codec.encAll r.args a)->sp K xs H (λv H'=>Dw K H' v (r.ret.enc (Codec.app r.args r.f a))) λ_ _ _=>False)(hCX:∀(H:Hp)(s:Shared)(e:Value)(s':Shared),CX [] H s (λ_ _ _=>False) e s'->False):PySem.W.WalkOS q loose XP YP r d [] (λf vs=>PySem.call f vs):=walk_spec (K:=K) (CX:=λ_=>CX) (sp:=λw=>sp (K w.params)) hwell hdf hlen hr hY F (λw H xs a h1 h2 h3 h4=>hsp (K w.params) H xs a h1 h2 h3 h4) λ_ H s e s'=>hCX H s e s'
end L2
end
namespace Wk
open Vastof
abbrev n6(l:List Nat):Prop:=l.Pairwise (·<·)
theorem mo{x y:Nat}:∀{l:List Nat},y∈putPlace x l↔y=x\/y∈l
 |[]=>by simp[putPlace]
 |z::r=>by
  unfold putPlace;split
  ·simp
  ·split
   ·rename_i h1 h2;subst h2;simp
   ·simp[mo (l:=r)];constructor
    ·rintro(h|h|h)<;>simp[h]
    ·rintro(h|h|h)<;>simp[h]
theorem mq{x:Nat}:∀{l:List Nat},n6 l->n6 (putPlace x l)
 |[],_=>by simp[putPlace,n6]
 |z::r,h=>by
  unfold putPlace;have h':=cj.mp h;split
  ·rename_i h1;refine cj.mpr ⟨λy hy=>?_,h⟩;rcases aF.mp hy with rfl|hy
   ·exact h1
   ·exact Nat.lt_trans h1 (h'.1 y hy)
  ·split
   ·exact h
   ·refine cj.mpr ⟨λy hy=>?_,mq h'.2⟩;rcases mo.mp hy with rfl|hy
    ·omega
    ·exact h'.1 y hy
theorem pZ{y:Nat}{s:List Nat}:∀{l:List Nat},y∈putAll l s↔y∈l\/y∈s
 |[]=>by simp[putAll]
 |x::l=>by show y∈putPlace x (putAll l s)↔_;rw[mo,pZ (l:=l),aF,or_assoc]
theorem p0{s:List Nat}(h:n6 s):∀(l:List Nat),n6 (putAll l s)
 |[]=>h
 |_::l=>mq (p0 h l)
theorem bA{y:Nat}{l:List Nat}:y∈placeSet l↔y∈l:=by unfold placeSet;rw[pZ];simp
theorem cb(l:List Nat):n6 (placeSet l):=p0 .nil l
theorem n6.nodup{l:List Nat}(h:n6 l):l.Nodup:=List.Pairwise.imp (λh=>bF h) h
theorem n6.ext:∀{l m:List Nat},n6 l->n6 m->(∀x,x∈l↔x∈m)->l=m
 |[],[],_,_,_=>rfl
 |[],y::m,_,_,h=>by have:=(h y).mpr (by simp);simp at this
 |x::l,[],_,_,h=>by have:=(h x).mp (by simp);simp at this
 |x::l,y::m,hl,hm,h=>by
  have hl':=cj.mp hl;have hm':=cj.mp hm;have exy:x=y:=by
   have h1:=(h x).mp (by simp);have h2:=(h y).mpr (by simp);rcases aF.mp h1 with e|h1
   ·exact e
   rcases aF.mp h2 with e|h2
   ·exact e.symm
   have:=hl'.1 y h2;have:=hm'.1 x h1;omega
  subst exy;congr 1;refine n6.ext hl'.2 hm'.2 λz=>?_;have hz:=h z;constructor
  ·intro q;have:=hl'.1 z q;rcases aF.mp (hz.mp (aJ _ q))with e|e
   ·omega
   ·exact e
  ·intro q;have:=hm'.1 z q;rcases aF.mp (hz.mpr (aJ _ q))with e|e
   ·omega
   ·exact e
theorem uP{l m:List Nat}(h:∀x,x∈l↔x∈m):placeSet l=placeSet m:=(cb l).ext (cb m) λx=>by rw[bA,bA,h x]
theorem fV{c:Nat}:digit c=true↔48<=c/\c<=57:=by simp[digit]
theorem wx(t:Text)(n:Nat):t.foldl (λn c=>10*n+(c-48)) n=n*10^t.length+valueOf t:=by
 induction t generalizing n with
 |nil=>simp[valueOf]
 |cons c t ih=>
  unfold valueOf
  simp only[lM,bG]
  rw[ih,ih (10*0+(c-48))]
  simp only[Nat.mul_zero,qw]
  rw[Nat.add_mul,xj]
  have e:10*n*10^t.length=n*(10^t.length*10):=by rw[Nat.mul_comm 10 n,Nat.mul_assoc,Nat.mul_comm 10]
  omega
theorem qJ(c:Nat)(t:Text):valueOf (c::t)=(c-48)*10^t.length+valueOf t:=by show List.foldl _ _ _=_;rw[lM,wx];simp
theorem qK(t:Text)(c:Nat):valueOf (t++[c])=10*valueOf t+(c-48):=by unfold valueOf;rw[Iy];rfl
theorem uQ:∀{t:Text},(∀c∈t,digit c=true)->valueOf t<10^t.length
 |[],_=>by simp[valueOf]
 |c::t,h=>by rw[qJ,bG,xj];have h1:=uQ (t:=t) λd hd=>h d (aJ _ hd);have h2:=fV.mp (h c (by simp));have h3:(c-48)*10^t.length<=9*10^t.length:=GL _ (by omega);omega
theorem uR{c:Nat}{t:Text}(h:digit c=true)(hc:c≠48):10^t.length<=valueOf (c::t):=by rw[qJ];have h2:=fV.mp h;have h3:1*10^t.length<=(c-48)*10^t.length:=GL _ (by omega);omega
theorem kM:∀(k n:Nat),n<k->digitsFrom (k+1) n=digitsFrom k n
 |0,_,h=>by omega
 |k+1,n,h=>by
  show(if n<10 then[48+n]else digitsFrom (k+1) (n/10)++[48+n%10])=(if n<10 then[48+n]else digitsFrom k (n/10)++[48+n%10]);split
  ·rfl
  ·rw[kM k (n/10) (by omega)]
theorem uS:∀(k n:Nat),n<k->digitsFrom k n=decimal n:=by
 intro k n h;unfold decimal;induction k with
 |zero=>omega
 |succ k ih=>
  by_cases e:n<k
  ·rw[kM k n e,ih e]
  ·have:n=k:=by omega
   subst this;rfl
theorem gO{n:Nat}(h:n<10):decimal n=[48+n]:=by unfold decimal;rw[digitsFrom,if_pos h]
theorem kN{n:Nat}(h:¬n<10):decimal n=decimal (n/10)++[48+n%10]:=by
 conv=>lhs;unfold decimal
 rw[digitsFrom,if_neg h,uS n (n/10) (by omega)]
theorem wy:∀(k:Nat)(t:Text),t.length=k->(∀c∈t,digit c=true)->oneWay t=true->decimal (valueOf t)=t:=by
 intro k;induction k with
 |zero=>intro t h0 _ h;have:t=[]:=bP h0;subst this;simp[oneWay]at h
 |succ k ih=>
  intro t hk hd ho
  obtain⟨u,c,rfl⟩:∃u c,t=u++[c]:=by
   have hne:t≠[]:=by intro e;subst e;simp at hk
   exact⟨t.dropLast,t.getLast hne,(List.dropLast_concat_getLast hne).symm⟩
  have hc:=fV.mp (hd c (by simp))
  cases u with
  |nil=>
   have e:valueOf ([]++[c])=c-48:=by simp[valueOf]
   rw[e,gO (by omega)]
   simp;omega
  |cons a u=>
   have ha:=fV.mp (hd a (by simp))
   have hne:a≠48:=by intro e;subst e;simp[oneWay]at ho
   have ho':oneWay (a::u)=true:=by simp[oneWay,hne]
   have hu:=ih (a::u) (by simp at hk⊢;omega) (λd hd'=>hd d (by simp at hd'⊢;grind)) ho'
   have hge:=uR (t:=u) (fV.mpr ha) hne
   have hpos:1<=10^u.length:=Nat.one_le_pow _ _ (by omega)
   rw[qK,kN (by omega)]
   have e1:(10*valueOf (a::u)+(c-48))/10=valueOf (a::u):=by omega
   have e2:(10*valueOf (a::u)+(c-48))%10=c-48:=by omega
   rw[e1,e2,hu]
   have e3:48+(c-48)=c:=by omega
   rw[e3]
end Wk
namespace Wk
open Vastof
def jZ(t:Text)(i:Nat):Nat:=if oneWay ((t.drop i).takeWhile digit)=true then i+((t.drop i).takeWhile digit).length else i
def jl(t:Text)(a b:Nat):Nat:=if b-a>19 then 10000000000000000000 else valueOf ((t.drop a).take (b-a))
def uT(n:Nat):Nat:=min n 10000000000000000000
def fC(t:Text)(i c:Nat):Bool:=t[i]?==some c
def fD(t:Text)(i:Nat):Nat:=if t[i]?=some 64 then(if jZ t (i+1)>i+1/\fC t (jZ t (i+1)) 59=true then jZ t (i+1)else i)else i
def fq(t:Text):Nat->Nat->List (Nat×Nat)
 |0,_=>[]
 |k+1,i=>if i<t.length then(if fD t i>i then(i+1,fD t i)::fq t k (fD t i+1)else fq t k (i+1))else[]
def spans(t:Text):List (Nat×Nat):=fq t (t.length+1) 0
theorem iq(p:Nat->Bool):∀(l:List Nat),l.take (l.takeWhile p).length=l.takeWhile p
 |[]=>rfl
 |a::l=>by
  rw[fX];split
  ·simp[iq p l]
  ·simp
theorem j0(p:Nat->Bool):∀(l:List Nat),l.drop (l.takeWhile p).length=l.dropWhile p
 |[]=>rfl
 |a::l=>by
  rw[fX,List.dropWhile_cons];split
  ·simp[j0 p l]
  ·simp
theorem takeWhile_all(p:Nat->Bool):∀(l:List Nat),∀c∈l.takeWhile p,p c=true
 |[],c,h=>by simp at h
 |a::l,c,h=>by
  rw[fX]at h;split at h
  ·rename_i h1;rcases aF.mp h with rfl|h
   ·exact h1
   ·exact takeWhile_all p l c h
  ·simp at h
theorem uU{ds:Text}(h:oneWay ds=true):0<ds.length:=by
 cases ds with
 |nil=>simp[oneWay]at h
 |cons a l=>simp
theorem CW{ds:Text}(hd:∀c∈ds,digit c=true)(ho:oneWay ds=true):(if ds.length>19 then 10000000000000000000 else valueOf ds)=uT (valueOf ds):=by
 unfold uT;split
 ·rename_i h;cases ds with
  |nil=>simp at h
  |cons a u=>
   have hne:a≠48:=by
    intro e;subst e;cases u with
    |nil=>simp at h
    |cons b v=>simp[oneWay]at ho
   have:=uR (t:=u) (hd a (by simp)) hne
   have h2:10^19<=10^u.length:=tq (by omega) (by simp at h;omega)
   omega
 ·rename_i h;have:=uQ hd;have h2:10^ds.length<=10^19:=tq (by omega) (by omega);omega
theorem mr(t:Text)(i:Nat)(r:Text)(hi:t.drop i=64::r):(fD t i>i/\∃ds,ds=(t.drop (i+1)).take (fD t i-(i+1))/\(∀c∈ds,digit c=true)/\oneWay ds=true/\ds.length=fD t i-(i+1)/\i+1<fD t i/\fD t i<t.length/\t.drop (fD t i)=59::t.drop (fD t i+1)/\mentionAt r=some (valueOf ds,t.drop (fD t i+1))/\jl t (i+1) (fD t i)=uT (valueOf ds))\/(fD t i=i/\mentionAt r=none):=by
 have hr:t.drop (i+1)=r:=by
  have:t.drop (i+1)=(t.drop i).drop 1:=by rw[cQ]
  rw[this,hi];rfl
 have h64:t[i]?=some 64:=by
  have:(t.drop i)[0]?=t[i]?:=by rw[cz];simp
  rw[<-this,hi];rfl
 unfold fD;rw[if_pos h64];unfold mentionAt;have hdrop:=j0 digit r;have htake:=iq digit r;generalize hds:r.takeWhile digit=ds at*;have hall:∀c∈ds,digit c=true:=by rw[<-hds];exact takeWhile_all digit r
 have hn:jZ t (i+1)=if oneWay ds=true then i+1+ds.length else i+1:=by unfold jZ;rw[hr,hds]
 by_cases ho:oneWay ds=true
 ·rw[if_pos ho]at hn;have hpos:=uU ho;rw[hn];have hst:fC t (i+1+ds.length) 59=true↔(r.dropWhile digit).head?=some 59:=by unfold fC;rw[<-hdrop,List.head?_drop,<-hr,cz];simp
  by_cases h59:(r.dropWhile digit).head?=some 59
  ·left;rw[if_pos ⟨by omega,hst.mpr h59⟩];obtain⟨r',hr'⟩:∃r',r.dropWhile digit=59::r':=by
    cases e:r.dropWhile digit with
    |nil=>rw[e]at h59;simp at h59
    |cons a b=>rw[e]at h59;simp at h59;exact⟨b,by rw[h59]⟩
   have e1:t.drop (i+1+ds.length)=59::r':=by rw[<-cQ,hr,hdrop,hr']
   have e2:t.drop (i+1+ds.length+1)=r':=by
    have:t.drop (i+1+ds.length+1)=(t.drop (i+1+ds.length)).drop 1:=by rw[cQ]
    rw[this,e1];rfl
   have hlt:i+1+ds.length<t.length:=by have:=congrArg jc e1;simp at this;omega
   have esub:i+1+ds.length-(i+1)=ds.length:=by omega
   refine⟨by omega,ds,?_,hall,ho,by omega,by omega,hlt,by rw[e1,e2],?_,?_⟩
   ·rw[hr,esub,htake]
   ·rw[hr'];simp[ho,e2]
   ·unfold jl;rw[esub,hr,htake];exact CW hall ho
  ·right;have hnot:¬fC t (i+1+ds.length) 59=true:=λh=>h59 (hst.mp h);rw[if_neg (λh=>hnot h.2)];refine⟨rfl,?_⟩;cases e:r.dropWhile digit with
   |nil=>rfl
   |cons a b=>
    rw[e]at h59
    simp at h59
    split
    ·rename_i h;injection h with h1 h2;exact absurd h1 h59
    ·rfl
 ·right;rw[if_neg ho]at hn;rw[hn,if_neg (by omega)];refine⟨rfl,?_⟩;split
  ·simp[ho]
  ·rfl
theorem p5(t:Text)(i c:Nat)(r:Text)(hi:t.drop i=c::r)(hc:c≠64):fD t i=i:=by
 have h64:t[i]?=some c:=by
  have:(t.drop i)[0]?=t[i]?:=by rw[cz];simp
  rw[<-this,hi];rfl
 unfold fD;rw[h64,if_neg (by simp;exact hc)]
theorem jm{t:Text}{i:Nat}(h:i<t.length):∃c,t.drop i=c::t.drop (i+1):=⟨t[i],df h⟩
theorem ir(t:Text):∀(k i k':Nat),t.length<k+i->(t.drop i).length<k'->(fq t k i).map (λs=>jl t s.1 s.2)=((piecesIn k' (t.drop i)).filterMap λx=>match x with|.mention n=>some n|.byte _=>none).map uT
 |0,i,k',h,h'=>by
  have e:t.drop i=[]:=gr (by omega);rw[e];cases k'<;>rfl
 |k+1,i,k',h,h'=>by
  unfold fq;by_cases hi:i<t.length
  ·rw[if_pos hi];obtain⟨c,hc⟩:=jm hi;obtain⟨k',rfl⟩:∃m,k'=m+1:=⟨k'-1,by omega⟩;have hlen:(t.drop (i+1)).length<k':=by have:=congrArg jc hc;simp at this h'⊢;omega
   by_cases h64:c=64
   ·subst h64;rcases mr t i _ hc with⟨h1,ds,_,_,_,_,h6,h7,_,h9,h10⟩|⟨h1,h2⟩
    ·rw[if_pos h1,hc];unfold piecesIn;rw[if_pos rfl,h9];simp only[bo,eQ];rw[h10];congr 1;exact ir t k _ k' (by omega) (by simp at hlen⊢;omega)
    ·rw[if_neg (by omega),hc];unfold piecesIn;rw[if_pos rfl,h2];simp only[eQ];exact ir t k _ k' (by omega) hlen
   ·rw[p5 t i c _ hc h64,if_neg (by omega),hc];unfold piecesIn;rw[if_neg h64];simp only[eQ];exact ir t k _ k' (by omega) hlen
  ·rw[if_neg hi];have e:t.drop i=[]:=gr (by omega);rw[e];cases k'<;>rfl
theorem k5(t:Text):(spans t).map (λs=>jl t s.1 s.2)=(mentions t).map uT:=ir t (t.length+1) 0 (t.length+1) (by omega) (by simp)
def gA(names:Nat->Option Nat)(t:Text):List (Nat×Nat)->Nat->Text->Text
 |[],done,acc=>acc++t.drop done
 |(a,b)::S,done,acc=>match names (jl t a b)with
  |some m=>gA names t S b ((acc++(t.drop done).take (a-done))++decimal m)
  |none=>gA names t S done acc
def uq(names:Nat->Option Nat)(t:Text):Text:=gA names t (spans t) 0 []
theorem kO(names:Nat->Option Nat)(t:Text):∀(S:List (Nat×Nat))(done:Nat)(acc:Text),gA names t S done acc=acc++gA names t S done []
 |[],done,acc=>by simp[gA]
 |(a,b)::S,done,acc=>by
  unfold gA;split
  ·rw[kO names t S b,kO names t S b (([]++_)++_)];simp
  ·exact kO names t S done acc
theorem gB{t:Text}{d i j:Nat}(h1:d<=i)(h2:i<=j):(t.drop d).take (j-d)=(t.drop d).take (i-d)++(t.drop i).take (j-i):=by
 have e:j-d=(i-d)+(j-i):=by omega
 have e2:d+(i-d)=i:=by omega
 rw[e,List.take_add,cQ,e2]
theorem ym{t:Text}{d i:Nat}(h1:d<=i):t.drop d=(t.drop d).take (i-d)++t.drop i:=by
 have e2:d+(i-d)=i:=by omega
 conv=>lhs;rw[<-FE (i-d) (t.drop d)]
 rw[cQ,e2]
theorem jJ(names:Nat->Option Nat)(f:Nat->Nat)(t:Text)(hf:∀n,f n=(names (uT n)).getD n):∀(k i k' done:Nat),t.length<k+i->(t.drop i).length<k'->done<=i->i<=t.length->gA names t (fq t k i) done []=(t.drop done).take (i-done)++(piecesIn k' (t.drop i)).flatMap λx=>match x with|.mention n=>mention (f n)|.byte b=>[b]
 |0,i,k',done,h,h',hd,hle=>by omega
 |k+1,i,k',done,h,h',hd,hle=>by
  unfold fq;by_cases hi:i<t.length
  ·rw[if_pos hi];obtain⟨c,hc⟩:=jm hi;obtain⟨k',rfl⟩:∃m,k'=m+1:=⟨k'-1,by omega⟩;have hlen:(t.drop (i+1)).length<k':=by have:=congrArg jc hc;simp at this h'⊢;omega
   have one:(t.drop i).take (i+1-i)=[c]:=by
    rw[hc];have:i+1-i=1:=by omega
    rw[this];rfl
   by_cases h64:c=64
   ·subst h64;rcases mr t i _ hc with⟨h1,ds,h2,h3,h4,h5,h6,h7,h8,h9,h10⟩|⟨h1,h2⟩
    ·rw[if_pos h1,hc];unfold piecesIn;rw[if_pos rfl,h9];simp only[gK];unfold gA;rw[h10];have hone:(t.drop (fD t i)).take (fD t i+1-fD t i)=[59]:=by
      rw[h8];have:fD t i+1-fD t i=1:=by omega
      rw[this];rfl
     have hrec:=λdone hd=>jJ names f t hf k (fD t i+1) k' done (by omega) (by simp at hlen⊢;omega) hd (by omega);cases hn:names (uT (valueOf ds))with
     |some m=>
      simp only
      rw[kO,hrec (fD t i) (by omega),hone]
      have efm:f (valueOf ds)=m:=by rw[hf,hn];rfl
      rw[efm,gB hd (by omega:i<=i+1),one]
      unfold mention
      simp
     |none=>
      simp only
      rw[hrec done (by omega)]
      have efm:f (valueOf ds)=valueOf ds:=by rw[hf,hn];rfl
      rw[efm]
      unfold mention
      rw[wy _ ds rfl h3 h4,gB hd (by omega:i<=fD t i+1),gB (by omega:i<=i+1) (by omega:i+1<=fD t i+1),one,gB (by omega:i+1<=fD t i) (by omega:fD t i<=fD t i+1),hone,<-h2]
      simp
    ·rw[if_neg (by omega),hc];unfold piecesIn;rw[if_pos rfl,h2];simp only[gK];rw[jJ names f t hf k (i+1) k' done (by omega) hlen (by omega) (by omega),gB hd (by omega:i<=i+1),one];simp
   ·rw[p5 t i c _ hc h64,if_neg (by omega),hc];unfold piecesIn;rw[if_neg h64];simp only[gK];rw[jJ names f t hf k (i+1) k' done (by omega) hlen (by omega) (by omega),gB hd (by omega:i<=i+1),one];simp
  ·rw[if_neg hi];have e:t.drop i=[]:=gr (by omega);have e2:i=t.length:=by omega
   rw[e];have e3:piecesIn k' ([]:Text)=[]:=by cases k'<;>rfl
   rw[e3];simp only[gA,List.flatMap_nil,cP,qC];have e4:=ym (t:=t) hd;rw[e,cP]at e4;exact e4
theorem A2(names:Nat->Option Nat)(f:Nat->Nat)(t:Text)(hf:∀n,f n=(names (uT n)).getD n):uq names t=renamed f t:=by have:=jJ names f t hf (t.length+1) 0 (t.length+1) 0 (by omega) (by simp) (by omega) (by omega);unfold uq spans renamed pieces;rw[this];simp only[Nat.sub_self,BK,qC,List.drop_zero];rfl
end Wk
namespace Wk
open Vastof
def keys(g:Graph):List Nat:=g.map λx=>x.1
structure CY(g:Graph):Prop where
 asc:n6 (keys g)
 refs:∀x∈g,n6 x.2/\∀y∈x.2,y∈keys g
theorem find_key{α:Type}{g:List (Nat×α)}{p:Nat}{x:Nat×α}(h:(g.find? λx=>x.1==p)=some x):x∈g/\x.1=p:=⟨fI h,by have:=AE h;simpa using this⟩
theorem find_none{α:Type}{g:List (Nat×α)}{p:Nat}(h:(g.find? λx=>x.1==p)=none):p∉g.map λx=>x.1:=by intro hm;obtain⟨x,hx,e⟩:=az.mp hm;have:=wj.mp h x hx;simp[e]at this
theorem h_{α:Type}{g:List (Nat×α)}(hn:(g.map λx=>x.1).Nodup){x:Nat×α}(hx:x∈g):(g.find? λy=>y.1==x.1)=some x:=by
 induction g with
 |nil=>simp at hx
 |cons a g ih=>
  rw[bo,bO]at hn
  rcases aF.mp hx with rfl|hx
  ·simp
  ·rw[fK];have:a.1≠x.1:=λe=>hn.1 (e▸az.mpr ⟨x,hx,rfl⟩);rw[beq_eq_false_iff_ne.mpr this];exact ih hn.2 hx
theorem iO{g:Graph}(h:CY g){x:Nat×List Nat}(hx:x∈g):listAt g x.1=x.2:=by unfold listAt;rw[h_ h.asc.nodup hx]
theorem kP{g:Graph}(h:CY g){p q:Nat}(hq:q∈listAt g p):q∈keys g:=by
 unfold listAt at hq;cases e:g.find? λx=>x.1==p with
 |none=>rw[e]at hq;simp at hq
 |some x=>rw[e]at hq;exact(h.refs x (find_key e).1).2 q hq
theorem uV{g:Graph}(h:CY g)(p:Nat):n6 (listAt g p):=by
 unfold listAt;cases e:g.find? λx=>x.1==p with
 |none=>exact .nil
 |some x=>exact(h.refs x (find_key e).1).1
theorem aO:∀{l m:List Nat},l.Nodup->(∀x∈l,x∈m)->l.length<=m.length
 |[],_,_,_=>by simp
 |a::l,m,hn,h=>by
  have hn':=bO.mp hn;have ha:=h a (by simp);have:=aO (l:=l) (m:=m.erase a) hn'.2 λx hx=>by have hne:x≠a:=λe=>hn'.1 (e▸hx);exact(GN hne).mpr (h x (aJ _ hx))
  rw[DC ha]at this;have:0<m.length:=List.length_pos_of_mem ha;simp;omega
theorem uX{g:Graph}(h:CY g)(p:Nat):(listAt g p).length<=g.length:=by have:=aO (uV h p).nodup λx hx=>kP h hx;simpa[keys]using this
inductive Reach(g:Graph):Nat->Nat->Prop
 |refl (p:Nat):Reach g p p
 |step {p q r:Nat}:Reach g p q->r∈listAt g q->Reach g p r
theorem Reach.trans{g:Graph}{p q r:Nat}(a:Reach g p q)(b:Reach g q r):Reach g p r:=by
 induction b with
 |refl=>exact a
 |step _ h ih=>exact .step ih h
theorem Reach.keys{g:Graph}(h:CY g){p q:Nat}(a:Reach g p q)(hp:p∈keys g):q∈keys g:=by
 induction a with
 |refl=>exact hp
 |step _ h' _=>exact kP h h'
theorem Reach.closed{g:Graph}{S:Nat->Prop}(hS:∀p q,S p->q∈listAt g p->S q){p q:Nat}(a:Reach g p q)(hp:S p):S q:=by
 induction a with
 |refl=>exact hp
 |step _ h' ih=>exact hS _ _ ih h'
theorem rQ{l m:List Nat}(hl:n6 l)(hm:n6 m)(h:∀x∈l,x∈m)(hlen:m.length<=l.length):l=m:=by
 refine hl.ext hm λx=>⟨h x,λhx=>?_⟩;apply d8;intro hn;have:=aO (l:=x::l) (m:=m) (bO.mpr ⟨hn,hl.nodup⟩) λy hy=>by
  rcases aF.mp hy with rfl|hy
  ·exact hx
  ·exact h y hy
 simp at this;omega
theorem uY{g:Graph}(h:CY g):∀(k:Nat)(l:List Nat),n6 l->(∀x∈l,x∈keys g)->n6 (grown g k l)/\(∀x∈l,x∈grown g k l)/\(∀x∈grown g k l,∃p∈l,Reach g p x)/\(g.length<l.length+k\/l=[]->∀p q,p∈grown g k l->q∈listAt g p->q∈grown g k l)
 |0,l,hl,hk=>by
  refine⟨hl,λx hx=>hx,λx hx=>⟨x,hx,.refl x⟩,λhh=>?_⟩;rcases hh with hh|rfl
  ·have:=aO hl.nodup hk;simp[keys]at this;omega
  ·intro p q hp;simp[grown]at hp
 |k+1,l,hl,hk=>by
  rw[grown];generalize hm:putAll (l.flatMap (listAt g)) l=m;have hma:n6 m:=by rw[<-hm];exact p0 hl _
  have hmm:∀x,x∈m↔(∃p∈l,x∈listAt g p)\/x∈l:=λx=>by rw[<-hm,pZ,pC]
  split
  ·rename_i he;refine⟨hl,λx hx=>hx,λx hx=>⟨x,hx,.refl x⟩,λ_ p q hp hq=>?_⟩;rw[<-he];exact(hmm q).mpr (.inl ⟨p,hp,hq⟩)
  ·rename_i hne;have hsub:∀x∈l,x∈m:=λx hx=>(hmm x).mpr (.inr hx);have hlt:l.length<m.length:=by apply d8;intro hc;exact hne (rQ hl hma hsub (by omega)).symm
   have hmk:∀x∈m,x∈keys g:=λx hx=>by
    rcases(hmm x).mp hx with⟨p,_,h2⟩|h2
    ·exact kP h h2
    ·exact hk x h2
   obtain⟨a1,a2,a3,a4⟩:=uY h k m hma hmk;refine⟨a1,λx hx=>a2 x (hsub x hx),λx hx=>?_,λhh=>a4 ?_⟩
   ·obtain⟨p,hp,hr⟩:=a3 x hx;rcases(hmm p).mp hp with⟨p',h1,h2⟩|h2
    ·exact⟨p',h1,(Reach.step (.refl p') h2).trans hr⟩
    ·exact⟨p,h2,hr⟩
   ·rcases hh with hh|rfl
    ·left;omega
    ·exact absurd hm.symm (by simpa[putAll]using hne)
theorem eE{g:Graph}(h:CY g){goals:List Nat}(hg:∀x∈goals,x∈keys g):n6 (closure g goals)/\∀x,x∈closure g goals↔∃p∈goals,Reach g p x:=by
 obtain⟨a1,a2,a3,a4⟩:=uY h g.length (placeSet goals) (cb goals) λx hx=>hg x (bA.mp hx);refine⟨a1,λx=>⟨λhx=>?_,λ⟨p,hp,hr⟩=>?_⟩⟩
 ·obtain⟨p,hp,hr⟩:=a3 x hx;exact⟨p,bA.mp hp,hr⟩
 ·have hc:g.length<(placeSet goals).length+g.length\/placeSet goals=[]:=by
   cases e:placeSet goals with
   |nil=>right;rfl
   |cons a b=>left;simp
  exact hr.closed (S:=λy=>y∈closure g goals) (λp q hp hq=>a4 hc p q hp hq) (a2 p (bA.mpr hp))
theorem jK{g:Graph}(h:CY g){goals:List Nat}(hg:∀x∈goals,x∈keys g){x:Nat}(hx:x∈closure g goals):x∈keys g:=by obtain⟨p,hp,hr⟩:=((eE h hg).2 x).mp hx;exact hr.keys h (hg p hp)
end Wk
namespace Wk
open Vastof
def eN(t:Text)(i:Nat):Option Nat:=if jZ t i=i\/jZ t i-i>9 then none else if fC t (jZ t i) 58=true then some (jZ t i)else none
def gP(t:Text)(i:Nat):Option (Nat×Text×Nat):=match eN t i with
 |none=>none
 |some pe=>match eN t (pe+1)with
  |none=>none
  |some le=>if fC t (le+1+jl t (pe+1) le) 10=true then some (jl t i pe,(t.drop (le+1)).take (jl t (pe+1) le),le+1+jl t (pe+1) le+1)else none
theorem mw{t:Text}{i c:Nat}:fC t i c=true↔∃r,t.drop i=c::r:=by
 unfold fC;constructor
 ·intro h;have h':t[i]?=some c:=by simpa using h
  obtain⟨hi,e⟩:=aM.mp h';exact⟨t.drop (i+1),by rw[df hi,e]⟩
 ·rintro⟨r,hr⟩;have:(t.drop i)[0]?=t[i]?:=by rw[cz];simp
  rw[<-this,hr];simp
theorem jf{t:Text}{i c:Nat}(h:fC t i c=true):i<t.length/\t.drop i=c::t.drop (i+1):=by
 obtain⟨r,hr⟩:=mw.mp h;have hi:i<t.length:=by have:=congrArg jc hr;simp at this;omega
 refine⟨hi,?_⟩;rw[df hi]at hr⊢;injection hr with h1 h2;rw[h1]
theorem p8(t:Text)(i:Nat):(eN t i=none/\numberAt (t.drop i)=none)\/∃e,eN t i=some e/\i<e/\e<t.length/\numberAt (t.drop i)=some (jl t i e,t.drop (e+1)):=by
 unfold eN numberAt;have hdrop:=j0 digit (t.drop i);have htake:=iq digit (t.drop i);have hn:jZ t i=if oneWay ((t.drop i).takeWhile digit)=true then i+((t.drop i).takeWhile digit).length else i:=rfl;generalize (t.drop i).takeWhile digit=ds at*;simp only;by_cases ho:oneWay ds=true
 ·rw[if_pos ho]at hn;have hpos:=uU ho;rw[hn];rw[cQ]at hdrop;by_cases h9:ds.length<=9
  ·rw[if_neg (by omega)];by_cases h58:fC t (i+ds.length) 58=true
   ·right;rw[if_pos h58];obtain⟨hlt,hd⟩:=jf h58;refine⟨_,rfl,by omega,hlt,?_⟩;rw[<-hdrop,hd];have esub:i+ds.length-i=ds.length:=by omega
    have en:jl t i (i+ds.length)=valueOf ds:=by unfold jl;rw[esub,if_neg (by omega),htake]
    simp[ho,h9,en]
   ·left;rw[if_neg h58];refine⟨rfl,?_⟩;rw[<-hdrop];split
    ·rename_i r hr;exact absurd (mw.mpr ⟨r,hr⟩) h58
    ·rfl
  ·left;rw[if_pos (by omega)];refine⟨rfl,?_⟩;split
   ·simp[h9]
   ·rfl
 ·left;rw[if_neg ho]at hn;rw[hn,if_pos (.inl rfl)];refine⟨rfl,?_⟩;split
  ·simp[ho]
  ·rfl
theorem yn(t:Text)(k i:Nat):(fC t i 46=true/\recordsIn (k+1) (t.drop i)=if i+1<t.length then none else some [])\/(fC t i 46=false/\gP t i=none/\recordsIn (k+1) (t.drop i)=none)\/(fC t i 46=false/\∃p x e,gP t i=some (p,x,e)/\i<e/\e<=t.length/\x.length<t.length/\recordsIn (k+1) (t.drop i)=(recordsIn k (t.drop e)).map λl=>(p,x)::l):=by
 by_cases h46:fC t i 46=true
 ·left;refine⟨h46,?_⟩;obtain⟨hlt,hd⟩:=jf h46;rw[recordsIn];by_cases hl:i+1<t.length
  ·rw[if_pos hl,if_neg]
   ·have:numberAt (t.drop i)=none:=by rw[hd];unfold numberAt;simp[digit]
    rw[this];rfl
   ·intro e;have:=congrArg jc e;simp at this;omega
  ·rw[if_neg hl,if_pos];rw[hd,gr (by omega)]
 ·right;have h46':fC t i 46=false:=by simpa using h46
  have hne:¬t.drop i=[46]:=λe=>h46 (mw.mpr ⟨[],e⟩);rw[recordsIn,if_neg hne];unfold gP;rcases p8 t i with⟨f1,f2⟩|⟨pe,f1,f3,f4,f2⟩
  ·left;rw[f1,f2];exact⟨h46',rfl,rfl⟩
  ·rw[f1,f2];simp only[ie];rcases p8 t (pe+1)with⟨g1,g2⟩|⟨le,g1,g3,g4,g2⟩
   ·left;rw[g1,g2];exact⟨h46',rfl,rfl⟩
   ·rw[g1,g2];simp only[ie];generalize hn:jl t (pe+1) le=n;rw[cQ];by_cases h10:fC t (le+1+n) 10=true
    ·right;obtain⟨hlt,hd⟩:=jf h10;rw[if_pos h10,if_neg (by simp;omega),hd];exact⟨h46',_,_,_,rfl,by omega,by omega,by simp;omega,rfl⟩
    ·left;rw[if_neg h10];refine⟨h46',rfl,?_⟩;split
     ·rfl
     ·split
      ·rename_i r hr;exact absurd (mw.mpr ⟨r,hr⟩) h10
      ·rfl
theorem gC:∀{l:List Nat},distinct l=true↔l.Nodup
 |[]=>by simp[distinct]
 |a::l=>by simp[distinct,gC (l:=l)]
def iu{α:Type}:List α->List α
 |[]=>[]
 |[a]=>[a]
 |a::_::r=>a::iu r
theorem mx:∀{l:List Int},pairsOf l=none↔l.length%2=1\/∃x∈l,x<0
 |[]=>by simp[pairsOf]
 |[a]=>by simp[pairsOf]
 |a::b::r=>by
  unfold pairsOf;have ih:=mx (l:=r);by_cases h:a<0\/b<0
  ·rw[if_pos h];refine⟨λ_=>.inr ?_,λ_=>rfl⟩;rcases h with h|h
   ·exact⟨a,by simp,h⟩
   ·exact⟨b,by simp,h⟩
  ·rw[if_neg h,Fw,ih];have:(a::b::r).length%2=r.length%2:=by simp;omega
   rw[this];refine or_congr Iff.rfl ⟨λ⟨x,hx,h0⟩=>⟨x,by simp[hx],h0⟩,λ⟨x,hx,h0⟩=>?_⟩;rcases aF.mp hx with rfl|hx
   ·exact absurd h0 (by omega)
   ·rcases aF.mp hx with rfl|hx
    ·exact absurd h0 (by omega)
    ·exact⟨x,hx,h0⟩
theorem my:∀{l:List Int}{r:List (Nat×Nat)},pairsOf l=some r->l=r.flatMap λx=>[(x.1:Int),(x.2:Int)]
 |[],r,h=>by simp[pairsOf]at h;subst h;rfl
 |[a],r,h=>by simp[pairsOf]at h
 |a::b::l,r,h=>by
  unfold pairsOf at h;split at h
  ·cases h
  ·rename_i hn;cases e:pairsOf l with
   |none=>rw[e]at h;cases h
   |some s=>
    rw[e]at h
    have h':(a.toNat,b.toNat)::s=r:=by simpa using h
    subst h'
    rw[gK,<-my e]
    simp only[za,qC]
    congr 1
    ·omega
    ·congr 1;omega
theorem uZ:∀(r:List (Nat×Nat)),iu (r.flatMap λx=>[(x.1:Int),(x.2:Int)])=r.map λx=>(x.1:Int)
 |[]=>rfl
 |x::r=>by rw[gK];show(x.1:Int)::iu (r.flatMap _)=_;rw[uZ r];rfl
theorem j4{r:List Nat}:(r.map λ(n:Nat)=>(n:Int)).Nodup↔r.Nodup:=by
 induction r with
 |nil=>simp
 |cons a r ih=>
  rw[bo,bO,bO,ih]
  have e:((a:Nat):Int)∈(r.map λ(n:Nat)=>(n:Int))↔a∈r:=by rw[az];exact⟨λ⟨b,hb,h⟩=>by have:b=a:=(by omega);exact this▸hb,λh=>⟨a,h,rfl⟩⟩
  rw[e]
theorem kQ{l:List Int}:ruleOf l=none↔(l.length%2=1\/∃x∈l,x<0)\/¬(iu l).Nodup:=by
 unfold ruleOf;cases e:pairsOf l with
 |none=>
  have:=mx.mp e
  simp only[zc,true_iff]
  exact .inl this
 |some r=>
  have hn:¬(l.length%2=1\/∃x∈l,x<0):=λh=>by rw[mx.mpr h]at e;cases e
  have hl:=my e
  have he:iu l=(r.map λx=>x.1).map λ(n:Nat)=>(n:Int):=by rw[hl,uZ,aK];rfl
  simp only[ie]
  rw[he,j4,<-gC]
  constructor
  ·intro h;right;intro hd;rw[if_pos hd]at h;cases h
  ·rintro(h|h)
   ·exact absurd h hn
   ·rw[if_neg h]
theorem zI{l:List Int}{r:List (Nat×Nat)}(h:ruleOf l=some r):l=(r.flatMap λx=>[(x.1:Int),(x.2:Int)])/\(r.map λx=>x.1).Nodup:=by
 unfold ruleOf at h;cases e:pairsOf l with
 |none=>rw[e]at h;cases h
 |some s=>
  rw[e]at h
  simp only[ie]at h
  split at h
  ·rename_i hd;have:s=r:=by simpa using h
   subst this;exact⟨my e,gC.mp hd⟩
  ·cases h
end Wk
namespace Wk
open Vastof
abbrev lT(l:Held):Prop:=n6 (placesOf l)
theorem cq{l:Held}(h:lT l):(placesOf l).Nodup:=n6.nodup h
theorem b0{l:Held}{p:Nat}:p∈placesOf l↔∃t,(p,t)∈l:=by unfold placesOf;rw[az];exact⟨λ⟨⟨a,b⟩,h,e⟩=>⟨b,by simp at e;subst e;exact h⟩,λ⟨t,h⟩=>⟨(p,t),h,rfl⟩⟩
theorem e_{l:Held}{p:Nat}:has l p=true↔p∈placesOf l:=by unfold has placesOf;simp
theorem yo{α:Type}{l:List (Nat×α)}(hn:(l.map λx=>x.1).Nodup){p:Nat}{a b:α}(ha:(p,a)∈l)(hb:(p,b)∈l):a=b:=by have h1:=h_ hn ha;have h2:=h_ hn hb;simp only at h1 h2;rw[h1]at h2;simpa using h2
theorem eg{l:Held}(hn:(placesOf l).Nodup){p:Nat}{t:Text}:textAt l p=some t↔(p,t)∈l:=by
 unfold textAt;constructor
 ·intro h;cases e:l.find? λx=>x.1==p with
  |none=>rw[e]at h;cases h
  |some x=>
   rw[e]at h
   obtain⟨h1,h2⟩:=find_key e
   have:x.2=t:=by simpa using h
   subst this;subst h2;exact h1
 ·intro h;have:=h_ hn h;simp only at this;rw[this];rfl
theorem n8{l:Held}{p:Nat}:textAt l p=none↔p∉placesOf l:=by
 unfold textAt;rw[Fw];constructor
 ·exact find_none
 ·intro h;rw[wj];intro x hx hc;have:x.1=p:=by simpa using hc
  exact h (az.mpr ⟨x,hx,this⟩)
theorem A3(l:Held)(n:Nat):l.foldl (λn x=>n+x.2.length) n=n+load l:=by
 induction l generalizing n with
 |nil=>simp[load]
 |cons a l ih=>
  unfold load
  rw[lM,lM,ih,ih (0+_)]
  omega
theorem fE(x:Nat×Text)(l:Held):load (x::l)=x.2.length+load l:=by unfold load;rw[lM,A3];show 0+x.2.length+load l=x.2.length+load l;omega
theorem tH:∀(a b:Held),load (a++b)=load a+load b
 |[],b=>by simp[load]
 |x::a,b=>by rw[za,fE,fE,tH a b];omega
theorem rR{a b:Held}(h:a.Perm b):load a=load b:=by
 induction h with
 |nil=>rfl
 |cons x _ ih=>rw[fE,fE,ih]
 |swap x y l=>rw[fE,fE,fE,fE];omega
 |trans _ _ h1 h2=>exact h1.trans h2
theorem u4:∀(l:Held),load l=(l.map λx=>x.2.length).sum
 |[]=>rfl
 |x::l=>by rw[fE,bo,fR,u4 l]
theorem n9(p:Nat×Text->Bool):∀(l:Held),load (l.filter p)<=load l
 |[]=>by simp
 |x::l=>by
  rw[cw,fE];have:=n9 p l;split
  ·rw[fE];omega
  ·omega
theorem oV{x y:Nat×Text}:∀{l:Held},lT l->(y∈putAt x l↔y=x\/(y∈l/\y.1≠x.1))
 |[],_=>by simp[putAt]
 |z::r,h=>by
  have h':=cj.mp (show(z.1::placesOf r).Pairwise (·<·)from h);have hr:∀y∈r,z.1<y.1:=λy hy=>h'.1 y.1 (az.mpr ⟨y,hy,rfl⟩);unfold putAt;split
  ·rename_i h1;simp only[aF];constructor
   ·rintro(h2|h2|h2)
    ·exact .inl h2
    ·subst h2;exact .inr ⟨.inl rfl,by omega⟩
    ·have:=hr y h2;exact .inr ⟨.inr h2,by omega⟩
   ·rintro(h2|⟨h2,_⟩)
    ·exact .inl h2
    ·exact .inr h2
  ·split
   ·rename_i h1 h2;simp only[aF];constructor
    ·rintro(h3|h3)
     ·exact .inl h3
     ·have:=hr y h3;exact .inr ⟨.inr h3,by omega⟩
    ·rintro(h3|⟨h3|h3,h4⟩)
     ·exact .inl h3
     ·subst h3;omega
     ·exact .inr h3
   ·rename_i h1 h2;rw[aF,oV (l:=r) h'.2,aF];constructor
    ·rintro(h3|h3|⟨h3,h4⟩)
     ·subst h3;exact .inr ⟨.inl rfl,λe=>h2 e.symm⟩
     ·exact .inl h3
     ·exact .inr ⟨.inr h3,h4⟩
    ·rintro(h3|⟨h3|h3,h4⟩)
     ·exact .inr (.inl h3)
     ·exact .inl h3
     ·exact .inr (.inr ⟨h3,h4⟩)
theorem qL(x:Nat×Text):∀(l:Held),placesOf (putAt x l)=putPlace x.1 (placesOf l)
 |[]=>rfl
 |y::r=>by
  unfold putAt;show _=putPlace x.1 (y.1::placesOf r);unfold putPlace;split
  ·rfl
  ·split
   ·rename_i h1 h2;show x.1::placesOf r=y.1::placesOf r;rw[h2]
   ·show y.1::placesOf (putAt x r)=_;rw[qL x r]
theorem rS(x:Nat×Text){l:Held}(h:lT l):lT (putAt x l):=by unfold lT;rw[qL];exact mq h
theorem lT.ext{a b:Held}(ha:lT a)(hb:lT b)(h:∀x,x∈a↔x∈b):a=b:=by
 have hp:placesOf a=placesOf b:=n6.ext ha hb λx=>by rw[b0,b0];exact⟨λ⟨t,q⟩=>⟨t,(h _).mp q⟩,λ⟨t,q⟩=>⟨t,(h _).mpr q⟩⟩
 induction a generalizing b with
 |nil=>
  cases b with
  |nil=>rfl
  |cons y b=>cases hp
 |cons x a ih=>
  cases b with
  |nil=>cases hp
  |cons y b=>
   have hp':x.1::placesOf a=y.1::placesOf b:=hp
   injection hp' with h1 h2
   have ha':=cj.mp (show(x.1::placesOf a).Pairwise (·<·)from ha)
   have hb':=cj.mp (show(y.1::placesOf b).Pairwise (·<·)from hb)
   have exy:x=y:=by
    rcases aF.mp ((h x).mp (by simp))with e|e
    ·exact e
    ·have:=hb'.1 x.1 (az.mpr ⟨x,e,rfl⟩);omega
   subst exy
   congr 1
   refine ih ha'.2 hb'.2 (λz=>?_) h2
   have hz:=h z
   constructor
   ·intro q;rcases aF.mp (hz.mp (aJ _ q))with e|e
    ·subst e;have:=ha'.1 z.1 (az.mpr ⟨z,q,rfl⟩);omega
    ·exact e
   ·intro q;rcases aF.mp (hz.mpr (aJ _ q))with e|e
    ·subst e;have:=hb'.1 z.1 (az.mpr ⟨z,q,rfl⟩);omega
    ·exact e
theorem dH{l:Held}(h:lT l):∀(f:Held),lT (f.foldr putAt l)
 |[]=>h
 |x::f=>rS x (dH h f)
theorem eZ{l:Held}(h:lT l):∀{f:Held},(placesOf f).Nodup->∀x,x∈f.foldr putAt l↔x∈f\/(x∈l/\x.1∉placesOf f)
 |[],_,x=>by simp[placesOf]
 |y::f,hn,x=>by
  have hn':=bO.mp (show(y.1::placesOf f).Nodup from hn);rw[List.foldr_cons,oV (dH h f),eZ h hn'.2];show _↔_\/(_/\x.1∉y.1::placesOf f);rw[aF,aF];constructor
  ·rintro(h1|⟨h1|h1,h2⟩)
   ·exact .inl (.inl h1)
   ·exact .inl (.inr h1)
   ·exact .inr ⟨h1.1,λq=>q.elim h2 h1.2⟩
  ·rintro((h1|h1)|⟨h1,h2⟩)
   ·exact .inl h1
   ·refine .inr ⟨.inl h1,λe=>hn'.1 (e▸az.mpr ⟨x,h1,rfl⟩)⟩
   ·exact .inr ⟨.inr ⟨h1,λq=>h2 (.inr q)⟩,λq=>h2 (.inl q)⟩
def dput{α:Type}(d:List (Nat×α))(p:Nat)(t:α):List (Nat×α):=if p∈d.map (λx=>x.1)then d.map λx=>if x.1=p then(p,t)else x else d++[(p,t)]
structure DR(d l:Held):Prop where
 perm:d.Perm l
 asc:lT l
theorem DR.nd{d l:Held}(h:DR d l):(placesOf d).Nodup:=(h.perm.map _).nodup_iff.mpr (cq h.asc)
theorem DR.mem{d l:Held}(h:DR d l){x:Nat×Text}:x∈d↔x∈l:=h.perm.mem_iff
theorem DR.places{d l:Held}(h:DR d l){p:Nat}:p∈placesOf d↔p∈placesOf l:=(h.perm.map _).mem_iff
theorem DR.textAt{d l:Held}(h:DR d l)(p:Nat):textAt d p=Vastof.textAt l p:=by
 cases e:Vastof.textAt l p with
 |none=>exact n8.mpr λq=>n8.mp e (h.places.mp q)
 |some t=>exact(eg h.nd).mpr (h.mem.mpr ((eg (cq h.asc)).mp e))
theorem DR.load{d l:Held}(h:DR d l):Vastof.load d=Vastof.load l:=rR h.perm
theorem DR.nil:DR [] []:=⟨.nil,.nil⟩
theorem n_{α:Type}{a b:List (Nat×α)}(ha:(a.map λx=>x.1).Nodup)(hb:(b.map λx=>x.1).Nodup)(h:∀x,x∈a↔x∈b):a.Perm b:=by
 induction a generalizing b with
 |nil=>
  cases b with
  |nil=>exact .nil
  |cons y b=>have:=(h y).mpr (by simp);simp at this
 |cons x a ih=>
  have hx:x∈b:=(h x).mp (by simp)
  obtain⟨b1,b2,rfl⟩:=i6 hx
  rw[bo,bO]at ha
  have hpm:(b1++x::b2).Perm (x::(b1++b2)):=List.perm_middle
  have hb':((x::(b1++b2)).map λx=>x.1).Nodup:=(hpm.map _).nodup_iff.mp hb
  rw[bo,bO]at hb'
  refine(DM.cons x (ih ha.2 hb'.2 λz=>?_)).trans hpm.symm
  have hz:=h z
  rw[hpm.mem_iff,aF,aF]at hz
  constructor
  ·intro q;rcases hz.mp (.inr q)with e|e
   ·subst e;exact absurd (az.mpr ⟨z,q,rfl⟩) ha.1
   ·exact e
  ·intro q;rcases hz.mpr (.inr q)with e|e
   ·subst e;exact absurd (az.mpr ⟨z,q,rfl⟩) hb'.1
   ·exact e
theorem CZ{α:Type}{d:List (Nat×α)}{p:Nat}{t:α}(h:p∈d.map (λx=>x.1)):(dput d p t).map (λx=>x.1)=d.map λx=>x.1:=by
 unfold dput;rw[if_pos h,aK];refine bK λx _=>?_;show(if x.1=p then(p,t)else x).1=x.1;split
 ·rename_i e;exact e.symm
 ·rfl
theorem Ca{α:Type}{d:List (Nat×α)}(hn:(d.map λx=>x.1).Nodup)(p:Nat)(t:α):((dput d p t).map λx=>x.1).Nodup:=by
 by_cases h:p∈d.map (λx=>x.1)
 ·rw[CZ h];exact hn
 ·unfold dput;rw[if_neg h,aW,be];refine⟨hn,by simp,λa ha b hb=>?_⟩;simp at hb;subst hb;intro e;subst e;exact h ha
theorem zJ{α:Type}{d:List (Nat×α)}{p:Nat}{t:α}{x:Nat×α}:x∈dput d p t↔x=(p,t)\/(x∈d/\x.1≠p):=by
 unfold dput;split
 ·rename_i h;rw[az];constructor
  ·rintro⟨y,hy,rfl⟩;split
   ·exact .inl rfl
   ·rename_i e;exact .inr ⟨hy,e⟩
  ·rintro(rfl|⟨hx,he⟩)
   ·obtain⟨y,hy,e⟩:=az.mp h;exact⟨y,hy,by rw[if_pos e]⟩
   ·exact⟨x,hx,by rw[if_neg he]⟩
 ·rename_i h;rw[aD,aE];constructor
  ·rintro(hx|rfl)
   ·exact .inr ⟨hx,λe=>h (e▸az.mpr ⟨x,hx,rfl⟩)⟩
   ·exact .inl rfl
  ·rintro(rfl|⟨hx,_⟩)
   ·exact .inr rfl
   ·exact .inl hx
theorem DR.put{d l:Held}(h:DR d l)(p:Nat)(t:Text):DR (dput d p t) (putAt (p,t) l):=by have ha:=rS (p,t) h.asc;refine⟨n_ (Ca h.nd p t) (cq ha) λx=>?_,ha⟩;rw[zJ,oV h.asc,h.mem]
def iK{α:Type}(d:List (Nat×α))(f:List (Nat×α)):List (Nat×α):=f.foldl (λd x=>dput d x.1 x.2) d
theorem A4{α:Type}(d f:List (Nat×α))(x:Nat×α):iK d (f++[x])=dput (iK d f) x.1 x.2:=by unfold iK;rw[Iy];rfl
theorem zK{α:Type}{d:List (Nat×α)}(hn:(d.map λx=>x.1).Nodup):∀(f:List (Nat×α)),((iK d f).map λx=>x.1).Nodup
 |[]=>hn
 |x::f=>zK (d:=dput d x.1 x.2) (Ca hn _ _) f
theorem xG{α:Type}:∀{f d:List (Nat×α)}{x:Nat×α},(f.map λx=>x.1).Nodup->(x∈iK d f↔x∈f\/(x∈d/\x.1∉f.map λx=>x.1))
 |[],d,x,_=>by simp[iK]
 |y::f,d,x,hn=>by
  rw[bo,bO]at hn;show x∈iK (dput d y.1 y.2) f↔_;rw[xG hn.2,zJ];simp only[aF,bo,not_or];constructor
  ·rintro(h|⟨h|h,h2⟩)
   ·exact .inl (.inr h)
   ·exact .inl (.inl h)
   ·exact .inr ⟨h.1,h.2,h2⟩
  ·rintro((h|h)|⟨h,h2,h3⟩)
   ·subst h;exact .inr ⟨.inl rfl,hn.1⟩
   ·exact .inl h
   ·exact .inr ⟨.inr ⟨h,h2⟩,h3⟩
theorem DR.puts{d l:Held}(h:DR d l){f f':Held}(hn:(placesOf f).Nodup)(hp:f'.Perm f):DR (iK d f') (f.foldr putAt l):=by have ha:=dH h.asc f;have hn':(placesOf f').Nodup:=(hp.map _).nodup_iff.mpr hn;refine⟨n_ (zK h.nd f') (cq ha) λx=>?_,ha⟩;rw[xG hn',eZ h.asc hn,hp.mem_iff,h.mem];have:x.1∈f'.map (λx=>x.1)↔x.1∈placesOf f:=(hp.map _).mem_iff;rw[this]
theorem DR.filter{d l:Held}(h:DR d l)(q:Nat->Bool):DR (d.filter λx=>q x.1) (l.filter λx=>q x.1):=by
 refine⟨h.perm.filter _,?_⟩;have e:placesOf (l.filter λx=>q x.1)=(placesOf l).filter q:=by unfold placesOf;rw[cF];rfl
 unfold lT;rw[e];exact GO _ h.asc
theorem u5{α:Type}{a b:List α}(h:a.Perm b)(f:α->Bool):a.any f=b.any f:=by rw[dX,bY,bY];exact⟨λ⟨x,hx,e⟩=>⟨x,h.mem_iff.mp hx,e⟩,λ⟨x,hx,e⟩=>⟨x,h.mem_iff.mpr hx,e⟩⟩
theorem A5{s:State}{b l:Held}(h:b.Perm l):(fresh s b).Perm (fresh s l):=h.filter _
theorem j5{s:State}{l:Held}(h:(placesOf l).Nodup):(placesOf (fresh s l)).Nodup:=by unfold fresh placesOf;exact List.Nodup.sublist ((cS (p:=λx:Nat×Text=>!has s.valid x.1) (l:=l)).map _) h
theorem wz{s:State}(hv:lT s.valid)(hp:lT s.pins){b l:Held}(h:b.Perm l)(hn:(placesOf l).Nodup):admitted s b=admitted s l:=by
 have e1:clash s b=clash s l:=u5 h _;have hh:∀n,has b n=has l n:=λn=>by unfold has;exact u5 h _
 have e2:broken s b=broken s l:=by unfold broken;rw[u5 h];simp only[hh]
 have hf:=A5 (s:=s) h;have hfn:=j5 (s:=s) hn;have hfn':(placesOf (fresh s b)).Nodup:=(hf.map _).nodup_iff.mpr hfn;have e3:load (fresh s b)=load (fresh s l):=rR hf;have e4:∀{m:Held},lT m->(fresh s b).foldr putAt m=(fresh s l).foldr putAt m:=λ{m}hm=>by refine lT.ext (dH hm _) (dH hm _) λx=>?_;rw[eZ hm hfn',eZ hm hfn,hf.mem_iff];have:x.1∈placesOf (fresh s b)↔x.1∈placesOf (fresh s l):=(hf.map _).mem_iff;rw[this]
 have e5:placeSet (placesOf (fresh s b))=placeSet (placesOf (fresh s l)):=uP λx=>(hf.map _).mem_iff;unfold admitted;rw[e1,e2,e3,e4 hv,e4 hp,e5]
end Wk
namespace Wk
open Vastof
structure SI(s:State):Prop where
 va:lT s.valid
 pa:lT s.pins
 sa:lT s.staged
 vp:∀x∈s.valid,x∈s.pins
 pk:∀x∈s.pins,x.1<=1023/\x.2.length<=4096/\∀n∈mentions x.2,n<=1023
 cl:∀x∈s.valid,∀n∈mentions x.2,n∈placesOf s.valid
 sk:∀x∈s.staged,x.1<=1023/\x.2.length<=4096
 sl:s.staged.length<=64
 lr:load s.valid<=s.room
 rm:s.room<=65536
theorem SI.start:SI xk:=⟨.nil,.nil,.nil,(λx hx=>by cases hx),(λx hx=>by cases hx),(λx hx=>by cases hx),(λx hx=>by cases hx),by decide,by decide,by decide⟩
theorem b9(s:State):keys (graph s)=placesOf s.valid:=by unfold keys graph placesOf;rw[aK];rfl
theorem SI.graph{s:State}(h:SI s):CY (graph s):=by refine⟨by rw[b9];exact h.va,λx hx=>?_⟩;rw[b9];unfold eB at hx;obtain⟨y,hy,rfl⟩:=az.mp hx;exact⟨cb _,λn hn=>h.cl y hy n (bA.mp hn)⟩
theorem SI.listAt{s:State}(h:SI s){p:Nat}{t:Text}(hp:(p,t)∈s.valid):listAt (eB s) p=placeSet (mentions t):=by
 have:(p,placeSet (mentions t))∈eB s:=by unfold eB;exact az.mpr ⟨(p,t),hp,rfl⟩
 exact iO h.graph this
theorem SI.valid_le{s:State}(h:SI s){p:Nat}(hp:p∈placesOf s.valid):p<=1023:=by obtain⟨t,ht⟩:=b0.mp hp;exact(h.pk _ (h.vp _ ht)).1
theorem jL{l:List Nat}(hn:l.Nodup)(h:∀x∈l,x<=1023):l.length<=1024:=by have:=aO (m:=iZ 1024) hn λx hx=>BI.mpr (by have:=h x hx;omega);simpa using this
theorem SI.valid_len{s:State}(h:SI s):s.valid.length<=1024:=by have:=jL (cq h.va) λx hx=>h.valid_le hx;simpa[placesOf]using this
theorem SI.pins_len{s:State}(h:SI s):s.pins.length<=1024:=by
 have:=jL (cq h.pa) λx hx=>by obtain⟨t,ht⟩:=b0.mp hx;exact(h.pk _ ht).1
 simpa[placesOf]using this
theorem iP{s:State}{l:Held}{x:Nat×Text}:x∈fresh s l↔x∈l/\x.1∉placesOf s.valid:=by
 unfold fresh;rw[bj];have:(!has s.valid x.1)=true↔x.1∉placesOf s.valid:=by rw[Bool.not_eq_true',<-e_];simp
 rw[this]
theorem qM{s:State}{l:Held}(hb:broken s l=false):∀x∈l,∀n∈mentions x.2,n∈placesOf s.valid\/n∈placesOf l:=by intro x hx n hn;unfold broken at hb;rw[gJ]at hb;have h1:=hb x hx;rw[Ji,gJ]at h1;have h2:=h1 n hn;rw[<-e_,<-e_];cases e1:has s.valid n<;>cases e2:has l n<;>simp_all
structure yp(l:Held):Prop where
 nd:(placesOf l).Nodup
 ok:∀x∈l,x.1<=1023/\x.2.length<=4096
theorem jg{s s':State}{l:Held}{new:List Nat}(h:SI s)(hb:yp l)(ha:admitted s l=.ok (s',new)):SI s'/\s'.staged=s.staged/\s'.room=s.room/\s'.valid=(fresh s l).foldr putAt s.valid/\s'.pins=(fresh s l).foldr putAt s.pins/\new=placeSet (placesOf (fresh s l))/\clash s l=false/\broken s l=false/\¬s.room<load s.valid+load (fresh s l):=by
 unfold admitted at ha;split at ha
 ·cases ha
 split at ha
 ·cases ha
 split at ha
 ·cases ha
 rename_i h1 h2 h3;have h1':clash s l=false:=by simpa using h1
 have h2':broken s l=false:=by simpa using h2
 have e:=DD ha;injection e with e1 e2;subst e1 e2;have hfn:=j5 (s:=s) hb.nd;have mv:=λx=>eZ h.va hfn x;have mp:=λx=>eZ h.pa hfn x;have hin:∀n,n∈placesOf s.valid\/n∈placesOf l->n∈placesOf ((fresh s l).foldr putAt s.valid):=by
  intro n hn;rw[b0];by_cases hv:n∈placesOf s.valid
  ·obtain⟨t,ht⟩:=b0.mp hv;refine⟨t,(mv _).mpr (.inr ⟨ht,λq=>?_⟩)⟩;obtain⟨t',ht'⟩:=b0.mp q;exact(iP.mp ht').2 hv
  ·rcases hn with hn|hn
   ·exact absurd hn hv
   ·obtain⟨t,ht⟩:=b0.mp hn;exact⟨t,(mv _).mpr (.inl (iP.mpr ⟨ht,hv⟩))⟩
 refine⟨⟨dH h.va _,dH h.pa _,h.sa,λx hx=>?_,λx hx=>?_,λx hx n hn=>?_,h.sk,h.sl,?_,h.rm⟩,rfl,rfl,rfl,rfl,rfl,h1',h2',h3⟩
 ·rcases(mv x).mp hx with hx|⟨hx,hk⟩
  ·exact(mp x).mpr (.inl hx)
  ·exact(mp x).mpr (.inr ⟨h.vp x hx,hk⟩)
 ·rcases(mp x).mp hx with hx|⟨hx,_⟩
  ·obtain⟨hl,_⟩:=iP.mp hx;refine⟨(hb.ok x hl).1,(hb.ok x hl).2,λn hn=>?_⟩;rcases qM h2' x hl n hn with q|q
   ·exact h.valid_le q
   ·obtain⟨t,ht⟩:=b0.mp q;exact(hb.ok _ ht).1
  ·exact h.pk x hx
 ·apply hin;rcases(mv x).mp hx with hx|⟨hx,_⟩
  ·exact qM h2' x (iP.mp hx).1 n hn
  ·exact .inl (h.cl x hx n hn)
 ·have hperm:((fresh s l).foldr putAt s.valid).Perm (fresh s l++s.valid):=by
   refine n_ (cq (dH h.va _)) ?_ λx=>?_
   ·rw[aW,be];refine⟨hfn,cq h.va,λa ha b hb e=>?_⟩;subst e;obtain⟨t,ht⟩:=b0.mp (show a∈placesOf (fresh s l)from ha);exact(iP.mp ht).2 hb
   ·rw[mv,aD];constructor
    ·rintro(q|⟨q,_⟩)
     ·exact .inl q
     ·exact .inr q
    ·rintro(q|q)
     ·exact .inl q
     ·refine .inr ⟨q,λq'=>?_⟩;obtain⟨t,ht⟩:=b0.mp q';exact(iP.mp ht).2 (az.mpr ⟨x,q,rfl⟩)
  show load _<=s.room;rw[rR hperm,tH];omega
theorem mB{p:Int}{x:Nat}(h:place p=some x):0<=p/\p<=1023/\p=(x:Int):=by
 unfold place at h;split at h
 ·rename_i hp;have:=a0 h;omega
 ·cases h
theorem C7{x:Nat}(h:x<=1023):place (x:Int)=some x:=by unfold place;rw[if_pos (by omega)];simp
theorem p9{p:Int}:place p=none↔¬(0<=p/\p<=1023):=by unfold place;split<;>simp_all
theorem mapM_none{l:List Int}:l.mapM place=none↔∃p∈l,¬(0<=p/\p<=1023):=by
 induction l with
 |nil=>simp[List.mapM_nil]
 |cons a l ih=>
  rw[List.mapM_cons]
  cases e:place a with
  |none=>
   have:=p9.mp e
   simp only[uh,zc,true_iff]
   exact⟨a,by simp,this⟩
  |some x=>
   obtain⟨h1,h2,_⟩:=mB e
   cases e2:l.mapM place with
   |none=>
    obtain⟨p,hp,hq⟩:=ih.mp e2
    simp only[uh,zc,ie,true_iff]
    exact⟨p,by simp[hp],hq⟩
   |some y=>
    simp only[uh,ie]
    constructor
    ·intro h;cases h
    ·rintro⟨p,hp,hq⟩;rcases aF.mp hp with rfl|hp
     ·exact absurd ⟨h1,h2⟩ hq
     ·rw[ih.mpr ⟨p,hp,hq⟩]at e2;cases e2
theorem mapM_some{l:List Int}{x:List Nat}(h:l.mapM place=some x):l=x.map (λ(n:Nat)=>(n:Int))/\∀n∈x,n<=1023:=by
 induction l generalizing x with
 |nil=>simp[List.mapM_nil]at h;subst h;simp
 |cons a l ih=>
  rw[List.mapM_cons]at h
  cases e:place a with
  |none=>rw[e]at h;cases h
  |some y=>
   cases e2:l.mapM place with
   |none=>rw[e,e2]at h;cases h
   |some z=>
    rw[e,e2]at h
    have h':y::z=x:=a0 h
    subst h'
    obtain⟨h1,h2,h3⟩:=mB e
    obtain⟨i1,i2⟩:=ih e2
    refine⟨by rw[bo,<-i1,<-h3],λn hn=>?_⟩
    rcases aF.mp hn with rfl|hn
    ·omega
    ·exact i2 n hn
theorem mC(s:State)(l:List Int):(64<l.length/\looked s l=.error LIMIT)\/(l.length<=64/\(∃p∈l,¬(0<=p/\p<=1023))/\looked s l=.error PLACE)\/(l.length<=64/\∃x:List Nat,l=x.map (λ(n:Nat)=>(n:Int))/\(∀n∈x,n<=1023)/\((∃n∈x,n∉placesOf s.valid)/\looked s l=.error ABSENT\/(∀n∈x,n∈placesOf s.valid)/\looked s l=.ok x)):=by
 unfold looked;by_cases h:64<l.length
 ·exact .inl ⟨h,by rw[if_pos h]⟩
 ·rw[if_neg h];right;cases e:l.mapM place with
  |none=>exact .inl ⟨by omega,mapM_none.mp e,rfl⟩
  |some x=>
   right
   obtain⟨h1,h2⟩:=mapM_some e
   refine⟨by omega,x,h1,h2,?_⟩
   simp only
   by_cases ha:x.all (λp=>has s.valid p)=true
   ·right;rw[if_pos ha];exact⟨λn hn=>e_.mp (bU.mp ha n hn),rfl⟩
   ·left;rw[if_neg ha];refine⟨?_,rfl⟩;apply d8;intro hc;apply ha;rw[bU];intro n hn;rw[e_];apply d8;intro hn';exact hc ⟨n,hn,hn'⟩
theorem d_{s:State}{l:List Int}{x:List Nat}(h:looked s l=.ok x):l=x.map (λ(n:Nat)=>(n:Int))/\(∀n∈x,n∈placesOf s.valid)/\l.length<=64:=by
 rcases mC s l with⟨_,e⟩|⟨_,_,e⟩|⟨h1,y,h2,_,⟨_,e⟩|⟨h3,e⟩⟩
 ·rw[h]at e;cases e
 ·rw[h]at e;cases e
 ·rw[h]at e;cases e
 ·rw[h]at e;have:=DD e;subst this;exact⟨h2,h3,h1⟩
theorem gD(s:State)(p:Int):(¬(0<=p/\p<=1023)/\validPlace s p=.error PLACE)\/∃x:Nat,p=(x:Int)/\x<=1023/\(x∉placesOf s.valid/\validPlace s p=.error ABSENT\/x∈placesOf s.valid/\validPlace s p=.ok x):=by
 unfold validPlace;cases e:place p with
 |none=>exact .inl ⟨p9.mp e,rfl⟩
 |some x=>
  right
  obtain⟨h1,h2,h3⟩:=mB e
  refine⟨x,h3,by omega,?_⟩
  simp only
  by_cases hv:has s.valid x=true
  ·rw[if_pos hv];exact .inr ⟨e_.mp hv,rfl⟩
  ·rw[if_neg hv];exact .inl ⟨λq=>hv (e_.mpr q),rfl⟩
theorem SI.gone{s:State}(h:SI s){l:List Nat}(hc:∀x∈s.valid,x.1∉l->∀n∈mentions x.2,n∉l):SI (Vastof.gone s l).1:=by
 unfold Vastof.gone;have hm:∀x,x∈s.valid.filter (λx=>!l.contains x.1)↔x∈s.valid/\x.1∉l:=λx=>by rw[bj];simp
 refine⟨?_,h.pa,h.sa,λx hx=>h.vp x ((hm x).mp hx).1,h.pk,λx hx n hn=>?_,h.sk,h.sl,ay (n9 _ _) h.lr,h.rm⟩
 ·exact(DR.filter (d:=s.valid) ⟨.rfl,h.va⟩ λp=>!l.contains p).asc
 ·obtain⟨hx1,hx2⟩:=(hm x).mp hx;obtain⟨t,ht⟩:=b0.mp (h.cl x hx1 n hn);exact b0.mpr ⟨t,(hm _).mpr ⟨ht,hc x hx1 hx2 n hn⟩⟩
theorem mW{g:Graph}(h:CY g){p:Nat}(hp:p∈keys g):listAt (reaching g) p=closure g [p]:=by
 obtain⟨x,hx,rfl⟩:=az.mp hp;unfold listAt reaching;have hn:((g.map λx=>(x.1,closure g [x.1])).map λx=>x.1).Nodup:=by rw[aK];exact h.asc.nodup
 have:=h_ hn (x:=(x.1,closure g [x.1])) (az.mpr ⟨x,hx,rfl⟩);simp only at this;rw[this]
theorem jM{g:Graph}(h:CY g){p q:Nat}(hp:p∈keys g):q∈closure g [p]↔Reach g p q:=by have:=(eE h (goals:=[p]) (by simpa using hp)).2 q;simpa using this
theorem ia{g:Graph}(h:CY g){goals:List Nat}{p:Nat}:p∈above (reaching g) goals↔p∈keys g/\∃q∈goals,Reach g p q:=by
 unfold above reaching;rw[az];constructor
 ·rintro⟨x,hx,rfl⟩;obtain⟨hx1,hx2⟩:=bj.mp hx;obtain⟨y,hy,rfl⟩:=az.mp hx1;have hk:y.1∈keys g:=az.mpr ⟨y,hy,rfl⟩;obtain⟨q,hq,hq2⟩:=bY.mp hx2;exact⟨hk,q,hq,(jM h hk).mp (by simpa using hq2)⟩
 ·rintro⟨hk,q,hq,hr⟩;obtain⟨y,hy,rfl⟩:=az.mp hk;refine⟨(y.1,closure g [y.1]),bj.mpr ⟨az.mpr ⟨y,hy,rfl⟩,bY.mpr ⟨q,hq,?_⟩⟩,rfl⟩;simpa using(jM h hk).mpr hr
theorem SI.mention_ref{s:State}(h:SI s){x:Nat×Text}(hx:x∈s.valid){n:Nat}:n∈mentions x.2↔n∈aG (eB s) x.1:=by rw[h.listAt (p:=x.1) (t:=x.2) hx,bA]
theorem jN{p:Int}{t:Text}{x:Nat}(h:checkText p t=.ok x):p=(x:Int)/\x<=1023/\t.length<=4096:=by
 unfold checkText at h;cases e:place p with
 |none=>rw[e]at h;cases h
 |some y=>
  rw[e]at h
  simp only at h
  split at h
  ·cases h
  ·have:=DD h;subst this;obtain⟨h1,h2,h3⟩:=mB e;exact⟨h3,by omega,by omega⟩
theorem SI.step{s:State}(h:SI s)(c:Call):SI (aR s c).1:=by
 have hask1:∀p f,(ask1 s p f).1=s:=λp f=>by unfold ask1;split<;>rfl
 have haskA:∀p f,(askAll s p f).1=s:=λp f=>by unfold askAll;split<;>rfl
 cases c with
 |room n=>
  simp only[aR]
  split
  ·exact h
  split
  ·exact h
  ·rename_i h1 h2;exact⟨h.va,h.pa,h.sa,h.vp,h.pk,h.cl,h.sk,h.sl,by show load s.valid<=n.toNat;omega,by show n.toNat<=65536;omega⟩
 |add p t=>
  show SI (qx s p t).1
  unfold qx
  split
  ·exact h
  ·rename_i x hx;obtain⟨_,h2,h3⟩:=jN hx;split
   ·exact h
   ·rename_i y hy;obtain⟨s',new⟩:=y;exact(jg h ⟨by simp[placesOf],λz hz=>by simp at hz;subst hz;exact⟨h2,h3⟩⟩ hy).1
 |stage p t=>
  show SI (ma s p t).1
  unfold ma
  split
  ·exact h
  ·rename_i x hx;obtain⟨_,h2,h3⟩:=jN hx;split
   ·exact h
   split
   ·exact h
   ·rename_i h4 h5;refine⟨h.va,h.pa,rS _ h.sa,h.vp,h.pk,h.cl,λz hz=>?_,?_,h.lr,h.rm⟩
    ·rcases(oV h.sa).mp hz with rfl|⟨hz,_⟩
     ·exact⟨h2,h3⟩
     ·exact h.sk z hz
    ·have hd:=DR.put (d:=s.staged) ⟨.rfl,h.sa⟩ x t;have:=hd.perm.length_eq;show(putAt (x,t) s.staged).length<=64;rw[<-this];unfold dput;rw[if_neg (show ¬x∈s.staged.map (λx=>x.1)from λq=>h4 (e_.mpr q))];simp;omega
 |commit=>
  show SI (kC s).1
  unfold kC
  split
  ·exact h
  ·rename_i y hy;obtain⟨s',new⟩:=y;obtain⟨h1,_⟩:=jg h ⟨cq h.sa,h.sk⟩ hy;exact⟨h1.va,h1.pa,.nil,h1.vp,h1.pk,h1.cl,(λx hx=>by cases hx),by show 0<=64;decide,h1.lr,h1.rm⟩
 |drop=>exact⟨h.va,h.pa,.nil,h.vp,h.pk,h.cl,(λx hx=>by cases hx),by show 0<=64;decide,h.lr,h.rm⟩
 |get p=>show SI (ask1 s p _).1;rw[hask1];exact h
 |pinned p=>
  simp only[aR]
  split
  ·exact h
  ·split<;>exact h
 |counts=>exact h
 |valid=>exact h
 |refs p=>show SI (ask1 s p _).1;rw[hask1];exact h
 |referrers p=>show SI (ask1 s p _).1;rw[hask1];exact h
 |closure g=>show SI (askAll s g _).1;rw[haskA];exact h
 |above g=>show SI (askAll s g _).1;rw[haskA];exact h
 |knot p=>show SI (ask1 s p _).1;rw[hask1];exact h
 |order g=>show SI (askAll s g _).1;rw[haskA];exact h
 |tops=>exact h
 |take l=>
  show SI (nE s l).1
  unfold nE
  split
  ·exact h
  ·rename_i x hx;split
   ·exact h
   ·rename_i hh;refine h.gone λy hy hyl n hn hnl=>hh ?_;rw[bA]at hyl hnl;refine bY.mpr ⟨(y.1,placeSet (mentions y.2)),az.mpr ⟨y,hy,rfl⟩,?_⟩;rw[dG];exact⟨by simpa using hyl,bY.mpr ⟨n,bA.mpr hn,by simpa using hnl⟩⟩
 |sweep l=>
  show SI (md s l).1
  unfold md
  split
  ·exact h
  ·rename_i x hx;obtain⟨_,hv,_⟩:=d_ hx;have hk:∀z∈x,z∈keys (eB s):=λz hz=>by rw[b9];exact hv z hz
   refine h.gone λy hy hyl n hn hnl=>?_;have hn':=(bj.mp hnl).2;apply hyl;refine bj.mpr ⟨az.mpr ⟨y,hy,rfl⟩,?_⟩;cases e:(BL (eB s) x).contains y.1 with
   |false=>rfl
   |true=>
    have hc:y.1∈BL (eB s) x:=by simpa using e
    obtain⟨p,hp,hr⟩:=((eE h.graph hk).2 _).mp hc
    have:n∈BL (eB s) x:=((eE h.graph hk).2 _).mpr ⟨p,hp,hr.step ((h.mention_ref hy).mp hn)⟩
    rw[cU.mpr this]at hn'
    cases hn'
 |lose l=>
  show SI (nF s l).1
  unfold nF
  split
  ·exact h
  ·rename_i x hx;refine h.gone λy hy hyl n hn hnl=>hyl ?_;obtain⟨_,q,hq,hr⟩:=(ia h.graph).mp hnl;refine(ia h.graph).mpr ⟨by rw[b9];exact az.mpr ⟨y,hy,rfl⟩,q,hq,?_⟩;exact(Reach.step (.refl y.1) ((h.mention_ref hy).mp hn)).trans hr
 |freed p l=>
  simp only[aR]
  split
  ·exact h
  ·rw[haskA];exact h
 |missing g t=>
  show SI (jC s g t).1
  unfold jC
  split
  ·exact h
  ·split<;>exact h
 |write g=>show SI (askAll s g _).1;rw[haskA];exact h
 |read t r=>
  show SI (nG s t r).1
  unfold nG
  split
  ·exact h
  split
  ·exact h
  split
  ·exact h
  ·simp only;split
   ·exact h
   split
   ·exact h
   split
   ·exact h
   ·rename_i h1 h2 h3;split
    ·exact h
    ·rename_i y hy;obtain⟨s',new⟩:=y;refine(jg h ⟨?_,λz hz=>?_⟩ hy).1
     ·rw[<-distinct_iff'];simpa using h2
     ·rw[Ji,gJ]at h1 h3;have a1:=h1 z hz;have a3:=h3 z hz;simp at a1 a3;exact⟨a1,a3⟩
where
 distinct_iff':∀{l:List Nat},distinct l=true↔l.Nodup:=λ{l}=>by
  induction l with
  |nil=>simp[distinct]
  |cons a l ih=>simp[distinct,ih]
end Wk
namespace WkS
open PySem PySem.Spec
def tV(xs:Array Nat):Prop:=xs.toList.Pairwise (·<·)
theorem qN{xs:Array Nat}(h:tV xs){i j:Nat}{a b:Nat}(hij:i<j)(ha:xs[i]?=some a)(hb:xs[j]?=some b):a<b:=by have h':=List.pairwise_iff_getElem.mp h;rw[<-cC]at ha hb;obtain⟨h1,e1⟩:=aM.mp ha;obtain⟨h2,e2⟩:=aM.mp hb;have:=h' i j h1 h2 hij;omega
theorem u6{xs:Array Nat}(h:tV xs)(j:Nat):∀(fuel lo hi:Nat),hi-lo<=fuel->lo<=hi->hi<=xs.size->(∀k a,k<lo->xs[k]?=some a->a<j)->(∀k a,hi<=k->xs[k]?=some a->j<=a)->(∀k a,k<SetTable.below.go xs j fuel lo hi->xs[k]?=some a->a<j)/\(∀k a,SetTable.below.go xs j fuel lo hi<=k->xs[k]?=some a->j<=a)/\SetTable.below.go xs j fuel lo hi<=xs.size
 |0,lo,hi,hf,hl,hs,h1,h2=>by
  have:lo=hi:=by omega
  subst this;exact⟨h1,h2,hs⟩
 |fuel+1,lo,hi,hf,hl,hs,h1,h2=>by
  unfold SetTable.below.go;by_cases hlt:lo<hi
  ·rw[if_pos hlt];have hm:(lo+hi)/2<xs.size:=by omega
   have hg:xs[(lo+hi)/2]?=some (xs.getD ((lo+hi)/2) j):=by rw[gL,bM hm];rfl
   simp only;by_cases hc:xs.getD ((lo+hi)/2) j<j
   ·rw[if_pos hc];refine u6 h j fuel _ hi (by omega) (by omega) hs (λk a hk ha=>?_) h2;by_cases e:k=(lo+hi)/2
    ·subst e;rw[hg]at ha;have:=a0 ha;omega
    ·have:=qN h (show k<(lo+hi)/2 by omega) ha hg;omega
   ·rw[if_neg hc];refine u6 h j fuel lo _ (by omega) (by omega) (by omega) h1 (λk a hk ha=>?_);by_cases e:k=(lo+hi)/2
    ·subst e;rw[hg]at ha;have:=a0 ha;omega
    ·have:=qN h (show(lo+hi)/2<k by omega) hg ha;omega
  ·rw[if_neg hlt];have:lo=hi:=by omega
   subst this;exact⟨h1,h2,hs⟩
theorem u7{xs:Array Nat}(h:tV xs)(j:Nat):(∀k a,k<SetTable.below xs j->xs[k]?=some a->a<j)/\(∀k a,SetTable.below xs j<=k->xs[k]?=some a->j<=a)/\SetTable.below xs j<=xs.size:=u6 h j xs.size 0 xs.size (by omega) (by omega) (by omega) (λk a hk=>by omega) (λk a hk ha=>by rw[eV hk]at ha;cases ha)
def slotAt(xs:Array Nat):Nat->Nat
 |0=>0
 |i+1=>xs.getD i 0+1
theorem yr{xs:Array Nat}(h:tV xs){i:Nat}(hi:i<=xs.size):SetTable.below xs (slotAt xs i)=i:=by
 obtain⟨b1,b2,b3⟩:=u7 h (slotAt xs i);apply Nat.le_antisymm
 ·apply d8;intro hc;have hlt:i<SetTable.below xs (slotAt xs i):=by omega
  have hi':i<xs.size:=by omega
  have ha:=bM hi';have:=b1 i _ hlt ha;cases i with
  |zero=>simp[slotAt]at this
  |succ i=>
   have hg:xs[i]?=some (xs.getD i 0):=by rw[gL,bM (by omega)];rfl
   have:=qN h (dE i) hg ha
   simp only[slotAt]at*
   omega
 ·apply d8;intro hc;cases i with
  |zero=>omega
  |succ i=>
   have hg:xs[i]?=some (xs.getD i 0):=by rw[gL,bM (by omega)];rfl
   have:=b2 i _ (by omega) hg
   simp only[slotAt]at this
   omega
theorem zL{xs:Array Nat}(h:tV xs){j:Nat}(hj:xs[SetTable.below xs j]?≠some j):tV (SetTable.insertAt xs (SetTable.below xs j) j):=by
 obtain⟨b1,b2,b3⟩:=u7 h j;generalize SetTable.below xs j=p at*;unfold tV SetTable.insertAt;have e1:(xs.extract 0 p).toList=xs.toList.take p:=by simp
 have e2:(xs.extract p xs.size).toList=xs.toList.drop p:=by rw[Array.toList_extract];show(xs.toList.drop p).take (xs.size-p)=_;exact jB (by simp)
 rw[Array.toList_append,xm,e1,e2,nJ,List.pairwise_append];refine⟨FF (b_ _ _) h,?_,?_⟩
 ·rw[List.singleton_append,cj];refine⟨λa ha=>?_,FF (Iz _ _) h⟩;obtain⟨k,hk,e⟩:=tw.mp ha;have hg:xs[p+k]?=some a:=by rw[<-cC,<-cz];exact aM.mpr ⟨hk,e⟩
  have hle:=b2 (p+k) a (by omega) hg;apply Nat.lt_of_le_of_ne hle;intro e';subst e';cases k with
  |zero=>exact hj hg
  |succ k=>
   have hlt:p<xs.size:=by have:=(BJ.mp hg).1;omega
   have h0:=bM hlt
   have:=qN h (show p<p+(k+1) by omega) h0 hg
   have:=b2 p _ (aN _) h0
   omega
 ·intro a ha b hb;obtain⟨k,hk,e⟩:=tw.mp ha;have hk':k<p:=by have:k<(xs.toList.take p).length:=hk;rw[fe]at this;omega
  have hg:xs[k]?=some a:=by rw[<-cC];have:(xs.toList.take p)[k]?=some a:=aM.mpr ⟨hk,e⟩;rw[DB hk']at this;exact this
  have haj:=b1 k a hk' hg;rcases aD.mp hb with hb|hb
  ·simp at hb;omega
  ·obtain⟨m,hm,e'⟩:=tw.mp hb;have hg':xs[p+m]?=some b:=by rw[<-cC,<-cz];exact aM.mpr ⟨hm,e'⟩
   have:=b2 (p+m) b (by omega) hg';omega
theorem A6(n:Nat):tV (Array.range n):=by unfold tV;rw[Array.toList_range];exact Fx
def oW(t:SetTable)(j:Nat):Prop:=t.place[SetTable.below t.place j]?≠some j
theorem A7{t:SetTable}{j:Nat}(h:t.slot j=.empty):oW t j:=by
 unfold SetTable.slot at h;simp only at h;split at h
 ·cases h
 ·rename_i hn;intro e;exact hn (by rw[e];simp)
theorem A8{t:SetTable}{j:Nat}(h:t.slot j=.dummy):oW t j:=by
 unfold SetTable.slot at h;simp only at h;split at h
 ·cases h
 ·rename_i hn;intro e;exact hn (by rw[e];simp)
theorem u9{t:SetTable}{f:Nat->Int}{h:Int}(hf:∀i,(f i==h)=false):∀(fuel:Nat)(p:SetTable.Probe)(m:SetTable.Met),(∀d,p.dummy=some d->oW t d)->SetTable.probe.go t f h fuel p=some m->∃j dm,m=.empty j dm/\oW t j/\∀d,dm=some d->oW t d
 |0,p,m,_,hm=>by cases hm
 |fuel+1,p,m,hd,hm=>by
  unfold SetTable.probe.go at hm;split at hm
  ·rename_i e;have:=a0 hm;subst this;exact⟨_,_,rfl,A7 e,hd⟩
  ·rename_i e;refine u9 hf fuel _ m (λd hdd=>?_) hm;have hadv:(t.advance {p with dummy:=some p.j}).dummy=some p.j:=by unfold SetTable.advance;split<;>rfl
   rw[hadv]at hdd;have:=a0 hdd;subst this;exact A8 e
  ·rename_i i e;rw[hf i]at hm;simp only[cO,if_false]at hm;refine u9 hf fuel _ m (λd hdd=>?_) hm;have hadv:(t.advance p).dummy=p.dummy:=by unfold SetTable.advance;split<;>rfl
   rw[hadv]at hdd;exact hd d hdd
theorem rT{t:SetTable}{h:Int}{sl:Nat}{b:Bool}(hs:t.freeSlot h=some (sl,b)):oW t sl:=by
 unfold SetTable.freeSlot at hs;split at hs
 ·rename_i j dm hp;have hh:∀i:Nat,((λ_=>h+1) i==h)=false:=λi=>by simp only[beq_eq_false_iff_ne,ne_eq];omega
  obtain⟨j',dm',e,h1,h2⟩:=u9 (t:=t) (f:=λ_=>h+1) (h:=h) hh _ _ _ (λd hd=>by cases hd) hp;injection e with e1 e2;subst e1 e2;have:=a0 hs;injection this with e3 _;subst e3;cases dm with
  |none=>exact h1
  |some d=>exact h2 d rfl
 ·cases hs
structure C8(fM:Bool)(t:SetTable):Prop where
 rise:tV t.place
 led:t.led=!fM
theorem kR{b:Bool}{t:SetTable}(h:C8 b t)(n:Nat):C8 b (t.standIn n):=⟨A6 n,h.led⟩
theorem wA{b:Bool}{t:SetTable}(h:C8 b t)(n:Nat):C8 b (t.orStandIn n):=by
 unfold SetTable.orStandIn;split
 ·exact h
 ·exact kR h n
theorem A9{b:Bool}{t:SetTable}(h:C8 b t)(es:Array (Int×Value))(hs:Int)(x:Value):C8 b (layNew t es hs x).2.1:=by
 unfold layNew;split
 ·rename_i sl wd hf;have hn:=rT hf;simp only;refine wA ⟨?_,?_⟩ _
  ·exact zL h.rise hn
  ·exact h.led
 ·exact kR h _
theorem yt{b:Bool}{t:SetTable}(h:C8 b t)(es:Array (Int×Value))(wanted:Nat):C8 b (relayAll t es wanted).2.1:=by
 unfold relayAll;split
 ·rename_i t' order hr;simp only;split
  ·unfold SetTable.relaid SetTable.laid at hr;obtain⟨ow,_,hr⟩:=Option.bind_eq_some_iff.mp hr;have:=a0 hr;injection this with e1 _;subst e1;refine⟨?_,h.led⟩;unfold tV;simp only[List.map_filterMap];have:∀(l:List Nat),l.Pairwise (·<·)->(l.filterMap λj=>Option.map (λx:Nat×Nat=>x.1) ((ow.getD j none).map λk=>(j,k))).Pairwise (·<·):=by
    intro l hl;have hsub:(l.filterMap λj=>Option.map (λx:Nat×Nat=>x.1) ((ow.getD j none).map λk=>(j,k)))=l.filter λj=>(ow.getD j none).isSome:=by
     clear hl;induction l with
     |nil=>rfl
     |cons a l ih=>
      rw[eQ,cw]
      rw[ih]
      cases e:ow.getD a none with
      |none=>rfl
      |some k=>rfl
    rw[hsub];exact GO _ hl
   exact this _ Fx
  ·exact kR h _
 ·exact kR h _
end WkS
namespace WkS
open PySem PySem.Spec PyProof.Rows
section
variable {prog:Program}{w:World}{A:Around}{E:Value->Shared->Prop}{s:Shared}
abbrev fM(w:World):Bool:=w.params.followText "set-order"
def kE(prog:Program)(w:World)(h:Heap)(a:Addr)(S:Int->Bool)(n:Nat):Prop:=∃o es ep t,h.get? a=some o/\(o.ExactSet/\o.data=.set es ep t)/\(ElemsOf (cR prog w) es.toList/\∀k,S k=true↔∃e∈es.toList,(cR prog w).is k e.2=true)/\(es.size<scanBound/\es.size=n)/\t.fits es.size=true/\C8 (fM w) t
theorem kE.mono{h h':Heap}{a:Addr}{S:Int->Bool}{n:Nat}(x:kE prog w h a S n)(k:∀o,h.get? a=some o->h'.get? a=some o):kE prog w h' a S n:=by obtain⟨o,es,ep,t,ho,r⟩:=x;exact⟨o,es,ep,t,k o ho,r⟩
structure At(prog:Program)(w:World)(h:Heap)(a:Addr)(o:Obj)(es:Array (Int×Value))(ep:Nat)(t:SetTable):Prop where
 ho:h.get? a=some o
 ex:o.ExactSet
 dt:o.data=.set es ep t
structure Iu(prog:Program)(w:World)(S:Int->Bool)(n:Nat)(es:Array (Int×Value))(t:SetTable):Prop where
 el:ElemsOf (cR prog w) es.toList
 mem:∀k,S k=true↔∃e∈es.toList,(cR prog w).is k e.2=true
 lt:es.size<scanBound
 sz:es.size=n
 fits:t.fits es.size=true
 ok:C8 (fM w) t
theorem El{a:Addr}{o:Obj}{es es':Array (Int×Value)}{ep:Nat}{t t':SetTable}{S:Int->Bool}{n:Nat}{Q:Unit->Shared->Prop}(P:At prog w s.heap a o es ep t)(N:Iu prog w S n es' t')(h:∀h',Heap.SameBut a s.heap h'->At prog w h' a {o with data:=.set es' (ep+1) t'} es' (ep+1) t'->kE prog w h' a S n->Q () {s with heap:=h'}):wpAny (model prog w) A (storeSet a es' t') Q E s:=by have z:=fits_of_scanBound N.lt;refine wpAny_storeSet_of P.ho P.dt ?_ z;obtain⟨g,_⟩:=SetOf_store (knd:=cR prog w) P.ho P.ex P.dt N.el N.mem N.lt N.fits;exact h _ (Heap.SameBut.update s.heap a _) ⟨g,P.ex,rfl⟩ ⟨_,es',ep+1,t',g,⟨P.ex,rfl⟩,⟨N.el,N.mem⟩,⟨N.lt,N.sz⟩,N.fits,N.ok⟩
theorem Iu.relay{S:Int->Bool}{n:Nat}{es:Array (Int×Value)}{t:SetTable}(N:Iu prog w S n es t)(k:Nat):Iu prog w S n (relayAll t es k).1 (relayAll t es k).2.1:=by
 have p:=relayAll_perm t es k;have z:(relayAll t es k).1.size=es.size:=by have:=p.length_eq;simpa using this
 refine⟨N.el.perm p,λi=>(N.mem i).trans ?_,by rw[z];exact N.lt,by rw[z];exact N.sz,relayAll_fits t es k,yt N.ok es k⟩;constructor
 ·rintro⟨e,he,q⟩;exact⟨e,p.mem_iff.mpr he,q⟩
 ·rintro⟨e,he,q⟩;exact⟨e,p.mem_iff.mp he,q⟩
theorem GZ{g:Bool->Sem Unit}(hg:∀(b:Bool)(s1:Shared)(Q':Unit->Shared->Prop),Q' () s1->wpAny (model prog w) A (g b) Q' E s1){a:Addr}{o:Obj}{es es1:Array (Int×Value)}{ep:Nat}{t t2:SetTable}{S:Int->Bool}{n:Nat}{c:Bool}{R:Option Bool->Shared->Prop}(P:At prog w s.heap a o es ep t)(N:Iu prog w S n es1 t2)(h:∀h',Heap.SameBut a s.heap h'->kE prog w h' a S n->R (some true) {s with heap:=h'}):wpAny (model prog w) A (do
    storeSet a es1 t2
    if c=true then do
      g (relayAll t2 es1 (SetTable.grown es1.size)).2.2
      storeSet a (relayAll t2 es1 (SetTable.grown es1.size)).1 (relayAll t2 es1 (SetTable.grown es1.size)).2.1
      pure (some true)else pure (some true)) R E s:=by
 refine wpAny_bind (El P N λh1 b1 P1 r1=>?_);cases c with
 |true=>
  rw[if_pos rfl]
  refine wpAny_bind (hg _ _ _ ?_)
  refine wpAny_bind (El P1 (N.relay _) λh2 b2 P2 r2=>?_)
  exact wpAny_pure (h h2 (b1.trans b2) r2)
 |false=>
  rw[if_neg aI]
  exact wpAny_pure (h h1 b1 r1)
theorem addR{a:Addr}{S:Int->Bool}{n:Nat}{k:Int}{x:Value}{Q:Bool->Shared->Prop}(hk:(cR prog w).is k x=true)(hx:x.scannable=true)(hS:kE prog w s.heap a S n)(hn:n+1<scanBound)(h:∀b h',Heap.SameBut a s.heap h'->kE prog w h' a (λi=>S i||decide (i=k)) (if S k then n else n+1)->Q b {s with heap:=h'}):wpAny (model prog w) A (setAddHashed a x ((cR prog w).hash k)) Q E s:=by
 obtain⟨o,es,ep,t,ho,⟨ex,dt⟩,⟨el,mem⟩,⟨lt,sz⟩,ft,ok⟩:=hS;have P:At prog w s.heap a o es ep t:=⟨ho,ex,dt⟩;unfold setAddHashed setAddHashedIn;refine wpAny_holding (wpAny_bind (wpAny_setState_of ho dt ft ?_));have sc:=byScan_of hx lt el;show wpAny _ _ (if byScan x es=true then _ else _) _ _ _;rw[if_pos sc];unfold setAddByScan;refine wpAny_bind (wpAny_bind (wpAny_rule (wpAny_bind ?_)));refine wpAny_setScan_of hk ho dt ft el ?_;cases f:List.findIdx? (λe=>(cR prog w).is k e.2) es.toList with
 |some j=>
  obtain⟨hj,pj,_⟩:=List.findIdx?_eq_some_iff_getElem.mp f
  have hSk:S k=true:=(mem k).mpr ⟨_,List.getElem_mem hj,pj⟩
  refine wpAny_pure (wpAny_pure ?_)
  have e:(λi=>S i||decide (i=k))=S:=by
   funext i;by_cases hi:i=k
   ·subst hi;rw[hSk];rfl
   ·simp[hi]
  have r:kE prog w s.heap a (λi=>S i||decide (i=k)) (if S k then n else n+1):=by rw[e,hSk];exact⟨o,es,ep,t,ho,⟨ex,dt⟩,⟨el,mem⟩,⟨lt,sz⟩,ft,ok⟩
  exact h false s.heap (Heap.SameBut.refl a s.heap) r
 |none=>
  have hSk:S k=false:=by
   cases q:S k with
   |false=>rfl
   |true=>
    obtain⟨e,he,p⟩:=(mem k).mp q
    have:=List.findIdx?_eq_none_iff.mp f e he
    rw[p]at this
    cases this
  have pm:=layNew_perm t es ((cR prog w).hash k) x
  have fi:=layNew_fits t es ((cR prog w).hash k) x
  have tk:=A9 ok es ((cR prog w).hash k) x
  generalize layNew t es ((cR prog w).hash k) x=L at pm fi tk⊢
  obtain⟨es1,t1,wd,gv⟩:=L
  rw[xm]at pm
  have z1:es1.size=n+1:=by have:=pm.length_eq;simp at this;rw[this,sz]
  have N:∀t2:SetTable,t2.fits es1.size=true->C8 (fM w) t2->Iu prog w (λi=>S i||decide (i=k)) (n+1) es1 t2:=λt2 f2 k2=>
   ⟨(el.push hk hx).perm pm,mem_push_iff hk mem pm,by rw[z1];exact hn,z1,f2,k2⟩
  have quiet:∀(b:Bool)(s1:Shared)(Q':Unit->Shared->Prop),Q' () s1->wpAny (model prog w) A (match b with|true=>rule "set.scan.the-table-gave-way"|false=>pure ()) Q' E s1:=by
   intro b s1 Q' hq;cases b
   ·exact wpAny_pure hq
   ·exact wpAny_rule hq
  refine wpAny_bind (quiet gv _ _ ?_)
  have fin:∀h',Heap.SameBut a s.heap h'->kE prog w h' a (λi=>S i||decide (i=k)) (n+1)->Q true {s with heap:=h'}:=λh' sb r=>by have:=h true h' sb;rw[hSk]at this;exact this r
  dsimp only
  split
  ·refine wpAny_bind ?_;rw[hashByValue_scannable 8 hx];refine wpAny_pure (GZ quiet P ?_ λh' sb r=>wpAny_pure (fin h' sb r));split
   ·exact N _ fi tk
   ·exact N _ (SetTable.fits_plain_off fi) ⟨tk.rise,tk.led⟩
  ·refine wpAny_bind (wpAny_pure ?_);exact GZ quiet P (N _ fi tk) λh' sb r=>wpAny_pure (fin h' sb r)
end
end WkS
namespace WkS
open PySem PySem.Spec PyProof.Rows
abbrev gQ(w:World):Obj:={cls:=.type "set",dict:=none,data:=.set #[] 0 (.fresh 0 0 (!fM w))}
section
variable {prog:Program}{w:World}{A:Around}{s:Shared}
theorem A_{h:Heap}{a:Addr}(e:h.get? a=some (gQ w)):kE prog w h a (λ_=>false) 0:=by refine⟨_,#[],0,_,e,⟨⟨rfl,rfl,rfl⟩,rfl⟩,⟨λz hz=>by simp at hz,λk=>by simp⟩,⟨by decide,rfl⟩,rfl,?_,rfl⟩;show tV #[];exact List.Pairwise.nil
theorem C9{E:Value->Shared->Prop}(v:Value){R:Value->Shared->Prop}(q:R (.ref s.heap.objs.size) {s with heap:=s.heap.push (gQ w)}):codeAny (model prog w) A (.call (.builtin "set.__new__") ⟨[.type "set",v],[]⟩) (wants R E) s:=by refine codeAny_of_tree ?_;show wpAny _ A.in1 (checkBuiltinCall "set.__new__" ⟨[.type "set",v],[]⟩>>=λ_=>again (.builtin "set.__new__" ⟨[.type "set",v],[]⟩)) _ _ s;refine wpAny_bind (wpAny_of_eq (PySem.F.newCall_set_1 v) ?_);refine wpAny_pure ⟨plainId_quiet FG _,?_⟩;refine codeAny_builtin PySem.F.entry_set_new ?_;rw[Around.under_plainId FG _];unfold Builtin.«set.__new__» Builtin.Frozenset.newClass;have sub:=sub_set_self;obtain⟨hp,g,d,tk,os⟩:=s;dsimp only;wp_walk;refine wpAny_askSetting (wpAny_pure ?_);dsimp only;simp only[newObj];refine wpAny_bind (wpAny_alloc (wpAny_pure ?_));exact wpAny_pure q
variable {R:Result->Shared->Prop}{I:Addr}{fp wr:List Addr}{G:Array GenState->Array GenState->Prop}{n:Nat}{P:Nat->Value->Prop}{St:Nat->Shared->Prop}
theorem kE.congr{h:Heap}{a:Addr}{S S':Int->Bool}{m m':Nat}(x:kE prog w h a S m)(e:∀k,S k=S' k)(e':m=m'):kE prog w h a S' m':=by obtain rfl:S=S':=funext e;subst e';exact x
theorem I0(W:WalksS prog w A.in1 I fp wr G n P St)(D:Addr)(out:D∉fp)(val:Nat->Int)(hv:∀i v,P i v->∃t,v=.int (val i) t)(few:n+1<scanBound):∀(k i:Nat)(s:Shared),n-i=k->i<=n->St i s->kE prog w s.heap D (λz=>(firstMet val i).any (·==z)) (firstMet val i).length->(∀s',Moved (D::wr) G s s'->kE prog w s'.heap D (λz=>(firstMet val n).any (·==z)) (firstMet val n).length->R (.ok (.ret .none)) s')->codeAny (model prog w) A (.builtin "set.update.loop" ⟨[.ref D,.ref I],[]⟩) R s:=by
 have outw:D∉wr:=λq=>out (W.sub _ q);have incl:∀b∈wr,b∈D::wr:=λb q=>aJ _ q;intro k;induction k with
 |zero=>
  intro i s hk hi st x fin
  obtain rfl:i=n:=by omega
  refine codeAny_builtin ui ?_
  rw[Around.under_plainId iD _]
  show wpAny _ A.in1 (pyNext (.ref I)>>=_) _ _ s
  refine wpAny_bind (W.done s _ _ st λs1 mv=>?_)
  refine wpAny_pure (fin s1 (mv.mono incl) ?_)
  exact x.mono λo e=>mv.heap D o outw e
 |succ k ih=>
  intro i s hk hi st x fin
  have lt:i<n:=by omega
  refine codeAny_builtin ui ?_
  rw[Around.under_plainId iD _]
  show wpAny _ A.in1 (pyNext (.ref I)>>=_) _ _ s
  refine wpAny_bind (W.item i s _ _ lt st λv s1 pv st1 mv=>?_)
  obtain⟨t,rfl⟩:=hv i v pv
  have x1:=x.mono (h':=s1.heap) λo e=>mv.heap D o outw e
  show wpAny _ A.in1 (holding [Value.int (val i) t] (setAdd D (.int (val i) t))>>=_) _ _ s1
  refine wpAny_bind (wpAny_holding ?_)
  unfold setAdd
  refine wpAny_holding (wpAny_bind ?_)
  refine(cR prog w).pyHash (k:=val i) (intKind_is _ _ _ _) ?_
  have room:(firstMet val i).length+1<scanBound:=by have:=firstMet_length_le val i;omega
  refine addR (s:={s1 with toks:=s1.toks+1}) (intKind_is _ _ _ _) rfl x1 room λb h2 sb x2=>?_
  have x3:=x2.congr (λz=>by rw[<-step_any,<-firstMet_succ]) (m':=(firstMet val (i+1)).length) (by rw[firstMet_succ,step_length])
  refine wpAny_pure ⟨plainId_quiet iD _,?_⟩
  refine ih (i+1) _ (by omega) lt ?_ x3 λs3 m3 x4=>fin s3 ?_ x4
  ·refine W.frame _ s1 _ _ st1 (jb _) λb hb o e=>?_;have ne:b≠D:=λq=>out (q▸hb);rw[sb.2 b ne];exact e
  ·refine Moved.trans W.gtrans ((mv.mono incl).then_heap (jb _) λb o hb e=>?_) m3;have ne:b≠D:=λq=>hb (q▸aY);rw[sb.2 b ne];exact e
end
end WkS
namespace WkS
open PySem PySem.Spec PyProof.Rows
section
variable {prog:Program}{w:World}{A:Around}{E:Value->Shared->Prop}{s:Shared}
abbrev met(ns:List Int)(n:Nat):List Int:=firstMet (λi=>ns.getD i 0) n
set_option maxHeartbeats 3200000 in
theorem C_{l:Addr}{items:Array Value}{ns:List Int}{Q:Value->Shared->Prop}(calm:A.handled=none)(hl:s.heap.IsList l items)(hi:IntsAre items.toList ns)(few:items.size+1<scanBound)(h:∀(h1:Heap)(tk:Nat),kE prog w h1 s.heap.objs.size (λz=>(met ns items.size).any (·==z)) (met ns items.size).length->(∀b o,b<s.heap.objs.size->s.heap.get? b=some o->h1.get? b=some o)->Q (.ref s.heap.objs.size) {s with heap:=h1,toks:=tk}):wpAny (model prog w) A (call (.type "set") [.ref l]) Q E s:=by
 obtain⟨c,tl,mro⟩:=ej.mro;have made:=ej.made;have below:=ej.sub;refine wpAny_call (codeAny_of_tree ?_);show wpAny _ _ (callAny (.type "set") _) _ _ _;refine wpAny_pure ⟨Code.quiet_builtin _ (by decide+kernel),?_⟩;refine codeAny_builtin PySem.F.entry_type_call ?_;rw[Around.under_plain (weight_type_call_type "set" [.ref l] []) rfl];have q1:=ej.notType;have q2:=ej.canCreate;have q3:=PySem.F.typeCall_set_1 (.ref l);repeat (any_goals (first|assumption|wp_step))
 refine codeAny_mono (C9 (.ref l) (E:=E) (R:=λob s1=>ob=.ref s.heap.objs.size/\s1={s with heap:=s.heap.push (gQ w)}) ⟨rfl,rfl⟩) λr s1 hr=>?_;cases r with
 |error e=>exact hr
 |ok fl=>
  cases fl with
  |ret ob=>
   obtain⟨rfl,rfl⟩:=hr
   have hS:(s.heap.push (gQ w)).get? s.heap.objs.size=some (gQ w):=Heap.get?_push_size _ rfl
   have hT:Shared.TypeIs {s with heap:=s.heap.push (gQ w)} (.ref s.heap.objs.size) "set":=⟨_,hS,rfl⟩
   have q4:=ej.init.lookup
   have q5:=ej.init.bind (.ref s.heap.objs.size)
   repeat (any_goals (first|assumption|wp_step))
   refine codeAny_mono (codeAny_call_builtin (R:=wants (λr s2=>r=.none/\∃h1 tk,s2={s with heap:=h1,toks:=tk}/\kE prog w h1 s.heap.objs.size (λz=>(met ns items.size).any (·==z)) (met ns items.size).length/\∀b o,b<s.heap.objs.size->s.heap.get? b=some o->h1.get? b=some o) E) ej.init.plain PySem.F.entry_set_init (check_set_init_1 hT ?_)) λr2 s2 hr2=>?_
   ·obtain⟨ol,hol,hcl,nl,hdl⟩:=hl;obtain⟨ocls,odict,odata,oslots⟩:=ol;simp only at hcl hdl;subst hcl;subst hdl;have hol2:(s.heap.push (gQ w)).get? l=some {cls:=.type "list",dict:=odict,data:=.seq items nl,slots:=oslots}:=Heap.get?_push_of_some _ hol;have sub1:=PySem.F.sub_list_set;have sub2:=PySem.F.sub_list_frozenset;have nd:(Value.type "list"==Value.type "dict")=false:=by decide
    have hl2:(s.heap.push (gQ w)).IsList l items:=⟨_,hol2,rfl,nl,rfl⟩;unfold Builtin.«set.__init__» noKeywords Builtin.Frozenset.updateFrom;generalize eI:pyIter=PI;wp_walk;subst eI;refine wpAny_pyIter_list hl2 (wpAny_bind (wpAny_runValue ?_));have lS:l<s.heap.objs.size:=Heap.lt_size hol;have calm3:A.in1.in1.in1.handled=none:=by simp[calm]
    have neI:l≠(s.heap.push (gQ w)).objs.size:=by rw[Heap.size_push];exact bF (cV lS)
    have out:s.heap.objs.size∉[(s.heap.push (gQ w)).objs.size,l]:=by
     rw[Heap.size_push];intro q;rcases aF.mp q with q|q
     ·exact absurd q (bF (dE _))
     ·exact absurd (aE.mp q) (qr lS)
    have val:∀(i:Nat)(v:Value),items[i]?=some v->∃t,v=.int (ns.getD i 0) t:=λi v e=>by rw[<-cC]at e;exact IntsAre.int_at hi i v e
    refine I0 ((Walks.list calm3 _ l neI items).toS) s.heap.objs.size out (λi=>ns.getD i 0) val few (items.size-0) 0 _ (by omega) (aV _) ⟨⟨_,Heap.get?_push_size _ rfl,rfl,rfl⟩,hl2.push _⟩ ?_ ?_
    ·exact(A_ (Heap.get?_push_of_some _ hS)).congr (λ_=>rfl) rfl
    ·intro s3 mv x;obtain⟨h3,g3,d3,tk3,os3⟩:=s3;obtain rfl:g3=s.gens:=mv.gens;obtain rfl:d3=s.drawn:=mv.drawn;obtain rfl:os3=s.os:=mv.os;show wpAny _ _ _ _ _ _;refine wpAny_pure ?_;show wpAny _ _ (ret Value.none) _ _ _;refine wpAny_pure ⟨rfl,h3,tk3,rfl,x,λb o hb e=>?_⟩;refine mv.heap b o ?_ (Heap.get?_push_of_some _ (Heap.get?_push_of_some _ e));rw[Heap.size_push];intro q;rcases aF.mp q with q|q
     ·exact absurd q (bF hb)
     ·exact absurd (aE.mp q) (bF (cV hb))
   ·cases r2 with
    |error e=>exact hr2
    |ok fl2=>
     cases fl2 with
     |ret r=>
      obtain⟨rfl,h2,tk,rfl,x,kp⟩:=hr2
      repeat (any_goals (first|assumption|wp_step))
      exact h _ _ x kp
     |next=>exact hr2
     |brk=>exact hr2
     |cont=>exact hr2
  |next=>exact hr
  |brk=>exact hr
  |cont=>exact hr
end
end WkS
namespace WkS
open PySem PySem.Spec PyProof.Rows
theorem slot_next:Slot "set_iterator" "__next__" "set_iterator.__next__":=Slot.of (owner:="set_iterator") (n:="__next__") (by rw[typeLookup_type,builtinLookup_eq_fast];kernel_rfl) (by decide+kernel) (by decide+kernel) (by decide+kernel) (by first|exact .inl (by decide+kernel)|exact .inr (by decide+kernel)) (by rw[isSubtype_type];kernel_rfl)
theorem entry_next:entryFor table "set_iterator.__next__"=some Builtin.«set_iterator.__next__»:=entryFor_of_tree (by kernel_rfl)
theorem Ba:entryFor table "set.__iter__"=some Builtin.«frozenset.__iter__»:=entryFor_alias (id':="frozenset.__iter__") (by kernel_rfl) rfl (by decide+kernel) (by kernel_rfl)
theorem zM:Manifest.owners.lookup (String.ofList ['r','o','t','a','r','e','t','i','_','t','e','s'].reverse)=some Manifest.sig_set_iterator:=by kernel_rfl
theorem args_next(a:Value):argsOk "set_iterator.__next__" ⟨[a],[]⟩:=by unfold argsOk;rw[signature?_of (id:="set_iterator.__next__") (n:=['_','_','t','x','e','n','_','_']) (o:=['r','o','t','a','r','e','t','i','_','t','e','s']) (by kernel_rfl) zM];kernel_rfl
abbrev mX(f:Value)(i:Nat)(r:Addr)(n ep:Nat):Obj:={cls:=.type "set_iterator",data:=.fields #[f,rawInt i,.ref r,rawInt n,rawInt ep]}
section
variable {prog:Program}{w:World}{A:Around}{E:Value->Shared->Prop}{s:Shared}
theorem Em{I r:Addr}{sl i n ep nx:Nat}{o:Obj}{es:Array (Int×Value)}{t:SetTable}{ep':Nat}{x:Value}{Q:Option Value->Shared->Prop}(hI:s.heap.get? I=some (mX (rawInt sl) i r n ep))(hr:s.heap.get? r=some o)(hd:o.data=.set es ep' t)(hf:t.fits es.size=true)(hn:es.size=n)(step:∀(A:Around)(E:Value->Shared->Prop)(R:Option (Value×Nat)->Shared->Prop),R (some (x,nx)) s->wpAny (model prog w) A (setNext r sl i ep) R E s)(h:∀h1,h1.get? I=some (mX (rawInt nx) (i+1) r n ep)->Heap.SameBut I s.heap h1->Q (some x) {s with heap:=h1}):wpAny (model prog w) A (pyNext (.ref I)) Q E s:=by have hT:s.TypeIs (.ref I) "set_iterator":=⟨_,hI,rfl⟩;unfold pyNext;refine wpAny_bind (wpAny_attempt (wpAny_callSpecial?_slot (name:=Str.ofString "__next__") hT slot_next (wpAny_call_entry slot_next hT entry_next ?_ (args_next _))));unfold Builtin.«set_iterator.__next__»;refine wpAny_bind (wpAny_pure ?_);refine wpAny_bind (wpAny_fieldsOf hI rfl ?_);show wpAny _ _ (setEntries r>>=_) _ _ _;refine wpAny_bind (wpAny_setEntries_of hr hd hf ?_);rw[if_neg (by rw[hn];simp)];show wpAny _ _ (setNext r ((sl:Int)).toNat ((i:Int)).toNat ((ep:Int)).toNat>>=_) _ _ _;rw[cy,cy,cy];refine wpAny_bind (step _ _ _ ?_);show wpAny _ _ (setField (.ref I) 0 (rawInt nx)>>=_) _ _ _;refine wpAny_bind (wpAny_setField_rec hI (by simp) λh1 e1 b1=>?_);refine wpAny_bind (wpAny_setField_rec (s:={s with heap:=h1}) e1 (by simp) λh2 e2 b2=>?_);refine wpAny_pure ⟨_,rfl,?_⟩;refine wpAny_pure (h h2 ?_ (b1.trans b2));rw[e2];simp[mX,rawInt]
theorem G0{Q:Option Value->Shared->Prop}{I:Addr}{h1:Heap}(calm:A.handled=none)(b:Heap.SameBut I s.heap h1)(h:∀h2,(∀b o,b≠I->s.heap.get? b=some o->h2.get? b=some o)->Q none {s with heap:=h2}):wpAny (model prog w) A.in1 (newExc (.type "StopIteration") []>>=λe=>raiseNew e) (λ(fin:Fin)s'=>∃v,fin=.done (.ret v)/\wpAny (model prog w) A (pure (some v)) Q E s') (λe s'=>wpAny (model prog w) A (isInstance e (.type "StopIteration")>>=λc=>if c=true then pure none else throw e) Q E s') {s with heap:=h1}:=by refine wpAny_bind ?_;simp only[newExc,newTuple];refine wpAny_bind (wpAny_newObj_type ?_ (by size_fits));refine wpAny_bind (m:=firstArgMember _ _) (wpAny_of_eq (a:=Value.none) (by first|rfl|(simp only[firstArgMember];rfl)) ?_);refine wpAny_newObj_type ?_ (by size_fits);simp only[raiseNew];refine wpAny_bind (wpAny_handled ?_);rw[show A.in1.handled=none from calm];refine wpAny_bind (wpAny_pure (wpAny_throw ?_));refine wpAny_bind (wpAny_isInstance (T:="StopIteration") (b:=true) ⟨_,Heap.get?_push_size _ rfl,rfl⟩ isSubtype_stop ?_);refine wpAny_pure (h _ λb' o ne e=>?_);refine Heap.get?_push_of_some _ (Heap.get?_push_of_some _ ?_);rw[b.2 b' ne];exact e
theorem next_end{I r:Addr}{sl i n ep:Nat}{o:Obj}{es:Array (Int×Value)}{t:SetTable}{ep':Nat}{Q:Option Value->Shared->Prop}(calm:A.handled=none)(hI:s.heap.get? I=some (mX (rawInt sl) i r n ep))(hr:s.heap.get? r=some o)(hd:o.data=.set es ep' t)(hf:t.fits es.size=true)(hn:es.size=n)(step:∀(A:Around)(E:Value->Shared->Prop)(R:Option (Value×Nat)->Shared->Prop),R none s->wpAny (model prog w) A (setNext r sl i ep) R E s)(h:∀h2,(∀b o,b≠I->s.heap.get? b=some o->h2.get? b=some o)->Q none {s with heap:=h2}):wpAny (model prog w) A (pyNext (.ref I)) Q E s:=by have hT:s.TypeIs (.ref I) "set_iterator":=⟨_,hI,rfl⟩;unfold pyNext;refine wpAny_bind (wpAny_attempt (wpAny_callSpecial?_slot (name:=Str.ofString "__next__") hT slot_next (wpAny_call_entry slot_next hT entry_next ?_ (args_next _))));unfold Builtin.«set_iterator.__next__»;refine wpAny_bind (wpAny_pure ?_);refine wpAny_bind (wpAny_fieldsOf hI rfl ?_);show wpAny _ _ (setEntries r>>=_) _ _ _;refine wpAny_bind (wpAny_setEntries_of hr hd hf ?_);rw[if_neg (by rw[hn];simp)];show wpAny _ _ (setNext r ((sl:Int)).toNat ((i:Int)).toNat ((ep:Int)).toNat>>=_) _ _ _;rw[cy,cy,cy];refine wpAny_bind (step _ _ _ ?_);show wpAny _ _ (setField (.ref I) 2 .none>>=_) _ _ _;refine wpAny_bind (wpAny_setField_rec hI (by simp) λh1 e1 b1=>?_);exact G0 (s:=s) calm b1 h
theorem Bb{I r P:Addr}{i n ep k:Nat}{o op:Obj}{es:Array (Int×Value)}{t:SetTable}{pl:List Nat}{x:Int×Value}{c:Nat}{Q:Option Value->Shared->Prop}(hI:s.heap.get? I=some (mX (.ref P) i r n ep))(hP:s.heap.get? P=some op)(hp:op.data=.seq (pl.map λ(i:Nat)=>rawInt i).toArray c)(hr:s.heap.get? r=some o)(hd:o.data=.set es ep t)(hf:t.fits es.size=true)(hn:es.size=n)(hk:pl[i]?=some k)(hx:es[k]?=some x)(h:∀h1,h1.get? I=some (mX (.ref P) (i+1) r n ep)->Heap.SameBut I s.heap h1->Q (some x.2) {s with heap:=h1}):wpAny (model prog w) A (pyNext (.ref I)) Q E s:=by
 have hT:s.TypeIs (.ref I) "set_iterator":=⟨_,hI,rfl⟩;unfold pyNext;refine wpAny_bind (wpAny_attempt (wpAny_callSpecial?_slot (name:=Str.ofString "__next__") hT slot_next (wpAny_call_entry slot_next hT entry_next ?_ (args_next _))));unfold Builtin.«set_iterator.__next__»;refine wpAny_bind (wpAny_pure ?_);refine wpAny_bind (wpAny_fieldsOf hI rfl ?_);show wpAny _ _ (setEntries r>>=_) _ _ _;refine wpAny_bind (wpAny_setEntries_of hr hd hf ?_);rw[if_neg (by rw[hn];simp)];show wpAny _ _ (seqItems? (.ref P)>>=_) _ _ _;unfold seqItems?;refine wpAny_bind (wpAny_bind (wpAny_load hP ?_));rw[hp];refine wpAny_pure ?_;have hg:(pl.map λ(i:Nat)=>rawInt i).toArray[((i:Int)).toNat]?=some (rawInt k):=by rw[cy,FH,a9,hk];rfl
 simp only[hg];show wpAny _ _ (setNextDrawn r ((k:Int)).toNat ((ep:Int)).toNat>>=_) _ _ _;rw[cy,cy];unfold setNextDrawn;refine wpAny_bind (wpAny_bind (wpAny_setState_of hr hd hf ?_));simp only[bne_self_eq_false,cO,if_false];rw[hx];refine wpAny_pure ?_;refine wpAny_bind (wpAny_setField_rec hI (by simp) λh1 e1 b1=>?_);refine wpAny_pure ⟨_,rfl,?_⟩;refine wpAny_pure (h h1 ?_ b1);rw[e1];simp[mX,rawInt]
theorem Dc{I r P:Addr}{i n ep:Nat}{o op:Obj}{es:Array (Int×Value)}{t:SetTable}{pl:List Nat}{c:Nat}{Q:Option Value->Shared->Prop}(calm:A.handled=none)(hI:s.heap.get? I=some (mX (.ref P) i r n ep))(hP:s.heap.get? P=some op)(hp:op.data=.seq (pl.map λ(i:Nat)=>rawInt i).toArray c)(hr:s.heap.get? r=some o)(hd:o.data=.set es ep t)(hf:t.fits es.size=true)(hn:es.size=n)(hk:pl[i]?=none)(h:∀h2,(∀b o,b≠I->s.heap.get? b=some o->h2.get? b=some o)->Q none {s with heap:=h2}):wpAny (model prog w) A (pyNext (.ref I)) Q E s:=by
 have hT:s.TypeIs (.ref I) "set_iterator":=⟨_,hI,rfl⟩;unfold pyNext;refine wpAny_bind (wpAny_attempt (wpAny_callSpecial?_slot (name:=Str.ofString "__next__") hT slot_next (wpAny_call_entry slot_next hT entry_next ?_ (args_next _))));unfold Builtin.«set_iterator.__next__»;refine wpAny_bind (wpAny_pure ?_);refine wpAny_bind (wpAny_fieldsOf hI rfl ?_);show wpAny _ _ (setEntries r>>=_) _ _ _;refine wpAny_bind (wpAny_setEntries_of hr hd hf ?_);rw[if_neg (by rw[hn];simp)];show wpAny _ _ (seqItems? (.ref P)>>=_) _ _ _;unfold seqItems?;refine wpAny_bind (wpAny_bind (wpAny_load hP ?_));rw[hp];refine wpAny_pure ?_;have hg:(pl.map λ(i:Nat)=>rawInt i).toArray[((i:Int)).toNat]?=none:=by rw[cy,FH,a9,hk];rfl
 simp only[hg];refine wpAny_bind (wpAny_setField_rec hI (by simp) λh1 e1 b1=>?_);refine wpAny_bind (wpAny_setField_rec (s:={s with heap:=h1}) e1 (by simp) λh2 e2 b2=>?_);exact G0 (s:=s) calm (b1.trans b2) h
end
end WkS
namespace WkS
open PySem PySem.Spec PyProof.Rows
section
variable {prog:Program}{w:World}{A:Around}{E:Value->Shared->Prop}{s:Shared}
theorem p_{α:Type}:∀{l:List α}{i:Nat}(h:i<l.length),(l[i]::l.eraseIdx i).Perm l
 |a::l,0,h=>.rfl
 |a::l,i+1,h=>by
  have hi:i<l.length:=by simpa using h
  have ih:=p_ (l:=l) (i:=i) hi;show(l[i]::a::l.eraseIdx i).Perm (a::l);exact(DM.swap a l[i] (l.eraseIdx i)).trans (DM.cons a ih)
theorem Dd{src:Source}{n:Nat}(hn:n≠0){Q:Nat->Shared->Prop}(h:∀i d,i<n->Q i {s with drawn:=d}):wpAny (model prog w) A (choose src n) Q E s:=λΓ p hΓ=>
 ⟨hn,h _ _ (BM _ (Nat.pos_of_ne_zero hn))⟩
theorem qO{α:Type}:∀(n:Nat)(xs:List α)(s:Shared)(Q:List α->Shared->Prop),xs.length=n->(∀ys d,ys.Perm xs->Q ys {s with drawn:=d})->wpAny (model prog w) A (drawOrder n xs) Q E s
 |0,xs,s,Q,hl,h=>by
  obtain rfl:=bP hl;exact wpAny_pure (h [] s.drawn .nil)
 |n+1,[],s,Q,hl,h=>by cases hl
 |n+1,x::xs,s,Q,hl,h=>by show wpAny _ _ (choose .order (x::xs).length>>=_) _ _ _;refine wpAny_bind (Dd (by simp) λi d hi=>?_);rw[bu hi];show wpAny _ _ (drawOrder n ((x::xs).eraseIdx i)>>=_) _ _ _;refine wpAny_bind (qO n _ _ _ (by rw[BN hi,hl];rfl) λys d' hp=>wpAny_pure (h _ d' ?_));refine(DM.cons _ hp).trans ?_;exact p_ hi
theorem Cb{α:Type}(f:Nat->Nat):∀(n k:Nat)(l:List α)(out:Array α),l.length=n->(pickOrder.go f n k l out).toList.Perm (out.toList++l)
 |0,k,l,out,hl=>by
  obtain rfl:=bP hl;unfold pickOrder.go;simp
 |n+1,k,l,out,hl=>by have hi:f k%l.length<l.length:=BM _ (by omega);unfold pickOrder.go;rw[bu hi];simp only;refine(Cb f n (k+1) _ _ (by rw[BN hi,hl];rfl)).trans ?_;rw[xm,nJ];exact List.Perm.append_left _ (p_ hi)
theorem De{α:Type}(f:Nat->Nat)(xs:Array α):(pickOrder f xs).toList.Perm xs.toList:=by have:=Cb f xs.size 0 xs.toList #[] (by simp);simpa[pickOrder]using this
def walked(w:World)(r:Addr)(ep:Nat)(es:Array (Int×Value)):Array (Int×Value):=if fM w=true then pickOrder (w.params.setOrder r ep) es else es
def oa(w:World)(t:SetTable)(i:Nat):Nat:=if fM w=true then 0 else slotAt t.place i
theorem oe(r:Addr)(ep:Nat)(es:Array (Int×Value)):(walked w r ep es).toList.Perm es.toList:=by
 unfold walked;split
 ·exact De _ _
 ·exact .rfl
theorem u_{r:Addr}{o:Obj}{es:Array (Int×Value)}{t:SetTable}{ep i:Nat}{R:Option (Value×Nat)->Shared->Prop}(hr:s.heap.get? r=some o)(hd:o.data=.set es ep t)(hf:t.fits es.size=true)(ok:C8 (fM w) t)(nd:(!fM w&&(!t.plain&&decide (es.size>1)))=false)(hi:i<=es.size)(h:R ((walked w r ep es)[i]?.map λe=>(e.2,oa w t (i+1))) s):wpAny (model prog w) A (setNext r (oa w t i) i ep) R E s:=by
 unfold setNext;refine wpAny_bind (wpAny_setState_of hr hd hf ?_);unfold setsByText;refine wpAny_bind (wpAny_bind (wpAny_askSetting (wpAny_pure ?_)));show wpAny _ _ (if fM w=true then _ else _) _ _ _;cases hb:fM w with
 |true=>
  rw[if_pos rfl]
  simp only[bne_self_eq_false,cO,if_false]
  unfold setWalk setsByText
  refine wpAny_bind (wpAny_bind (wpAny_setState_of hr hd hf ?_))
  refine wpAny_bind (wpAny_bind (wpAny_askSetting (wpAny_pure ?_)))
  show wpAny _ _ (if fM w=true then _ else _) _ _ _
  rw[if_pos hb]
  refine wpAny_bind (wpAny_askSetting (wpAny_pure (wpAny_pure ?_)))
  have e1:walked w r ep es=pickOrder (w.params.setOrder r ep) es:=by unfold walked;rw[if_pos hb]
  have e2:oa w t (i+1)=oa w t i:=by unfold oa;rw[if_pos hb,if_pos hb]
  rw[e1,e2]at h
  exact h
 |false=>
  rw[if_neg aI]
  rw[hb]at nd
  show wpAny _ _ (if(!t.plain&&decide (es.size>1))=true then _ else _) _ _ _
  rw[if_neg (by simpa using nd)]
  have led:t.led=true:=by rw[ok.led,hb];rfl
  refine wpAny_bind ?_
  show wpAny _ _ (if(!t.led&&!es.isEmpty)=true then _ else _) _ _ _
  rw[led]
  rw[if_neg (by simp)]
  refine wpAny_pure (wpAny_pure ?_)
  have e1:walked w r ep es=es:=by unfold walked;rw[if_neg (by rw[hb];exact aI)]
  have e2:∀j,oa w t j=slotAt t.place j:=λj=>by unfold oa;rw[if_neg (by rw[hb];exact aI)]
  have hsz:t.place.size=es.size:=by unfold SetTable.fits at hf;rw[dG]at hf;simpa using hf.1
  rw[e1,e2]at h
  rw[e2]
  rw[yr ok.rise (by rw[hsz];exact hi)]
  by_cases hlt:i<es.size
  ·have hp:i<t.place.size:=by rw[hsz];exact hlt
   rw[bM hlt]at h⊢;rw[bM hp];have e3:slotAt t.place (i+1)=t.place[i]+1:=by show t.place.getD i 0+1=_;rw[gL,bM hp];rfl
   rw[e3]at h;exact h
  ·have hge:es.size<=i:=by omega
   rw[eV hge]at h⊢;exact h
end
end WkS
namespace WkS
open PySem PySem.Spec PyProof.Rows
section
variable {prog:Program}{w:World}{A:Around}{E:Value->Shared->Prop}{s:Shared}
theorem En{r:Addr}{o:Obj}{es:Array (Int×Value)}{ep:Nat}{t:SetTable}{Q:Value->Shared->Prop}(hr:s.heap.get? r=some o)(ex:o.ExactSet)(hd:o.data=.set es ep t)(hf:t.fits es.size=true)(hz:es.size<=sizeLine)(h1:(!fM w&&(!t.plain&&decide (es.size>1)))=false->Q (.ref s.heap.objs.size) {s with heap:=s.heap.push (mX (rawInt 0) 0 r es.size ep)})(h2:∀(pl:List Nat)(d:_),pl.Perm (iZ es.size)->(!fM w&&(!t.plain&&decide (es.size>1)))=true->Q (.ref (s.heap.objs.size+1)) {s with heap:=(s.heap.push (seqObj "tuple" (pl.map λ(i:Nat)=>rawInt i).toArray 0)).push (mX (.ref s.heap.objs.size) 0 r es.size ep),drawn:=d}):wpAny (model prog w) A (pyIter (.ref r)) Q E s:=by
 have hT:s.TypeIs (.ref r) "set":=⟨_,hr,ex.1⟩;refine wpAny_pyIter_slot hT FI (wpAny_call_entry FI hT Ba ?_ (PySem.F.args_set_iter_1 _));unfold Builtin.«frozenset.__iter__»;refine wpAny_bind ?_;unfold Builtin.Frozenset.slot0 slotArgs;refine wpAny_bind (wpAny_pure ?_);refine wpAny_pure ?_;refine wpAny_bind (wpAny_bind (wpAny_setEntries_of hr hd hf (wpAny_pure ?_)));refine wpAny_bind (wpAny_bind (wpAny_setState_of hr hd hf ?_));unfold setsByText;refine wpAny_bind (wpAny_bind (wpAny_askSetting (wpAny_pure ?_)));refine wpAny_pure ?_;have nx:typeLookup (Value.type "set_iterator") (Str.ofString "__next__")=pure (some (.builtin "set_iterator.__next__")):=slot_next.lookup;show wpAny _ _ (if(!fM w&&(!t.plain&&decide (es.size>1)))=true then _ else _) _ _ _;cases hb:(!fM w&&(!t.plain&&decide (es.size>1)))with
 |false=>
  rw[if_neg aI]
  refine wpAny_bind (wpAny_pure ?_)
  refine wpAny_bind (wpAny_setEpoch_of hr hd hf ?_)
  unfold newFields
  refine wpAny_bind (wpAny_newObj_type (wpAny_pure ⟨_,rfl,"set_iterator",_,⟨_,Heap.get?_push_size _ rfl,rfl⟩,nx,h1 hb⟩))
 |true=>
  rw[if_pos rfl]
  refine wpAny_bind (qO _ _ _ _ (nM ..) λpl d hp=>?_)
  refine wpAny_bind ?_
  refine wpAny_newTuple ?_ (by rw[ae,hp.length_eq,nM];exact hz)
  have hr2:(s.heap.push (seqObj "tuple" (pl.map λ(i:Nat)=>rawInt i).toArray 0)).get? r=some o:=Heap.get?_push_of_some _ hr
  refine wpAny_bind (wpAny_setEpoch_of (s:={s with heap:=s.heap.push (seqObj "tuple" (pl.map λ(i:Nat)=>rawInt i).toArray 0),drawn:=d}) hr2 hd hf ?_)
  unfold newFields
  refine wpAny_bind (wpAny_newObj_type (wpAny_pure ⟨_,rfl,"set_iterator",_,⟨_,Heap.get?_push_size _ rfl,rfl⟩,nx,?_⟩))
  have:=h2 pl d hp hb
  rw[show(s.heap.push (seqObj "tuple" (pl.map λ(i:Nat)=>rawInt i).toArray 0)).objs.size=s.heap.objs.size+1 from Heap.size_push ..]
  exact this
theorem slot_self:Slot "set_iterator" "__iter__" "set_iterator.__iter__":=Slot.of (owner:="set_iterator") (n:="__iter__") (by rw[typeLookup_type,builtinLookup_eq_fast];kernel_rfl) (by decide+kernel) (by decide+kernel) (by decide+kernel) (by first|exact .inl (by decide+kernel)|exact .inr (by decide+kernel)) (by rw[isSubtype_type];kernel_rfl)
theorem entry_self:entryFor table "set_iterator.__iter__"=some Builtin.«dict_keyiterator.__iter__»:=entryFor_alias (id':="dict_keyiterator.__iter__") (by kernel_rfl) rfl (by decide+kernel) (by kernel_rfl)
theorem args_self(a:Value):argsOk "set_iterator.__iter__" ⟨[a],[]⟩:=by unfold argsOk;rw[signature?_of (id:="set_iterator.__iter__") (n:=['_','_','r','e','t','i','_','_']) (o:=['r','o','t','a','r','e','t','i','_','t','e','s']) (by kernel_rfl) zM];kernel_rfl
theorem xH{I:Addr}{Q:Value->Shared->Prop}(hT:s.TypeIs (.ref I) "set_iterator")(h:Q (.ref I) s):wpAny (model prog w) A (pyIter (.ref I)) Q E s:=by refine wpAny_pyIter_slot hT slot_self (wpAny_call_entry slot_self hT entry_self ?_ (args_self _));show wpAny _ _ (ret (.ref I)) _ _ s;exact wpAny_pure ⟨_,rfl,"set_iterator",_,hT,slot_next.lookup,h⟩
theorem Bc(calm:A.handled=none){I r:Addr}{o:Obj}{es:Array (Int×Value)}{ep:Nat}{t:SetTable}(hne:r≠I)(hd:o.data=.set es ep t)(hf:t.fits es.size=true)(ok:C8 (fM w) t)(nd:(!fM w&&(!t.plain&&decide (es.size>1)))=false):WalksS prog w A I [I,r] [I] (λa b=>a=b) es.size (λi v=>((walked w r ep es).toList.map (·.2))[i]?=some v) (λi s=>s.heap.get? I=some (mX (rawInt (oa w t i)) i r es.size ep)/\s.heap.get? r=some o) where
 sub:=λb hb=>by simp at hb;simp[hb]
 grefl:=λ_=>rfl
 gtrans:=λ_ _ _ a b=>a.trans b
 frame:=λ_ _ _ _ st _ hk=>⟨hk I (by simp) _ st.1,hk r (by simp) _ st.2⟩
 item:=λi s Q E hi st hQ=>by
  have hsz:(walked w r ep es).size=es.size:=by have:=(oe (w:=w) r ep es).length_eq;simpa using this
  obtain⟨x,hx⟩:∃x,(walked w r ep es)[i]?=some x:=⟨_,bM (by rw[hsz];exact hi)⟩;refine Em (x:=x.2) (nx:=oa w t (i+1)) st.1 st.2 hd hf rfl (λA E R h=>u_ st.2 hd hf ok nd (cB hi) (by rw[hx];exact h)) λh1 e1 b1=>?_;refine hQ _ _ ?_ ⟨e1,?_⟩ ⟨λb o hb e=>?_,rfl,rfl,rfl,aN _⟩
  ·rw[a9,cC,hx];rfl
  ·rw[b1.2 r hne];exact st.2
  ·rw[b1.2 b (λq=>hb (by simp[q]))];exact e
 done:=λs Q E st hQ=>by
  have hsz:(walked w r ep es).size=es.size:=by have:=(oe (w:=w) r ep es).length_eq;simpa using this
  refine next_end calm st.1 st.2 hd hf rfl (λA E R h=>u_ st.2 hd hf ok nd (aN _) (by rw[eV (by rw[hsz];exact aN _)];exact h)) λh2 k2=>?_;exact hQ _ ⟨λb o hb e=>k2 b o (λq=>hb (by simp[q])) e,rfl,rfl,rfl,aN _⟩
 self:=λ_ _ _ _ st hQ=>xH ⟨_,st.1,rfl⟩ hQ
theorem zN(calm:A.handled=none){I r P:Addr}{o op:Obj}{es:Array (Int×Value)}{ep c:Nat}{t:SetTable}{pl:List Nat}(hne:r≠I)(hneP:P≠I)(hd:o.data=.set es ep t)(hf:t.fits es.size=true)(hpl:pl.Perm (iZ es.size))(hp:op.data=.seq (pl.map λ(i:Nat)=>rawInt i).toArray c):WalksS prog w A I [I,r,P] [I] (λa b=>a=b) es.size (λi v=>((pl.map λk=>es.toList.getD k (0,.none)).map (·.2))[i]?=some v) (λi s=>s.heap.get? I=some (mX (.ref P) i r es.size ep)/\s.heap.get? r=some o/\s.heap.get? P=some op) where
 sub:=λb hb=>by simp at hb;simp[hb]
 grefl:=λ_=>rfl
 gtrans:=λ_ _ _ a b=>a.trans b
 frame:=λ_ _ _ _ st _ hk=>⟨hk I (by simp) _ st.1,hk r (by simp) _ st.2.1,hk P (by simp) _ st.2.2⟩
 item:=λi s Q E hi st hQ=>by
  have hlen:pl.length=es.size:=by rw[hpl.length_eq,nM]
  obtain⟨k,hk⟩:∃k,pl[i]?=some k:=⟨_,bu (by rw[hlen];exact hi)⟩;have hk':k<es.size:=BI.mp (hpl.mem_iff.mp (aP hk));obtain⟨x,hx⟩:∃x,es[k]?=some x:=⟨_,bM hk'⟩;refine Bb (x:=x) st.1 st.2.2 hp st.2.1 hd hf rfl hk hx λh1 e1 b1=>?_;refine hQ _ _ ?_ ⟨e1,?_,?_⟩ ⟨λb o hb e=>?_,rfl,rfl,rfl,aN _⟩
  ·rw[a9,a9,hk];show some (es.toList.getD k (0,.none)).2=_;rw[mU,cC,hx];rfl
  ·rw[b1.2 r hne];exact st.2.1
  ·rw[b1.2 P hneP];exact st.2.2
  ·rw[b1.2 b (λq=>hb (by simp[q]))];exact e
 done:=λs Q E st hQ=>by
  have hlen:pl.length=es.size:=by rw[hpl.length_eq,nM]
  refine Dc calm st.1 st.2.2 hp st.2.1 hd hf rfl (du (by rw[hlen];exact aN _)) λh2 k2=>?_;exact hQ _ ⟨λb o hb e=>k2 b o (λq=>hb (by simp[q])) e,rfl,rfl,rfl,aN _⟩
 self:=λ_ _ _ _ st hQ=>xH ⟨_,st.1,rfl⟩ hQ
end
end WkS
namespace WkS
open PySem PySem.Spec PyProof.Rows
theorem Cc{prog:Program}{w:World}:∀{l:List (Int×Value)},ElemsOf (cR prog w) l->∃zs,IntsAre (l.map (·.2)) zs/\∀k,(∃e∈l,(cR prog w).is k e.2=true)↔k∈zs
 |[],_=>⟨[],.nil,λk=>by simp⟩
 |e::l,h=>by
  obtain⟨zs,h1,h2⟩:=Cc (prog:=prog) (w:=w) (l:=l) λx hx=>h x (aJ _ hx);obtain⟨⟨k,hk,_⟩,_⟩:=h e (aY ..);have hk:Value.isInt k e.2=true:=hk;obtain⟨t,et⟩:=Value.isInt_shape hk;refine⟨k::zs,?_,λj=>?_⟩
  ·rw[bo,et];exact .cons _ _ h1
  ·rw[aF,<-h2 j];constructor
   ·rintro⟨x,hx,hj⟩;rcases aF.mp hx with rfl|hx
    ·exact .inl (Value.isInt_inj _ _ _ hj hk)
    ·exact .inr ⟨x,hx,hj⟩
   ·rintro(rfl|⟨x,hx,hj⟩)
    ·exact⟨e,aY ..,hk⟩
    ·exact⟨x,aJ _ hx,hj⟩
theorem range_getD{α:Type}(d:α):∀l:List α,(iZ l.length).map (λk=>l.getD k d)=l
 |[]=>rfl
 |a::l=>by rw[bG,qv,bo,aK];show a::(iZ l.length).map (λk=>l.getD k d)=a::l;rw[range_getD d l]
structure I_(prog:Program)(w:World)(A:Around)(s s2:Shared)(I r:Addr)(S:Int->Bool)(n:Nat)(fp:List Addr)(St:Nat->Shared->Prop)(vs:List Value)(zs:List Int):Prop where
 W:WalksS prog w A I fp [I] (λa b=>a=b) n (λi v=>vs[i]?=some v) St
 st:St 0 s2
 fps:∀b∈fp,b<s2.heap.objs.size
 new:s.heap.objs.size<=I
 fpo:∀b∈fp,b=r\/s.heap.objs.size<=b
 keep:∀b o,s.heap.get? b=some o->s2.heap.get? b=some o
 sz:s.heap.objs.size<=s2.heap.objs.size
 rest:∃h d,s2={s with heap:=h,drawn:=d}
 isz:IntsAre vs zs
 mem:∀k,S k=true↔k∈zs
 len:zs.length=n
section
variable {prog:Program}{w:World}{A:Around}{E:Value->Shared->Prop}{s:Shared}
theorem Eo{r:Addr}{S:Int->Bool}{n:Nat}{Q:Value->Shared->Prop}(calm:A.handled=none)(hS:kE prog w s.heap r S n)(h:∀I s2 fp St vs zs,I_ prog w A s s2 I r S n fp St vs zs->Q (.ref I) s2):wpAny (model prog w) A (pyIter (.ref r)) Q E s:=by
 obtain⟨o,es,ep,t,hr,⟨ex,hd⟩,⟨el,mem⟩,⟨lt,rfl⟩,hf,ok⟩:=hS;have hrl:r<s.heap.objs.size:=Heap.lt_size hr;have hz:es.size<=sizeLine:=ay (cB lt) (by decide);have rest:∀l:List (Int×Value),l.Perm es.toList->∃zs,IntsAre (l.map (·.2)) zs/\(∀k,S k=true↔k∈zs)/\zs.length=es.size:=λl p=>by
  obtain⟨zs,h1,h2⟩:=Cc (prog:=prog) (w:=w) (el.perm p);refine⟨zs,h1,λk=>?_,?_⟩
  ·rw[mem k,<-h2 k];constructor
   ·rintro⟨e,he,q⟩;exact⟨e,p.mem_iff.mpr he,q⟩
   ·rintro⟨e,he,q⟩;exact⟨e,p.mem_iff.mp he,q⟩
  ·rw[<-h1.length,ae,p.length_eq,dU]
 refine En hr ex hd hf hz (λnd=>?_) λpl d hpl _=>?_
 ·obtain⟨zs,z1,z2,z3⟩:=rest _ (oe (w:=w) r ep es);refine h _ _ _ _ _ zs ⟨Bc calm (bF hrl) hd hf ok nd,⟨?_,Heap.get?_push_of_some _ hr⟩,λb hb=>?_,aN _,(λb hb=>by simp at hb;rcases hb with rfl|rfl;exact .inr (aN _);exact .inl rfl),λb o e=>Heap.get?_push_of_some _ e,?_,⟨_,_,rfl⟩,z1,z2,z3⟩
  ·rw[show oa w t 0=0 by unfold oa;split<;>rfl];exact Heap.get?_push_size _ rfl
  ·show b<(s.heap.push _).objs.size;rw[Heap.size_push];simp at hb;rcases hb with rfl|rfl
   ·exact dE _
   ·exact cV hrl
  ·show _<=(s.heap.push _).objs.size;rw[Heap.size_push];exact jb _
 ·obtain⟨zs,z1,z2,z3⟩:=rest (pl.map λk=>es.toList.getD k (0,.none)) (by have:=hpl.map λk=>es.toList.getD k (0,Value.none);rw[<-dU,range_getD]at this;exact this);have p1:(s.heap.push (seqObj "tuple" (pl.map λ(i:Nat)=>rawInt i).toArray 0)).objs.size=s.heap.objs.size+1:=Heap.size_push ..;refine h _ _ _ _ _ zs ⟨zN (P:=s.heap.objs.size) (op:=seqObj "tuple" (pl.map λ(i:Nat)=>rawInt i).toArray 0) calm (bF (cV hrl)) (bF (dE _)) hd hf hpl rfl,⟨?_,Heap.get?_push_of_some _ (Heap.get?_push_of_some _ hr),Heap.get?_push_of_some _ (Heap.get?_push_size _ rfl)⟩,λb hb=>?_,jb _,(λb hb=>by simp at hb;rcases hb with rfl|rfl|rfl;exact .inr (jb _);exact .inl rfl;exact .inr (aN _)),λb o e=>Heap.get?_push_of_some _ (Heap.get?_push_of_some _ e),?_,⟨_,_,rfl⟩,z1,z2,z3⟩
  ·show((s.heap.push _).push _).get? (s.heap.objs.size+1)=_;rw[<-p1];exact Heap.get?_push_size _ rfl
  ·show b<((s.heap.push _).push _).objs.size;rw[Heap.size_push,Heap.size_push];simp at hb;rcases hb with rfl|rfl|rfl
   ·exact dE _
   ·exact cV (cV hrl)
   ·exact cV (dE _)
  ·show _<=((s.heap.push _).push _).objs.size;rw[Heap.size_push,Heap.size_push];omega
theorem Ep{r:Addr}{Q:Bool->Shared->Prop}(hT:s.TypeIs (.ref r) "set")(h:∀b,Q b s):wpAny (model prog w) A (Builtin.List.listLengthHint (.ref r)) Q E s:=by unfold Builtin.List.listLengthHint;refine wpAny_bind (wpAny_specialOf hT PySem.F.slot_set_len.lookup ?_);generalize hid:("set.__len__":String)=id0;wp_delta;rw[show splitId id0=some ("set","__len__")from by subst hid;decide+kernel];subst hid;refine wpAny_bind (wpAny_isInstance (T:="set") (b:=true) hT (by rw[isSubtype_type];kernel_rfl) ?_);refine wpAny_ite_split (λhab=>absurd hab (by decide)) (λ_=>?_);refine wpAny_ite_split (λ_=>?_) (λhab=>absurd (by decide+kernel) hab);refine wpAny_bind (wpAny_typeOf hT ?_);exact wpAny_pure (h _)
theorem Bd{r:Addr}{S:Int->Bool}{n:Nat}{R:Result->Shared->Prop}(calm:A.handled=none)(hS:kE prog w s.heap r S n)(D:Addr)(hDr:D≠r)(res:Value)(c₀:Nat)(hD:s.heap.get? D=some {cls:=.type "list",data:=.seq #[] c₀})(hR:∀(h':Heap)(tk:Nat)(d:Drawn)(acc':Array Value)(c':Nat)(zs:List Int),(∀b o,b≠D->s.heap.get? b=some o->h'.get? b=some o)->h'.get? D=some {cls:=.type "list",dict:=none,data:=.seq acc' c',slots:=#[]}->IntsAre acc'.toList zs->(∀k,S k=true↔k∈zs)->zs.length=n->R (.ok (.ret res)) {s with heap:=h',toks:=tk,drawn:=d}):wpAny (model prog w) A.in1 (Builtin.List.listExtendWith (.ref D) (.ref r) res) (λfin s'=>match fin with|.done f=>R (.ok f) s'|.again c'=>c'.quiet=true/\codeAny (model prog w) A c' R s') (λe s'=>R (.error e) s') s:=by
 have hn:n<=sizeLine:=by obtain⟨o,es,ep,t,_,_,_,⟨lt,rfl⟩,_⟩:=hS;exact ay (cB lt) (by decide)
 have hTs:∀s':Shared,kE prog w s'.heap r S n->s'.TypeIs (.ref r) "set":=λs' x=>by obtain⟨o,es,ep,t,hr,⟨ex,_⟩,_⟩:=x;exact⟨_,hr,ex.1⟩
 unfold Builtin.List.listExtendWith;refine wpAny_bind (wpAny_typeOf (T:="set") (hTs s hS) ?_);have h1:Builtin.List.listSameRef (.ref D) (.ref r)=false:=by simp[Builtin.List.listSameRef,hDr]
 have h2:(Value.type "set"==Value.type "list")=false:=by decide
 have h3:(Value.type "set"==Value.type "tuple")=false:=by decide
 simp only[h1,h2,h3,Bool.or_false,cO,if_false];refine wpAny_bind (Eo (A:=A.in1) calm hS λI s2 fp St vs zs B=>?_);obtain⟨h2',d2,e2⟩:=B.rest;have hDf:D∉fp:=λm=>by
  rcases B.fpo D m with q|q
  ·exact hDr q
  ·exact absurd (Heap.lt_size hD) (Jj q)
 have hD2:=B.keep _ _ hD;have key:∀(h:Heap)(c₁ tk:Nat),St 0 {s2 with heap:=h,toks:=tk}->(∀b o,b≠D->s.heap.get? b=some o->h.get? b=some o)->h.get? D=some {cls:=.type "list",data:=.seq #[] c₁}->codeAny (model prog w) A (.builtin "list.extend.loop" ⟨[.ref D,.ref I,res],[]⟩) R {s2 with heap:=h,toks:=tk}:=by
  intro h c₁ tk hst hk hS₁;refine codeAny_extend_loopS B.W hn D hDf res n 0 _ #[] c₁ rfl (aV _) hst hS₁ (ItemsOf.nil _) λs' acc' c' hm hS' hacc=>?_;have ev:acc'.toList=vs:=by
   obtain⟨a1,a2⟩:=hacc;apply List.ext_getElem?;intro i;by_cases hi:i<n
   ·have:acc'[i]?=some acc'[i]:=bM (by rw[a1];exact hi);rw[cC,this];exact(a2 i _ this).symm
   ·rw[du (by rw[dU,a1];omega),du (by rw[B.isz.length,B.len];omega)]
  have e3:s'={s with heap:=s'.heap,toks:=s'.toks,drawn:=d2}:=by obtain⟨_,m2,m3,m4,_⟩:=hm;obtain⟨a,b,c,d,e⟩:=s';subst e2;simp only at m2 m3 m4;subst m2 m3 m4;rfl
  rw[e3];refine hR s'.heap s'.toks d2 acc' c' zs (λb o hb e=>hm.heap b o (λhmem=>?_) (hk b o hb e)) hS' (by rw[ev];exact B.isz) B.mem B.len;rcases aF.mp hmem with e'|hmem
  ·exact hb e'
  ·exact absurd (Heap.lt_size e) (by rw[aE.mp hmem];exact Jj B.new)
 have R2:=hS.mono (h':=s2.heap) λo e=>B.keep _ _ e;refine wpAny_bind (wpAny_holding (Ep (hTs s2 R2) λbb=>?_));refine wpAny_ite_split (λ_=>?_) (λ_=>wpAny_pure ⟨plainId_quiet Cz _,key s2.heap c₀ s2.toks B.st (λb o _ e=>B.keep _ _ e) hD2⟩);refine wpAny_bind (wpAny_rule ?_);refine wpAny_bind ?_;show wpAny _ _ (updateSeq D (·.push .none)>>=λ_=>updateSeq D (·.pop)) _ _ _;refine wpAny_bind (wpAny_updateSeq hD2 rfl ?_);have hS₂:=Heap.get?_update_self (Obj.mapSeq (·.push Value.none)) hD2 rfl;refine wpAny_updateSeq (hz:=by seq_fits) hS₂ rfl ?_;have hS₃:=Heap.get?_update_self (Obj.mapSeq (·.pop)) hS₂ rfl;have oth:∀b o,b≠D->s2.heap.get? b=some o->((s2.heap.update D (Obj.mapSeq (·.push Value.none))).update D (Obj.mapSeq (·.pop))).get? b=some o:=λb o hb e=>
  (Heap.get?_update_other _ _ (l_ hb)).trans ((Heap.get?_update_other _ _ (l_ hb)).trans e)
 exact wpAny_pure ⟨plainId_quiet Cz _,key _ _ _ (B.W.frame 0 s2 _ _ B.st (aN _) λb hb o e=>oth b o (λq=>hDf (q▸hb)) e) (λb o hb e=>oth b o hb (B.keep _ _ e)) hS₃⟩
theorem zO{r:Addr}{S:Int->Bool}{n:Nat}{R:List Value->Shared->Prop}(calm:A.handled=none)(hS:kE prog w s.heap r S n)(h:∀(h':Heap)(tk:Nat)(d:Drawn)(vs:List Value)(zs:List Int),(∀b o,s.heap.get? b=some o->h'.get? b=some o)->IntsAre vs zs->(∀k,S k=true↔k∈zs)->zs.length=n->R vs {s with heap:=h',toks:=tk,drawn:=d}):wpAny (model prog w) A (collect (.ref r)) R E s:=by
 have hrl:r<s.heap.objs.size:=by obtain⟨o,es,ep,t,hr,_⟩:=hS;exact Heap.lt_size hr
 unfold collect;refine wpAny_bind (wpAny_runValue (codeAny_builtin entry_proto_collect' ?_));rw[Around.under_plainId PySem.F.plain_proto_collect _];show wpAny _ A.in1 (newList []>>=λl=>again (.builtin "list.__iadd__" ⟨[l,.ref r],[]⟩)) _ _ s;refine wpAny_bind (wpAny_newObj_type ?_);refine wpAny_pure ⟨plainId_quiet DN _,codeAny_builtin PySem.F.entry_list_iadd ?_⟩;rw[Around.under_plainId DN _];have hS₁:(s.heap.push {cls:=.type "list",data:=.seq ([]:List Value).toArray}).get? s.heap.objs.size=some {cls:=.type "list",data:=.seq #[]}:=Heap.get?_push_size _ rfl;show wpAny _ A.in1 (Builtin.List.listExtendWith (.ref s.heap.objs.size) (.ref r) (.ref s.heap.objs.size)) _ _ _;have key:=Bd (A:=A) (s:={s with heap:=s.heap.push {cls:=.type "list",data:=.seq ([]:List Value).toArray}}) (R:=λ(q:Result)(s':Shared)=>∃(h':Heap)(tk:Nat)(d:Drawn)(acc':Array Value)(c':Nat)(zs:List Int),q=.ok (.ret (.ref s.heap.objs.size))/\s'={s with heap:=h',toks:=tk,drawn:=d}/\(∀b o,s.heap.get? b=some o->h'.get? b=some o)/\h'.get? s.heap.objs.size=some {cls:=.type "list",dict:=none,data:=.seq acc' c',slots:=#[]}/\IntsAre acc'.toList zs/\(∀k,S k=true↔k∈zs)/\zs.length=n) calm (hS.mono λo e=>Heap.get?_push_of_some _ e) s.heap.objs.size (qr hrl) (.ref s.heap.objs.size) 0 hS₁ (λh' tk d acc' c' zs hk hS' a1 a2 a3=>⟨h',tk,d,acc',c',zs,rfl,rfl,λb o e=>hk b o (bF (Heap.lt_size e)) (Heap.get?_push_of_some _ e),hS',a1,a2,a3⟩);refine wpAny_mono key (λfin s' x=>?_) λe s' x=>?_
 ·cases fin with
  |done f=>
   obtain⟨h',tk,d,acc',c',zs,e,rfl,hk,hS',a1,a2,a3⟩:=x
   cases e
   show wpAny _ A (load s.heap.objs.size>>=_) _ _ _
   refine wpAny_bind (wpAny_load hS' ?_)
   exact wpAny_pure (h h' tk d acc'.toList zs hk a1 a2 a3)
  |again c₁=>
   refine⟨x.1,codeAny_mono x.2 λq s₂ y=>?_⟩
   obtain⟨h',tk,d,acc',c',zs,rfl,rfl,hk,hS',a1,a2,a3⟩:=y
   show wpAny _ A (load s.heap.objs.size>>=_) _ _ _
   refine wpAny_bind (wpAny_load hS' ?_)
   exact wpAny_pure (h h' tk d acc'.toList zs hk a1 a2 a3)
 ·obtain⟨_,_,_,_,_,_,e',_⟩:=x;cases e'
end
end WkS
namespace WkR
open PySem PySem.Spec PyProof.Rows L2
section
variable {X:Cx}
def Er(K:aj):List V->Hp->VK->Prop:=λvs H Q=>∃(a:Addr)(ns:List Int),vs=[V.ref a]/\bZ K H a (ns.map V.int)/\∀(ns':List Int)(p:Addr),ns'.Perm ns->ns'.Pairwise (·<=·)->H p=none->Q (.ref p) (upd H p (.lst (ns'.map V.int)))
theorem mD:iJ X (.builtin "sorted") (Er X.K):=by
 intro pins s σ H vs us Q I r h;obtain⟨a,ns,rfl,hs,q⟩:=h;obtain⟨its,rv,hl,hlen⟩:=I.list hs;rw[cG.ref1 r];have hi:=rv.ints;have hlen':its.length<=sizeLine:=by rw[<-rv.length];exact hlen
 refine PyProof.Rows.sorted_intsAny hl.isList hi hlen' λout ns' h1 h2 h3=>?_;obtain⟨ep,he'⟩:=PyProof.Rows.sortedAll_at s.heap its out;have hlen2:(ns'.map V.int).length<=sizeLine:=by rw[ae,h2.length_eq];rw[ae]at hlen;exact hlen
 exact⟨.ref _,upd H (s.heap.objs.size+1) (.lst (ns'.map V.int)),I.laid (t':=s.toks) (λ_ _=>PyProof.Rows.sortedAll_old) (jb _) ⟨hlen2,out.toList,ep,ik h1,he'⟩,rfl,q ns' _ h2 h3 (I.hok.fresh (jb _))⟩
def DI(kvs:List (Key×V))(ns:List Int):Prop:=kvs.map (·.1)=ns.map Sum.inl
theorem DI.at{kvs:List (Key×V)}{ns:List Int}(d:DI kvs ns){i:Nat}{k:Key}{x:V}(h:kvs[i]?=some (k,x)):∃n,ns[i]?=some n/\k=.inl n:=by
 have e:(kvs.map (·.1))[i]?=some k:=by rw[a9,h];rfl
 rw[d,a9]at e;cases q:ns[i]?with
 |none=>rw[q]at e;cases e
 |some n=>rw[q]at e;exact⟨n,rfl,(a0 e).symm⟩
theorem DI.length{kvs:List (Key×V)}{ns:List Int}(d:DI kvs ns):kvs.length=ns.length:=by have:=congrArg jc d;simpa using this
theorem KV.at{kvs:List (Key×V)}{vs:List (Key×Value)}(r:KV kvs vs){i:Nat}{k:Key}{x:Value}(h:vs[i]?=some (k,x)):∃y,kvs[i]?=some (k,y):=by
 induction r generalizing i with
 |nil=>simp at h
 |cons a t ih=>
  cases i with
  |zero=>
   simp at h
   subst h
   obtain⟨e1,_⟩:=a
   rename_i p q _ _
   exact⟨p.2,by simp;exact xi e1 rfl⟩
  |succ i=>
   obtain⟨y,e⟩:=ih (i:=i) (by simpa using h)
   exact⟨y,by simpa using e⟩
theorem KV.len{kvs:List (Key×V)}{vs:List (Key×Value)}(r:KV kvs vs):kvs.length=vs.length:=by
 induction r with
 |nil=>rfl
 |cons _ _ ih=>simp[ih]
theorem vb{P:Nat->Value->Prop}{acc:Array Value}{n:Nat}{ns:List Int}(h:ItemsOf P acc n)(hn:n=ns.length)(hP:∀i v,P i v->∃z t,ns[i]?=some z/\v=Value.int z t):IntsAre acc.toList ns:=by
 obtain⟨h1,h2⟩:=h;have key:∀(us:List Value)(zs:List Int),us.length=zs.length->(∀(i:Nat)(v:Value),us[i]?=some v->∃z t,zs[i]?=some z/\v=Value.int z t)->IntsAre us zs:=by
  intro us;induction us with
  |nil=>
   intro zs hl _
   cases zs with
   |nil=>exact .nil
   |cons _ _=>simp at hl
  |cons u us ih=>
   intro zs hl hv
   cases zs with
   |nil=>simp at hl
   |cons z zs=>
    obtain⟨z',t,e1,e2⟩:=hv 0 u rfl
    simp at e1
    subst e1 e2
    refine .cons _ _ (ih zs (by simpa using hl) λi v hi=>?_)
    obtain⟨z',t',e1,e2⟩:=hv (i+1) v (by simpa using hi)
    exact⟨z',t',by simpa using e1,e2⟩
 refine key _ _ (by rw[dU,h1,hn]) λi v hi=>hP i v (h2 i v ?_);rw[<-cC];exact hi
theorem F_{prog:Program}{w:World}{n:Int}{v:Value}(h:(cM prog w).is (.inl n) v=true):∃t,v=Value.int n t:=by
 rcases dY (k:=.inl n) (v:=v) h with⟨i,t,e1,e2⟩|⟨x,t,e1,e2⟩
 ·cases e1;exact⟨t,e2⟩
 ·cases e1
theorem vc{pins:List (Addr×Obj)}{s:Shared}{σ:L2.St}{H:Hp}{d:Addr}{kvs:List (Key×V)}{ns:List Int}(I:Inv X pins σ H s)(hd:Rd H d (.dK kvs))(di:DI kvs ns):∃(P:Nat->Value->Prop)(OK:Heap->Prop),PySem.W.KdlSrc X.prog X.w "dict" d d ns.length P OK/\OK s.heap/\ns.length<=sizeLine/\∀i v,P i v->∃z t,ns[i]?=some z/\v=Value.int z t:=by
 obtain⟨hz,lo,vs,kv,dof⟩:kvs.length<=sizeLine/\(d==sysModules)=false/\∃vs,KV kvs vs/\s.heap.DictOf (cM X.prog X.w) d vs:=by
  rcases hd with h|⟨o,h⟩
  ·exact I.hok d _ h
  ·exact(I.hok d _ h).2
 obtain⟨o,es,ep,a1⟩:=dof;have da:s.heap.DictAt (cM X.prog X.w) d vs ep:=⟨o,es,a1⟩;have hl:vs.length=ns.length:=by rw[<-KV.len kv,di.length]
 have K:=PySem.W.kdl_dict (prog:=X.prog) (w:=X.w) (knd:=cM X.prog X.w) (d:=d) (kvs:=vs) (ep:=ep) lo;rw[hl]at K;refine⟨_,_,K,da,by rw[<-di.length];exact hz,?_⟩;rintro i v⟨k,x,e,q⟩;obtain⟨y,e2⟩:=KV.at kv e;obtain⟨n,e3,rfl⟩:=di.at e2;obtain⟨t,rfl⟩:=F_ q;exact⟨n,t,e3,rfl⟩
def HF:List V->Hp->VK->Prop:=λvs H Q=>∃(a:Addr)(kvs:List (Key×V))(ns:List Int),vs=[V.ref a]/\Rd H a (.dK kvs)/\DI kvs ns/\∀p,H p=none->Q (.ref p) (upd H p (.lst (ns.map V.int)))
theorem Es(hc:X.calm=true):iJ X (.type "list") HF:=by intro pins s σ H vs us Q I r h;obtain⟨a,kvs,ns,rfl,hd,di,q⟩:=h;obtain⟨P,OK,K,ok,hz,hP⟩:=vc I hd di;rw[cG.ref1 r];refine PySem.W.kdl_call K (I.ok.hd hc) ok hz λh' tk acc c hk hS hacc=>?_;have hi:=vb hacc rfl hP;refine⟨.ref _,upd H s.heap.objs.size (.lst (ns.map V.int)),I.laid (t':=tk) hk (aN _) ⟨by rw[ae];exact hz,acc.toList,c,ik hi,?_⟩,rfl,q _ (I.hok.fresh (aN _))⟩;simpa using hS
def Et:List V->Hp->VK->Prop:=λvs H Q=>∃(a:Addr)(kvs:List (Key×V))(ns:List Int),vs=[V.ref a]/\Rd H a (.dK kvs)/\DI kvs ns/\∀(ns':List Int)(p:Addr),ns'.Perm ns->ns'.Pairwise (·<=·)->H p=none->Q (.ref p) (upd H p (.lst (ns'.map V.int)))
theorem vd(hc:X.calm=true):iJ X (.builtin "sorted") Et:=by
 intro pins s σ H vs us Q I r h;obtain⟨a,kvs,ns,rfl,hd,di,q⟩:=h;obtain⟨P,OK,K,ok,hz,hP⟩:=vc I hd di;rw[cG.ref1 r];refine Calls.call_function_entry kind_sorted plain_sorted entry_sorted (args_sorted1 _) ?_;unfold Builtin.«sorted»;refine wpAny_bind (m:=checkCount "sorted" 1 1 _) (wpAny_pure ?_);refine wpAny_bind (PySem.W.kdu_collect (A:=X.A.in1) K (I.ok.hd hc) ok hz λh' tk acc hk hacc=>?_);have hi:=vb hacc rfl hP;have hl:acc.toList.length=ns.length:=hi.length;refine wpAny_bind (wpAny_newList ?_ (by rw[hl];exact hz));have hoL:(h'.push (seqObj "list" acc.toList.toArray 0)).get? h'.objs.size=some (seqObj "list" acc.toList.toArray 0):=Heap.get?_push_size _ rfl;show wpAny _ _ _ _ _ {s with heap:=h'.push (seqObj "list" acc.toList.toArray 0),toks:=tk};refine wpAny_bind (wpAny_holding (wpAny_call_entry slot_list_sort ⟨_,hoL,rfl⟩ entry_list_sort (list_sort_treeAny hoL hi (by rw[hl];exact hz) λout ns' h1 h2 h3=>⟨_,rfl,?_⟩) (args_list_sort _)));obtain⟨ep,he'⟩:=BO (vs:=acc.toList) (out:=out) hoL;have hlen2:(ns'.map V.int).length<=sizeLine:=by rw[ae,h2.length_eq];exact hz
 have I':=I.kept (t':=tk) hk;refine wpAny_pure ⟨_,rfl,.ref _,upd H h'.objs.size (.lst (ns'.map V.int)),I'.laid (t':=tk) (λb o e1=>?_) (aN _) ⟨hlen2,out.toList,ep,ik h1,he'⟩,rfl,q ns' _ h2 h3 (I'.hok.fresh (aN _))⟩;have e2:(h'.push (seqObj "list" acc.toList.toArray 0)).get? b=some o:=Heap.get?_push_of_some _ e1;rw[AH (bF (Heap.lt_size e1)) (Heap.lt_size e2)];exact e2
def Ja:List V->Hp->VK->Prop:=λvs H Q=>∃(a:Addr)(kvs:List (Key×V))(ns:List Int),vs=[V.ref a]/\Rd H a (.dK kvs)/\DI kvs ns/\0<ns.length/\∀m,m∈ns->(∀y,y∈ns->m<=y)->Q (.int m) H
theorem Ga(hc:X.calm=true):iJ X (.builtin "min") Ja:=by
 intro pins s σ H vs us Q I r h;obtain⟨a,kvs,ns,rfl,hd,di,hne,q⟩:=h;obtain⟨P,OK,K,ok,hz,hP⟩:=vc I hd di;rw[cG.ref1 r];refine call_min_walk ?_;obtain⟨oI,St,hit,W,st⟩:=K.iter X.A.in1 s (I.ok.hd hc) ok;have hP':∀(i:Nat)(v:Value),P i v->∃t,v=Value.int (ns.getD i 0) t:=λi v p=>by obtain⟨z,t,e1,e2⟩:=hP i v p;exact⟨t,by rw[mU,e1];exact e2⟩
 refine hit _ _ ⟨s.heap.objs.size,_,_,ns.length,P,_,_,rfl,W,st,λb hb=>?_,hne,CmpOf.ints_lt (λi=>ns.getD i 0) hP',λv h' tk pv hk=>?_⟩
 ·show b<(s.heap.push oI).objs.size;rw[Heap.size_push];rcases aF.mp hb with e|hb
  ·rw[e];exact dE _
  ·rw[aE.mp hb];exact cV (K.there _ ok).2
 ·have hk':∀b o,s.heap.get? b=some o->h'.get? b=some o:=λb o e=>
   hk b o (λhI=>absurd (Heap.lt_size e) (by rw[aE.mp hI];exact dJ _)) (Heap.get?_push_of_some _ e)
  obtain⟨t,rfl⟩:=hP' _ v pv;obtain⟨h1,h2⟩:=argBest_lt (λi=>ns.getD i 0) (ns.length-1);refine⟨.int _,H,I.kept hk',⟨t,rfl⟩,q _ (PySem.getD_mem (by omega)) λy hy=>?_⟩;obtain⟨j,hj,rfl⟩:=mem_getD hy;exact h2 j (by omega)
end
end WkR
namespace WkR
open PySem PySem.Spec PyProof.Rows L2 WkS
theorem Eu(l:List Int)(a:Int)(h:l.Nodup):(step_dedup l a).Nodup:=by
 unfold step_dedup;split
 ·exact h
 ·rename_i q;refine gz h λm=>q ?_;simp[m]
theorem Df(l:List Int)(a k:Int):k∈step_dedup l a↔k∈l\/k=a:=by
 unfold step_dedup;split
 ·rename_i q;simp at q;constructor
  ·exact .inl
  ·rintro(h|rfl)
   ·exact h
   ·exact q
 ·simp
theorem ve(ns:List Int):∀n,(met ns n).Nodup
 |0=>cA
 |n+1=>by unfold met;rw[firstMet_succ];exact Eu _ _ (ve ns n)
theorem Cd(ns:List Int)(k:Int):∀n,k∈met ns n↔k∈(iZ n).map λi=>ns.getD i 0
 |0=>by simp[met,firstMet_zero]
 |n+1=>by unfold met;rw[firstMet_succ,Df,List.range_succ,aW,aD];have:=Cd ns k n;unfold met at this;rw[this];simp
theorem ur(ns:List Int)(k:Int):k∈met ns ns.length↔k∈ns:=by rw[Cd,WkS.range_getD]
theorem iQ{α:Type}[DecidableEq α]:∀{l m:List α},l.Nodup->(∀x∈l,x∈m)->m.length<=l.length->l.Perm m
 |[],m,_,_,h=>by
  have:m=[]:=bP (by simpa using h);rw[this]
 |a::l,m,hn,hs,h=>by
  obtain⟨h1,h2⟩:=bO.mp hn;have ha:a∈m:=hs a (aY ..);have p:=List.perm_cons_erase ha;refine .trans (.cons a (iQ h2 (λx hx=>?_) ?_)) p.symm
  ·exact(GN (λq:x=a=>h1 (q▸hx))).mpr (hs x (aJ _ hx))
  ·rw[DC ha];simp at h;omega
theorem yu(ns:List Int):(met ns ns.length).length<=ns.length:=firstMet_length_le _ _
theorem Ew(ns:List Int):(met ns ns.length).length=ns.length↔ns.Nodup:=by
 constructor
 ·intro h;exact(iQ (ve ns _) (λx hx=>(ur ns x).mp hx) (by omega)).nodup_iff.mp (ve ns _)
 ·intro h;have:ns.length<=(met ns ns.length).length:=by have:=iQ h (m:=met ns ns.length) (λx hx=>(ur ns x).mpr hx) (yu ns);exact qu this.length_eq
  have:=yu ns;omega
def Be(P:Program)(w:World)(p:Addr)(ns:List Int):HO:=.ext λh=>kE P w h p (λz=>(met ns ns.length).any (·==z)) (met ns ns.length).length
section
variable {X:Cx}
theorem Dg{pins:List (Addr×Obj)}{s:Shared}{σ:L2.St}{H:Hp}(I:Inv X pins σ H s)(d:Drawn):Inv X pins σ H {s with drawn:=d}:=⟨I.ok,I.os,I.bare,I.base,I.loc,I.cell,I.free,I.freeC,I.pin,I.hok,I.len⟩
def rSet(P:Program)(w:World)(K:aj):List V->Hp->VK->Prop:=λvs H Q=>∃(a:Addr)(ns:List Int),vs=[V.ref a]/\bZ K H a (ns.map V.int)/\ns.length+1<scanBound/\∀p,H p=none->Q (.ref p) (upd H p (Be P w p ns))
theorem yw(hc:X.calm=true):iJ X (.type "set") (rSet X.prog X.w X.K):=by
 intro pins s σ H vs us Q I r h;obtain⟨a,ns,rfl,hs,few,q⟩:=h;obtain⟨its,rv,hl,_⟩:=I.list hs;rw[cG.ref1 r];have hlen:its.length=ns.length:=by rw[<-rv.length,ae]
 refine C_ (I.ok.hd hc) hl.isList rv.ints (by rw[bg,hlen];exact few) λh1 tk x k1=>?_;have es:its.toArray.size=ns.length:=by rw[bg];exact hlen
 rw[es]at x;have kp:∀b o,s.heap.get? b=some o->h1.get? b=some o:=λb o e=>k1 b o (Heap.lt_size e) e;refine⟨.ref _,upd H s.heap.objs.size (Be X.prog X.w s.heap.objs.size ns),I.laid (t':=tk) kp (aN _) ⟨x,?_,λh2 h3 y k=>y.mono λo e=>k o e⟩,rfl,q _ (I.hok.fresh (aN _))⟩;obtain⟨o,es,ep,t,ho,_⟩:=x;exact⟨o,ho⟩
def Dh(P:Program)(w:World):List V->Hp->VK->Prop:=λvs H Q=>∃(a:Addr)(ns:List Int),vs=[V.ref a]/\H a=some (Be P w a ns)/\∀(zs:List Int)(p:Addr),zs.Pairwise (·<·)->(∀k,k∈zs↔k∈ns)->H p=none->Q (.ref p) (upd H p (.lst (zs.map V.int)))
theorem qP(hc:X.calm=true):iJ X (.builtin "sorted") (Dh X.prog X.w):=by
 intro pins s σ H vs us Q I r h;obtain⟨a,ns,rfl,hd,q⟩:=h;obtain⟨x,_,_⟩:=I.hok a _ hd;rw[cG.ref1 r];refine Calls.call_function_entry kind_sorted plain_sorted entry_sorted (args_sorted1 _) ?_;unfold Builtin.«sorted»;refine wpAny_bind (m:=checkCount "sorted" 1 1 _) (wpAny_pure ?_);refine wpAny_bind (zO (A:=X.A.in1) (I.ok.hd hc) x λh' tk d vs zs hk hi hm hz=>?_);have hl:vs.length=zs.length:=hi.length;have hzl:zs.length<=sizeLine:=by obtain⟨o,es,ep,t,_,_,_,⟨lt,e⟩,_⟩:=x;rw[hz,<-e];exact ay (cB lt) (by decide)
 refine wpAny_bind (wpAny_newList ?_ (by rw[hl];exact hzl));have hoL:(h'.push (seqObj "list" vs.toArray 0)).get? h'.objs.size=some (seqObj "list" vs.toArray 0):=Heap.get?_push_size _ rfl;show wpAny _ _ _ _ _ {s with heap:=h'.push (seqObj "list" vs.toArray 0),toks:=tk,drawn:=d};refine wpAny_bind (wpAny_holding (wpAny_call_entry slot_list_sort ⟨_,hoL,rfl⟩ entry_list_sort (list_sort_treeAny hoL hi (by rw[hl];exact hzl) λout ns' h1 h2 h3=>⟨_,rfl,?_⟩) (args_list_sort _)));obtain⟨ep,he'⟩:=BO (vs:=vs) (out:=out) hoL;have hlen2:(ns'.map V.int).length<=sizeLine:=by rw[ae,h2.length_eq];exact hzl
 have I':=(Dg I d).kept (t':=tk) hk;have hmem:∀k,k∈zs↔k∈ns:=λk=>by rw[<-hm k,<-ur ns k];simp
 have hnd:zs.Nodup:=by have:=iQ (ve ns ns.length) (m:=zs) (λk hk=>(hmem k).mpr ((ur ns k).mp hk)) (by rw[hz];exact aN _);exact this.nodup_iff.mp (ve ns _)
 have asc:ns'.Pairwise (·<·):=by have nd':ns'.Nodup:=h2.nodup_iff.mpr hnd;have both:=h3.and nd';exact both.imp λ⟨a,b⟩=>by omega
 refine wpAny_pure ⟨_,rfl,.ref _,upd H h'.objs.size (.lst (ns'.map V.int)),I'.laid (t':=tk) (λb o e1=>?_) (aN _) ⟨hlen2,out.toList,ep,ik h1,he'⟩,rfl,q ns' _ asc (λk=>(h2.mem_iff).trans (hmem k)) (I'.hok.fresh (aN _))⟩;have e2:(h'.push (seqObj "list" vs.toArray 0)).get? b=some o:=Heap.get?_push_of_some _ e1;rw[AH (bF (Heap.lt_size e1)) (Heap.lt_size e2)];exact e2
def Gb(P:Program)(w:World):List V->Hp->VK->Prop:=λvs H Q=>∃(a:Addr)(ns:List Int),vs=[V.ref a]/\H a=some (Be P w a ns)/\∀m:Nat,m<=ns.length->(m=ns.length↔ns.Nodup)->Q (.int m) H
theorem xI:iJ X (.builtin "len") (Gb X.prog X.w):=by
 intro pins s σ H vs us Q I r h;obtain⟨a,ns,rfl,hd,q⟩:=h;obtain⟨x,_,_⟩:=I.hok a _ hd;rw[cG.ref1 r];obtain⟨o,es,ep,t,ho,⟨ex,hdt⟩,_,⟨lt,e⟩,hf,_⟩:=x;have hlt:(es.size:Int)<2^63:=by have:es.size<4096:=lt;omega
 refine call_len_set ho ex hdt hf hlt ?_;refine⟨.int _,H,I.kept (λ_ _ z=>z),⟨_,rfl⟩,q _ ?_ ?_⟩
 ·rw[e];exact yu ns
 ·rw[e];exact Ew ns
end
end WkR
namespace Wk
open PySem PySem.Spec PyProof.Rows L2
def top(i:Nat):Stmt:=PySem.Challenge.pw_wholekept_s01_answers.main.body.getD i (.Pass ⟨0,0,0,0⟩)
abbrev k7:Stmt:=top 5
abbrev wB:List Str:=["text","index","byte"]
theorem vf:a_ wB ["text","index","byte"] (aH k7):=⟨rfl,rfl,rfl,by decide+kernel,rfl,by decide+kernel,by decide+kernel⟩
abbrev k8:Stmt:=top 6
abbrev wC:List Str:=["text","start","end"]
theorem og:a_ wC ["text","start"] (aH k8):=⟨rfl,rfl,rfl,by decide+kernel,rfl,by decide+kernel,by decide+kernel⟩
abbrev iR:Stmt:=top 7
abbrev rU:List Str:=["text","start","end","number","digit"]
theorem kS:a_ rU ["text","start","end"] (aH iR):=⟨rfl,rfl,rfl,by decide+kernel,rfl,by decide+kernel,by decide+kernel⟩
abbrev oX:Stmt:=top 8
abbrev xJ:List Str:=["number","digit"]
theorem qb:a_ xJ ["number"] (aH oX):=⟨rfl,rfl,rfl,by decide+kernel,rfl,by decide+kernel,by decide+kernel⟩
abbrev mE:Stmt:=top 12
abbrev yx:List Str:=["text","start","end"]
theorem pH:a_ yx ["text","start"] (aH mE):=⟨rfl,rfl,rfl,by decide+kernel,rfl,by decide+kernel,by decide+kernel⟩
abbrev jn:Stmt:=top 13
abbrev tW:List Str:=["text","spans","index","end"]
theorem lU:a_ tW ["text"] (aH jn):=⟨rfl,rfl,rfl,by decide+kernel,rfl,by decide+kernel,by decide+kernel⟩
abbrev fw:Stmt:=top 14
abbrev jD:List Str:=["text","span"]
theorem jh:a_ jD ["text"] (aH fw):=⟨rfl,rfl,rfl,by decide+kernel,rfl,by decide+kernel,by decide+kernel⟩
abbrev j6:Stmt:=top 15
abbrev vg:List Str:=["text","names","renamed","done","span","number"]
theorem mY:a_ vg ["text","names"] (aH j6):=⟨rfl,rfl,rfl,by decide+kernel,rfl,by decide+kernel,by decide+kernel⟩
abbrev jo:Stmt:=inClass (top 33) 0
abbrev tX:List Str:=["self"]
theorem rV:a_ tX ["self"] (aH jo):=⟨rfl,rfl,rfl,by decide+kernel,rfl,by decide+kernel,by decide+kernel⟩
abbrev oY:Stmt:=top 34
abbrev xK:List Str:=["store","place"]
theorem vh:a_ xK ["store"] (aH oY):=⟨rfl,rfl,rfl,by decide+kernel,rfl,by decide+kernel,by decide+kernel⟩
abbrev qc:Stmt:=top 35
abbrev Bf:List Str:=["number"]
theorem zP:a_ Bf ["number"] (aH qc):=⟨rfl,rfl,rfl,by decide+kernel,rfl,by decide+kernel,by decide+kernel⟩
abbrev jq:Stmt:=top 36
abbrev tY:List Str:=["store","p"]
theorem rW:a_ tY ["store","p"] (aH jq):=⟨rfl,rfl,rfl,by decide+kernel,rfl,by decide+kernel,by decide+kernel⟩
abbrev gh:Stmt:=top 37
abbrev j7:List Str:=["store","places","place"]
theorem mZ:a_ j7 ["store","places"] (aH gh):=⟨rfl,rfl,rfl,by decide+kernel,rfl,by decide+kernel,by decide+kernel⟩
abbrev oZ:Stmt:=top 39
abbrev xM:List Str:=["store","batch","place"]
theorem vi:a_ xM ["store","batch"] (aH oZ):=⟨rfl,rfl,rfl,by decide+kernel,rfl,by decide+kernel,by decide+kernel⟩
abbrev kT:Stmt:=top 40
abbrev tI:List Str:=["store","batch","mentioned","place","number"]
theorem qQ:a_ tI ["store","batch","mentioned"] (aH kT):=⟨rfl,rfl,rfl,by decide+kernel,rfl,by decide+kernel,by decide+kernel⟩
abbrev jO:Stmt:=top 41
abbrev qR:List Str:=["store","batch","place"]
theorem pI:a_ qR ["store","batch"] (aH jO):=⟨rfl,rfl,rfl,by decide+kernel,rfl,by decide+kernel,by decide+kernel⟩
abbrev gY:Stmt:=top 42
abbrev m5:List Str:=["store","batch","mentioned","place"]
theorem lV:a_ m5 ["store","batch","mentioned"] (aH gY):=⟨rfl,rfl,rfl,by decide+kernel,rfl,by decide+kernel,by decide+kernel⟩
abbrev yy:Stmt:=top 43
abbrev Gc:List Str:=["store","batch","mentioned","place","refusal","new"]
theorem zQ:a_ Gc ["store","batch"] (aH yy):=⟨rfl,rfl,rfl,by decide+kernel,rfl,by decide+kernel,by decide+kernel⟩
abbrev k9:Stmt:=top 46
abbrev wD:List Str:=["store","n"]
theorem vj:a_ wD ["store","n"] (aH k9):=⟨rfl,rfl,rfl,by decide+kernel,rfl,by decide+kernel,by decide+kernel⟩
abbrev j8:Stmt:=top 47
abbrev vk:List Str:=["p","text"]
theorem tZ:a_ vk ["p","text"] (aH j8):=⟨rfl,rfl,rfl,by decide+kernel,rfl,by decide+kernel,by decide+kernel⟩
abbrev mF:Stmt:=top 48
abbrev yz:List Str:=["store","p","text","refusal","admitted"]
theorem pJ:a_ yz ["store","p","text"] (aH mF):=⟨rfl,rfl,rfl,by decide+kernel,rfl,by decide+kernel,by decide+kernel⟩
abbrev j9:Stmt:=top 49
abbrev vm:List Str:=["store","p","text","refusal"]
theorem m6:a_ vm ["store","p","text"] (aH j9):=⟨rfl,rfl,rfl,by decide+kernel,rfl,by decide+kernel,by decide+kernel⟩
abbrev jr:Stmt:=top 50
abbrev t6:List Str:=["store","admitted"]
theorem lW:a_ t6 ["store"] (aH jr):=⟨rfl,rfl,rfl,by decide+kernel,rfl,by decide+kernel,by decide+kernel⟩
abbrev k_:Stmt:=top 51
abbrev wF:List Str:=["store","dropped"]
theorem oh:a_ wF ["store"] (aH k_):=⟨rfl,rfl,rfl,by decide+kernel,rfl,by decide+kernel,by decide+kernel⟩
abbrev mG:Stmt:=top 52
abbrev yA:List Str:=["store","p","refusal"]
theorem pK:a_ yA ["store","p"] (aH mG):=⟨rfl,rfl,rfl,by decide+kernel,rfl,by decide+kernel,by decide+kernel⟩
abbrev js:Stmt:=top 53
abbrev t7:List Str:=["store","p"]
theorem rX:a_ t7 ["store","p"] (aH js):=⟨rfl,rfl,rfl,by decide+kernel,rfl,by decide+kernel,by decide+kernel⟩
abbrev jt:Stmt:=top 54
abbrev t8:List Str:=["store"]
theorem rY:a_ t8 ["store"] (aH jt):=⟨rfl,rfl,rfl,by decide+kernel,rfl,by decide+kernel,by decide+kernel⟩
abbrev vn:Stmt:=top 56
abbrev Ex:List Str:=["links","starts","met","found","waiting","place"]
theorem xN:a_ Ex ["links","starts","met"] (aH vn):=⟨rfl,rfl,rfl,by decide+kernel,rfl,by decide+kernel,by decide+kernel⟩
abbrev iw:Stmt:=top 57
abbrev qS:List Str:=["store","places","referrers","place","reference"]
theorem j_:a_ qS ["store","places"] (aH iw):=⟨rfl,rfl,rfl,by decide+kernel,rfl,by decide+kernel,by decide+kernel⟩
abbrev mH:Stmt:=top 58
abbrev yB:List Str:=["store","goals"]
theorem wG:a_ yB ["store","goals"] (aH mH):=⟨rfl,rfl,rfl,by decide+kernel,rfl,by decide+kernel,by decide+kernel⟩
abbrev qd:Stmt:=top 59
abbrev Bg:List Str:=["store","goals"]
theorem zR:a_ Bg ["store","goals"] (aH qd):=⟨rfl,rfl,rfl,by decide+kernel,rfl,by decide+kernel,by decide+kernel⟩
abbrev rZ:Stmt:=top 60
abbrev Di:List Str:=["places","keys","place"]
theorem vo:a_ Di ["places"] (aH rZ):=⟨rfl,rfl,rfl,by decide+kernel,rfl,by decide+kernel,by decide+kernel⟩
abbrev lX:Stmt:=top 61
abbrev r9:List Str:=["places","others","left_out","place"]
theorem vq:a_ r9 ["places","others"] (aH lX):=⟨rfl,rfl,rfl,by decide+kernel,rfl,by decide+kernel,by decide+kernel⟩
abbrev vr:Stmt:=top 63
abbrev Ey:List Str:=["store","places","place"]
theorem xO:a_ Ey ["store","places"] (aH vr):=⟨rfl,rfl,rfl,by decide+kernel,rfl,by decide+kernel,by decide+kernel⟩
abbrev jP:Stmt:=top 64
abbrev qT:List Str:=["store","places","leaving","place","reference"]
theorem pL:a_ qT ["store","places"] (aH jP):=⟨rfl,rfl,rfl,by decide+kernel,rfl,by decide+kernel,by decide+kernel⟩
abbrev lj:Stmt:=top 65
abbrev wH:List Str:=["store","places","refusal"]
theorem oj:a_ wH ["store","places"] (aH lj):=⟨rfl,rfl,rfl,by decide+kernel,rfl,by decide+kernel,by decide+kernel⟩
abbrev ka:Stmt:=top 66
abbrev vt:List Str:=["store","roots","refusal"]
theorem m7:a_ vt ["store","roots"] (aH ka):=⟨rfl,rfl,rfl,by decide+kernel,rfl,by decide+kernel,by decide+kernel⟩
abbrev lq:Stmt:=top 67
abbrev wI:List Str:=["store","places","refusal"]
theorem om:a_ wI ["store","places"] (aH lq):=⟨rfl,rfl,rfl,by decide+kernel,rfl,by decide+kernel,by decide+kernel⟩
abbrev o4:Stmt:=top 69
abbrev xP:List Str:=["store","p","above","place"]
theorem vv:a_ xP ["store","p"] (aH o4):=⟨rfl,rfl,rfl,by decide+kernel,rfl,by decide+kernel,by decide+kernel⟩
abbrev eO:Stmt:=top 70
abbrev gi:List Str:=["store","places","finished","met","waiting","step","place","reference"]
theorem m8:a_ gi ["store","places"] (aH eO):=⟨rfl,rfl,rfl,by decide+kernel,rfl,by decide+kernel,by decide+kernel⟩
abbrev lu:Stmt:=top 71
abbrev wJ:List Str:=["store","places","referrers","met","knots","place","knot"]
theorem oo:a_ wJ ["store","places"] (aH lu):=⟨rfl,rfl,rfl,by decide+kernel,rfl,by decide+kernel,by decide+kernel⟩
abbrev qe:Stmt:=top 72
abbrev Bh:List Str:=["knots","heads","head","place"]
theorem tJ:a_ Bh ["knots"] (aH qe):=⟨rfl,rfl,rfl,by decide+kernel,rfl,by decide+kernel,by decide+kernel⟩
abbrev qf:Stmt:=top 73
abbrev Bi:List Str:=["store","knots","heads","needs","head","needed","place","reference"]
theorem tK:a_ Bi ["store","knots"] (aH qf):=⟨rfl,rfl,rfl,by decide+kernel,rfl,by decide+kernel,by decide+kernel⟩
abbrev mI:Stmt:=top 74
abbrev yC:List Str:=["needs","needers","head","needed"]
theorem pM:a_ yC ["needs"] (aH mI):=⟨rfl,rfl,rfl,by decide+kernel,rfl,by decide+kernel,by decide+kernel⟩
abbrev gZ:Stmt:=top 75
abbrev m9:List Str:=["store","goals","knots","needs","needers","lacking","head","free","listed","needer"]
theorem lY:a_ m9 ["store","goals"] (aH gZ):=⟨rfl,rfl,rfl,by decide+kernel,rfl,by decide+kernel,by decide+kernel⟩
abbrev mJ:Stmt:=top 76
abbrev yD:List Str:=["store","knots","needers","places","head"]
theorem pN:a_ yD ["store"] (aH mJ):=⟨rfl,rfl,rfl,by decide+kernel,rfl,by decide+kernel,by decide+kernel⟩
abbrev kb:Stmt:=top 78
abbrev vw:List Str:=["store"]
theorem t9:a_ vw ["store"] (aH kb):=⟨rfl,rfl,rfl,by decide+kernel,rfl,by decide+kernel,by decide+kernel⟩
abbrev lx:Stmt:=top 79
abbrev wK:List Str:=["store","p","refusal"]
theorem oq:a_ wK ["store","p"] (aH lx):=⟨rfl,rfl,rfl,by decide+kernel,rfl,by decide+kernel,by decide+kernel⟩
abbrev fN:Stmt:=top 80
abbrev kf:List Str:=["store","p","refusal","place"]
theorem jE:a_ kf ["store","p"] (aH fN):=⟨rfl,rfl,rfl,by decide+kernel,rfl,by decide+kernel,by decide+kernel⟩
abbrev iS:Stmt:=top 81
abbrev r_:List Str:=["store","goals","refusal"]
theorem kU:a_ r_ ["store","goals"] (aH iS):=⟨rfl,rfl,rfl,by decide+kernel,rfl,by decide+kernel,by decide+kernel⟩
abbrev kg:Stmt:=top 82
abbrev vx:List Str:=["store","goals","refusal"]
theorem m_:a_ vx ["store","goals"] (aH kg):=⟨rfl,rfl,rfl,by decide+kernel,rfl,by decide+kernel,by decide+kernel⟩
abbrev ly:Stmt:=top 83
abbrev wL:List Str:=["store","p","refusal"]
theorem ot:a_ wL ["store","p"] (aH ly):=⟨rfl,rfl,rfl,by decide+kernel,rfl,by decide+kernel,by decide+kernel⟩
abbrev kh:Stmt:=top 84
abbrev vy:List Str:=["store","goals","refusal"]
theorem nc:a_ vy ["store","goals"] (aH kh):=⟨rfl,rfl,rfl,by decide+kernel,rfl,by decide+kernel,by decide+kernel⟩
abbrev lz:Stmt:=top 85
abbrev wM:List Str:=["store"]
theorem vz:a_ wM ["store"] (aH lz):=⟨rfl,rfl,rfl,by decide+kernel,rfl,by decide+kernel,by decide+kernel⟩
abbrev kj:Stmt:=top 86
abbrev vA:List Str:=["store","p","roots","refusal"]
theorem ng:a_ vA ["store","p","roots"] (aH kj):=⟨rfl,rfl,rfl,by decide+kernel,rfl,by decide+kernel,by decide+kernel⟩
abbrev iT:Stmt:=top 87
abbrev sg:List Str:=["store","goals","there","refusal"]
theorem kW:a_ sg ["store","goals","there"] (aH iT):=⟨rfl,rfl,rfl,by decide+kernel,rfl,by decide+kernel,by decide+kernel⟩
abbrev iU:Stmt:=inClass (top 94) 0
abbrev sh:List Str:=["self","place","text","end"]
theorem qU:a_ sh ["self","place","text","end"] (aH iU):=⟨rfl,rfl,rfl,by decide+kernel,rfl,by decide+kernel,by decide+kernel⟩
abbrev ou:Stmt:=top 95
abbrev zS:List Str:=["parcel","start","end"]
theorem qV:a_ zS ["parcel","start"] (aH ou):=⟨rfl,rfl,rfl,by decide+kernel,rfl,by decide+kernel,by decide+kernel⟩
abbrev ox:Stmt:=top 96
abbrev zT:List Str:=["parcel","start","place_end","length_end","text_start","text_end","place"]
theorem qW:a_ zT ["parcel","start"] (aH ox):=⟨rfl,rfl,rfl,by decide+kernel,rfl,by decide+kernel,by decide+kernel⟩
abbrev iV:Stmt:=top 97
abbrev sj:List Str:=["parcel","records","index","record"]
theorem kX:a_ sj ["parcel"] (aH iV):=⟨rfl,rfl,rfl,by decide+kernel,rfl,by decide+kernel,by decide+kernel⟩
abbrev oy:Stmt:=top 98
abbrev zU:List Str:=["places","texts","parcel","place","text"]
theorem qX:a_ zU ["places","texts"] (aH oy):=⟨rfl,rfl,rfl,by decide+kernel,rfl,by decide+kernel,by decide+kernel⟩
abbrev iy:Stmt:=top 100
abbrev oz:List Str:=["rule","index"]
theorem ni:a_ oz ["rule"] (aH iy):=⟨rfl,rfl,rfl,by decide+kernel,rfl,by decide+kernel,by decide+kernel⟩
abbrev o5:Stmt:=top 101
abbrev xQ:List Str:=["rule","told","number"]
theorem vB:a_ xQ ["rule"] (aH o5):=⟨rfl,rfl,rfl,by decide+kernel,rfl,by decide+kernel,by decide+kernel⟩
abbrev mK:Stmt:=top 102
abbrev yE:List Str:=["rule","names","index"]
theorem pO:a_ yE ["rule"] (aH mK):=⟨rfl,rfl,rfl,by decide+kernel,rfl,by decide+kernel,by decide+kernel⟩
abbrev gR:Stmt:=top 104
abbrev lA:List Str:=["store","places","texts","text","place"]
theorem oA:a_ lA ["store","places","texts"] (aH gR):=⟨rfl,rfl,rfl,by decide+kernel,rfl,by decide+kernel,by decide+kernel⟩
abbrev gS:Stmt:=top 105
abbrev lB:List Str:=["store","parcel","rule","records","names","places","texts","record"]
theorem oB:a_ lB ["store","parcel","rule"] (aH gS):=⟨rfl,rfl,rfl,by decide+kernel,rfl,by decide+kernel,by decide+kernel⟩
abbrev km:Stmt:=top 107
abbrev vC:List Str:=["store","goals","refusal","parcel"]
theorem nj:a_ vC ["store","goals"] (aH km):=⟨rfl,rfl,rfl,by decide+kernel,rfl,by decide+kernel,by decide+kernel⟩
abbrev kq:Stmt:=inClass (top 133) 0
abbrev vD:List Str:=["self","calls"]
theorem t_:a_ vD ["self","calls"] (aH kq):=⟨rfl,rfl,rfl,by decide+kernel,rfl,by decide+kernel,by decide+kernel⟩
abbrev ju:Stmt:=inClass (top 133) 1
abbrev ub:List Str:=["self"]
theorem sr:a_ ub ["self"] (aH ju):=⟨rfl,rfl,rfl,by decide+kernel,rfl,by decide+kernel,by decide+kernel⟩
abbrev g_:Stmt:=inClass (top 133) 2
abbrev qg:List Str:=["self","number"]
theorem jF:a_ qg ["self"] (aH g_):=⟨rfl,rfl,rfl,by decide+kernel,rfl,by decide+kernel,by decide+kernel⟩
abbrev jv:Stmt:=inClass (top 133) 3
abbrev uc:List Str:=["self","length","start"]
theorem lZ:a_ uc ["self"] (aH jv):=⟨rfl,rfl,rfl,by decide+kernel,rfl,by decide+kernel,by decide+kernel⟩
abbrev lC:Stmt:=top 134
abbrev wN:List Str:=["store","call"]
theorem vE:a_ wN ["store","call"] (aH lC):=⟨rfl,rfl,rfl,by decide+kernel,rfl,by decide+kernel,by decide+kernel⟩
abbrev gj:Stmt:=top 135
abbrev oC:List Str:=["store","call","number"]
theorem nA:a_ oC ["store","call","number"] (aH gj):=⟨rfl,rfl,rfl,by decide+kernel,rfl,by decide+kernel,by decide+kernel⟩
abbrev hC:Stmt:=top 136
abbrev qh:List Str:=["store","call","places"]
theorem pz:a_ qh ["store","call","places"] (aH hC):=⟨rfl,rfl,rfl,by decide+kernel,rfl,by decide+kernel,by decide+kernel⟩
abbrev eh:Stmt:=top 137
abbrev jw:List Str:=["store","call","p","row"]
theorem ji:a_ jw ["store","call","p","row"] (aH eh):=⟨rfl,rfl,rfl,by decide+kernel,rfl,by decide+kernel,by decide+kernel⟩
abbrev fO:Stmt:=top 138
abbrev mL:List Str:=["store","call","first","second"]
theorem l3:a_ mL ["store","call","first","second"] (aH fO):=⟨rfl,rfl,rfl,by decide+kernel,rfl,by decide+kernel,by decide+kernel⟩
abbrev lD:Stmt:=top 139
abbrev wO:List Str:=["store","tape","call","p","first"]
theorem oE:a_ wO ["store","tape"] (aH lD):=⟨rfl,rfl,rfl,by decide+kernel,rfl,by decide+kernel,by decide+kernel⟩
abbrev su:Stmt:=top 140
abbrev Dj:List Str:=["calls","store","tape","told","answer"]
theorem vF:a_ Dj ["calls"] (aH su):=⟨rfl,rfl,rfl,by decide+kernel,rfl,by decide+kernel,by decide+kernel⟩
end Wk
namespace Wk
open PySem PySem.Spec PyProof.Rows L2 WkR
theorem HG:bootBuiltins "ord"=some (.builtin "ord"):=by decide+kernel
theorem HH:bootBuiltins "str"=some (.type "str"):=by decide+kernel
theorem Ce:bootBuiltins "list"=some (.type "list"):=by decide+kernel
theorem yF:bootBuiltins "set"=some (.type "set"):=by decide+kernel
theorem Gd:bootBuiltins "dict"=some (.type "dict"):=by decide+kernel
theorem ib:bootBuiltins "sorted"=some (.builtin "sorted"):=by decide+kernel
theorem Ez:bootBuiltins "sum"=some (.builtin "sum"):=by decide+kernel
theorem yG:bootBuiltins "all"=some (.builtin "all"):=by decide+kernel
theorem yH:bootBuiltins "any"=some (.builtin "any"):=by decide+kernel
theorem HI:bootBuiltins "min"=some (.builtin "min"):=by decide+kernel
theorem ei{X:Cx}{scope:Scope}{own:List (Str×Nat)}(N:List Str)(sc:Scope)(hN:X.N=N)(hs:X.env.scope=sc)(h:Hy N sc scope own=true):xA X.N X.env.scope scope own:=by rw[hN,hs];exact Ef h
def GI(mg:Str->Option Value)(x:Str)(v:Int):Prop:=∃t,mg x=some (.int v t)
section
variable {X:Cx}
theorem bw{x:Str}{v:Int}{pos:Pos}(h:GI X.mg x v)(hg:Gl X x:=by rfl)(hd:(x==("__debug__":Str))=false:=by decide):PE X (.Name x pos) (tC (.int v)):=by obtain⟨t,e⟩:=h;exact FL hg e ⟨t,rfl⟩ hd
end
structure dc(P:Program)(w:World)(K:aj)(mg:Str->Option Value)(base:Heap)(k:Nat)(x:Str)(ps:List Str)(sp:Sp):Prop where
 ex:∃f fd,ck P w K mg base eY k f fd ps sp/\mg x=some (.ref f)/\eG K (.ref f)=true/\Binds K fd ps []
theorem aS{X:Cx}{k:Nat}{x:Str}{ps:List Str}{sp:Sp}{p pos:Pos}{e:Expr}{es:List Expr}{t:TA}(C:dc X.prog X.w X.K X.mg X.base k x ps sp)(hr:cT k X.A)(ha:PA X (e::es) t)(hg:Gl X x:=by rfl)(hdb:(x==("__debug__":Str))=false:=by decide)(he:starEach (e::es) X.env=(false,eval e X.env)::starEach es X.env:=by rfl)(hpl:(backTo pos (starEach es X.env)).any (·.1)=false:=by rfl):PE X (.Call (.Name x p) (e::es) [] pos) (GU sp [] E0 t):=by obtain⟨f,fd,F,m,kp,b⟩:=C.ex;exact FW F hr hg m kp b .nil B_ ha hdb he hpl
abbrev tx(t:List Nat):List V:=t.map λ(n:Nat)=>V.int n
theorem wQ{p:Prop}[Decidable p]{A B:Prop}(h:p)(a:A):if decide p=true then A else B:=by rw[if_pos (decide_eq_true h)];exact a
theorem i8{p:Prop}[Decidable p]{A B:Prop}(h:¬p)(b:B):if decide p=true then A else B:=by rw[if_neg (by rw[decide_eq_false h];exact aI)];exact b
theorem qY{p:Prop}[Decidable p]{A B:Prop}(h1:p->A)(h2:¬p->B):if decide p=true then A else B:=by
 by_cases h:p
 ·exact wQ h (h1 h)
 ·exact i8 h (h2 h)
theorem Cf{t:List Nat}{i c:Nat}(h:t[i]?=some c):(tx t)[i]?=some (V.int c):=by rw[a9,h];rfl
theorem Cg(p:Nat->Bool):∀(l:List Nat)(n:Nat),(∀j,j<n->∃c,l[j]?=some c/\p c=true)->(∀c,l[n]?=some c->p c=false)->(l.takeWhile p).length=n
 |[],0,_,_=>rfl
 |[],n+1,h,_=>by obtain⟨c,e,_⟩:=h 0 (by omega);simp at e
 |a::l,0,_,h=>by
  have:=h a rfl;simp[fX,this]
 |a::l,n+1,h,h2=>by obtain⟨c,e,hc⟩:=h 0 (by omega);simp at e;subst e;have ih:=Cg p l n (λj hj=>by obtain⟨c,e,hc⟩:=h (j+1) (by omega);exact⟨c,by simpa using e,hc⟩) (λc e=>h2 c (by simpa using e));simp[fX,hc,ih]
theorem EA(t:List Nat)(i e:Nat)(hie:i<=e)(h1:∀j,i<=j->j<e->∃c,t[j]?=some c/\dP c=true)(h2:∀c,t[e]?=some c->dP c=false):((t.drop i).takeWhile dP).length=e-i:=by
 apply Cg
 ·intro j hj;obtain⟨c,e1,e2⟩:=h1 (i+j) (by omega) (by omega);exact⟨c,by rw[cz];exact e1,e2⟩
 ·intro c hc;rw[cz,show i+(e-i)=e by omega]at hc;exact h2 c hc
theorem EB(t:List Nat)(i e:Nat)(hie:i<=e)(h1:∀j,i<=j->j<e->∃c,t[j]?=some c/\dP c=true)(h2:∀c,t[e]?=some c->dP c=false):jZ t i=if e>i+1/\t[i]?=some 48 then i else e:=by
 have hl:=EA t i e hie h1 h2;unfold jZ Vastof.oneWay;have hh:((t.drop i).takeWhile dP).head?=if e>i then t[i]?else none:=by
  by_cases he:e>i
  ·rw[if_pos he];obtain⟨c,e1,e2⟩:=h1 i (aN _) he;have e3:t.drop i=c::t.drop (i+1):=by obtain⟨lt,e4⟩:=aM.mp e1;rw[df lt,e4]
   rw[e3,e1];simp[fX,e2]
  ·rw[if_neg he];have:(t.drop i).takeWhile dP=[]:=bP (by omega);rw[this];rfl
 by_cases he:e>i
 ·rw[if_pos he]at hh;have hne:((t.drop i).takeWhile dP).isEmpty=false:=by
   cases q:(t.drop i).takeWhile dP with
   |nil=>rw[q]at hl;simp at hl;omega
   |cons _ _=>rfl
  rw[hne,hh,hl];by_cases h4:t[i]?=some 48
  ·by_cases h5:e>i+1
   ·have:¬(e-i=1):=by omega
    simp[h4,h5,this]
   ·have:e-i=1:=by omega
    have:e=i+1:=by omega
    subst this;simp[h4]
  ·have:¬(e>i+1/\t[i]?=some 48):=λq=>h4 q.2;rw[if_neg this];simp[h4];omega
 ·have:e=i:=by omega
  subst this;have:((t.drop e).takeWhile dP).isEmpty=true:=by have:(t.drop e).takeWhile dP=[]:=bP (by omega);rw[this];rfl
  rw[this];simp
section
variable {P:Program}{w:World}{K:aj}{mg:Str->Option Value}{base:Heap}
def mM(K:aj):Sp:=λvs H Q _=>∃(a:Addr)(t:List Nat)(i:Nat),vs=[.ref a,.int i]/\bZ K H a (tx t)/\Q (.int (jZ t i)) H
theorem vG{f:Addr}{fd:FuncData}(F:eJ K "numeral_end" "numeral_end" k8 f fd)(hl:mg "len"=none)(g1:GI mg "ZERO" 48)(g2:GI mg "NINE" 57):ck P w K mg base eY 1 f fd ["text","start"] (mM K):=by
 refine F.ok og ?_ ?_
 ·rintro vs H Q E⟨a,t,i,rfl,_⟩;rfl
 ·rintro cdv A outer s H vs Q E hr⟨a,t,i,rfl,hS,k⟩;have nd:=og.nd;refine⟨_,aq (ba (i:=2) nd rfl (Or.inl rfl) (pv 1)) (aq (jd PassesOwn.never (x_ (bh uE (pv 2) (bz ij (by rfl) hl bf (ai (pv 0) au)) (bC _)) (uk (DZ BY BY (bw g1) (gM ig (pv 0) (pv 2) (λ_ _=>rfl)) (bw g2)))).pt (aw (ba (i:=2) nd rfl (Or.inl rfl) (cZ gc (pv 2) bI)))) (aq (bH (x_ (bh je (pv 2) (cZ gc (pv 1) bI) (bC _)) (uk (bh fA (gM ig (pv 0) (pv 1) (λ_ _=>rfl)) (bw g1) (bC _)))).pt (aw (aL (pv 1))) aX) (aw (aL (pv 2))))),?_⟩;refine⟨_,rfl,?_⟩;refine⟨λm σ' H'=>∃e:Nat,σ'=[some (.ref a),some (.int i),some (.int e)]/\H'=H/\m=t.length-e/\i<=e/\∀j,i<=j->j<e->∃c,t[j]?=some c/\dP c=true,⟨_,i,rfl,rfl,rfl,aN _,λj h1 h2=>by omega⟩,?_⟩;rintro m σ' H'⟨e,rfl,rfl,rfl,hie,hd⟩;refine⟨_,rfl,_,rfl,a,_,rfl,.inl hS,_,_,rfl,rfl,_,rfl,?_⟩;have hlen:(tx t).length=t.length:=ae ..;have fin:(∀c,t[e]?=some c->dP c=false)->(AJ (FO (IC (xr (BU (DV λi j=>V.bl (decide (j<i))) (fg 2) (BU (DV λi j=>V.int (i+j)) (fg 1) (tC (V.int 1))))) (xr (BU rEq (BU (Hu K) (fg 0) (fg 1)) (tC (V.int 48))))) (FN (fg 1)) DT) (FN (fg 2))) {nx:=λx H'=>Q V.non H',rt:=Q} [some (.ref a),some (.int i),some (.int e)] H':=by
   intro hno;have ne:=EB t i e hie hd hno;refine⟨_,rfl,_,rfl,_,_,rfl,rfl,_,_,rfl,rfl,_,rfl,?_⟩;refine qY (λhgt=>?_) λhgt=>?_
   ·have hgt:e>i+1:=by omega
    obtain⟨c,hc,_⟩:=hd i (aN _) (by omega);refine⟨_,rfl,_,rfl,a,_,_,_,rfl,rfl,hS,at_of (j:=i) rfl (Cf hc),rfl,_,rfl,?_⟩;rw[hc]at ne;refine qY (λh48=>?_) λh48=>?_
    ·have h48:c=48:=by injection h48 with z;omega
     subst h48;rw[if_pos ⟨hgt,rfl⟩]at ne;refine⟨_,rfl,?_⟩;rw[ne]at k;exact k
    ·rw[if_neg (λq=>h48 (by rw[a0 q.2];rfl))]at ne;refine⟨_,rfl,?_⟩;rw[ne]at k;exact k
   ·rw[if_neg (λq=>hgt (by omega))]at ne;refine gx ⟨_,rfl,?_⟩;rw[ne]at k;exact k
  refine qY (λhlt=>?_) λhlt=>?_
  ·have hlt:e<t.length:=by rw[hlen]at hlt;omega
   obtain⟨c,hc⟩:∃c,t[e]?=some c:=⟨_,bu hlt⟩;refine⟨_,rfl,_,rfl,a,_,_,_,rfl,rfl,hS,at_of (j:=e) rfl (Cf hc),_,_,rfl,rfl,_,rfl,?_⟩;refine qY (λh1=>?_) λh1=>?_
   ·refine⟨_,_,rfl,rfl,_,rfl,?_⟩;refine qY (λh2=>?_) λh2=>?_
    ·refine⟨_,λ_ _ h=>h,_,rfl,_,_,rfl,rfl,_,by omega,e+1,rfl,rfl,rfl,by omega,λj h3 h4=>?_⟩;by_cases hj:j<e
     ·exact hd j h3 hj
     ·have:j=e:=by omega
      subst this;exact⟨c,hc,by rw[fV];omega⟩
    ·exact fin λc' hc'=>by rw[hc]at hc';cases hc';rw[dQ];intro q;rw[fV]at q;omega
   ·refine⟨_,rfl,gx (fin λc' hc'=>?_)⟩;rw[hc]at hc';cases hc';rw[dQ];intro q;rw[fV]at q;omega
  ·refine gx (fin λc hc=>?_);rw[du (by rw[hlen]at hlt;omega)]at hc;cases hc
end
end Wk
namespace Wk
open PySem PySem.Spec PyProof.Rows L2 WkR
open Vastof (digit valueOf decimal)
theorem Ci{xs:List V}{i j:Nat}(hj:j<=xs.length)(hij:i<=j):uH xs (some (i:Int)) (some (j:Int))=(xs.drop i).take (j-i):=by unfold uH;rw[HT.yc,HT.yc,AF hj,AF (ay hij hj)]
theorem EC{xs:List V}{i:Nat}(hi:i<=xs.length):uH xs (some (i:Int)) none=xs.drop i:=by unfold uH;rw[HT.yc,HT.D_,AF hi];exact jB (by rw[dF];exact aN _)
theorem Bj{t:List Nat}{i j:Nat}(hj:j<=t.length)(hij:i<=j):uH (tx t) (some (i:Int)) (some (j:Int))=tx ((t.drop i).take (j-i)):=by rw[Ci (by rw[ae];exact hj) hij];simp[tx,iH,DE]
theorem Ge{t:List Nat}{i:Nat}(hi:i<=t.length):uH (tx t) (some (i:Int)) none=tx (t.drop i):=by rw[EC (by rw[ae];exact hi)];simp[tx,DE]
theorem zV{σ:L2.St}{H:Hp}{A B:Hp->Prop}(h:A H):CN σ H λb H3=>if b=true then A H3 else B H3:=by show if true=true then A H else B H;exact h
theorem aC{H:Hp}{p:Addr}{o:HO}(h:H p=none):Same H (upd H p o):=λb u e=>by rw[aA (aB e h)];exact e
theorem vH:∀(k n:Nat),n<=k->(Nat.toDigits 10 n).map Char.toNat=decimal n:=by
 intro k;induction k with
 |zero=>
  intro n h
  have:n=0:=by omega
  subst this
  decide
 |succ k ih=>
  intro n h
  have small:∀d,d<10->(Nat.toDigits 10 d).map Char.toNat=[48+d]:=by decide
  by_cases h10:n<10
  ·rw[gO h10,small n h10]
  ·rw[kN h10];have e:10*(n/10)+n%10=n:=Nat.div_add_mod n 10;have:=Nat.toDigits_append_toDigits (b:=10) (n:=n/10) (d:=n%10) (by decide) (by omega) (BM _ (by decide));rw[e]at this;rw[<-this,aW,ih (n/10) (by omega),small _ (BM _ (by decide))]
theorem yI(n:Nat):(Str.ofString (toString (n:Int))).cps.toList=decimal n:=by rw[<-vH n n (aN _)];show(Str.ofString (Nat.repr n)).cps.toList=_;rw[Str.ofString_eq_toList];unfold Nat.repr;simp
theorem zW:∀(k n:Nat),n<10^k->(decimal n).length<=k+1:=by
 intro k;induction k with
 |zero=>
  intro n h
  have:n=0:=by simpa using h
  subst this
  decide
 |succ k ih=>
  intro n h
  by_cases h10:n<10
  ·rw[gO h10];simp
  ·rw[kN h10,bD];have:=ih (n/10) (by rw[xj]at h;omega);simp;omega
theorem pP{n:Nat}(h:n<=1000000000000000000):(decimal n).length<=20:=zW 19 n (bX h (by decide))
section
variable {P:Program}{w:World}{K:aj}{mg:Str->Option Value}{base:Heap}
def iz(K:aj):Sp:=λvs H Q _=>∃(a:Addr)(t:List Nat)(i c:Nat),vs=[.ref a,.int i,.int c]/\bZ K H a (tx t)/\Q (.bl (fC t i c)) H
theorem vI{f:Addr}{fd:FuncData}(F:eJ K "byte_stands" "byte_stands" k7 f fd)(hl:mg "len"=none):ck P w K mg base eY 1 f fd ["text","index","byte"] (iz K):=by
 refine F.ok vf ?_ ?_
 ·rintro vs H Q E⟨a,t,i,c,rfl,_⟩;rfl
 ·rintro cdv A outer s H vs Q E hr⟨a,t,i,c,rfl,hS,k⟩;refine⟨_,aw (aL (DS (mi uE (pv 1) (bz ij (by rfl) hl bf (ai (pv 0) au)) (bC _)) (AI (mi fA (gM ig (pv 0) (pv 1) (λ_ _=>rfl)) (pv 2) (bC _))))),?_⟩;have hlen:(tx t).length=t.length:=ae ..;refine⟨_,rfl,_,rfl,a,_,rfl,.inl hS,_,_,rfl,rfl,_,rfl,?_⟩;unfold fC at k;refine qY (λhlt=>?_) λhlt=>?_
  ·have hlt:i<t.length:=by rw[hlen]at hlt;omega
   obtain⟨d,hd⟩:∃d,t[i]?=some d:=⟨_,bu hlt⟩;refine⟨_,rfl,_,rfl,a,_,_,_,rfl,rfl,hS,at_of (j:=i) rfl (Cf hd),_,rfl,rfl,?_⟩;rw[hd]at k;have e:decide (V.int (d:Int)=V.int (c:Int))=(some d==some c):=by
    by_cases q:d=c
    ·subst q;simp
    ·have q2:¬((d:Int)=(c:Int)):=by omega
     simp[q,q2]
   rw[e];exact k
  ·have hn:t[i]?=none:=du (by rw[hlen]at hlt;omega);rw[hn]at k;exact k
def g7(K:aj):Sp:=λvs H Q _=>∃(a:Addr)(t:List Nat)(i j:Nat),vs=[.ref a,.int i,.int j]/\bZ K H a (tx t)/\i<=j/\j<=t.length/\(∀c∈(t.drop i).take (j-i),48<=c)/\∀H',Same H H'->Q (.int (jl t i j)) H'
theorem qZ{f:Addr}{fd:FuncData}(F:eJ K "number_between" "number_between" iR f fd)(g1:GI mg "ZERO" 48)(g2:GI mg "MOST_DIGITS" 19)(g3:GI mg "BEYOND_ALL" 10000000000000000000):ck P w K mg base eY 1 f fd ["text","start","end"] (g7 K):=by
 refine F.ok kS ?_ ?_
 ·rintro vs H Q E⟨a,t,i,j,rfl,_⟩;rfl
 ·rintro cdv A outer s H vs Q E hr⟨a,t,i,j,rfl,hS,hij,hj,hc,k⟩;have nd:=kS.nd;refine⟨_,aq (bH (bh je (cZ uD (pv 2) (pv 1)) (bw g2) (bC _)) (aw (aL (bw g3))) aX) (aq (ba (i:=3) nd rfl (Or.inl rfl) bI) (aq (dI PassesOwn.never rfl (cK (nU qD (pv 0) (jI (pv 1)) (jI (pv 2)))) (bJ (i:=4) nd rfl (Or.inl rfl)) (aw (ba (i:=3) nd rfl (Or.inl rfl) (cZ uD (cZ gc (cZ Hr (pv 3) bI) (pv 4)) (bw g1))))) (aw (aL (pv 3))))),?_⟩;refine⟨_,rfl,_,rfl,_,_,rfl,rfl,_,_,rfl,rfl,_,rfl,?_⟩;unfold jl at k;refine qY (λh19=>?_) λh19=>?_
  ·have h19:j-i>19:=by omega
   have:=k H (Same.refl H);rw[if_pos h19]at this;exact this
  ·have h19:¬(j-i>19):=by omega
   rw[if_neg h19]at k;refine⟨_,rfl,_,rfl,_,rfl,_,rfl,_,rfl,a,_,rfl,hS,λp hp=>?_⟩;rw[Bj hj hij];generalize he:(t.drop i).take (j-i)=ds at*;refine⟨p,rfl,⟨_,bZ.of ao⟩,eK (K:=K) (a:=p) (xs:=tx ds) (λm σ' H'=>∃v4:Option V,σ'=[some (.ref a),some (.int i),some (.int j),some (.int (valueOf (ds.take m))),v4]/\H'=upd H p (.lst (tx ds))) ⟨none,rfl,rfl⟩ (λm σ' H' _⟨_,_,e⟩=>by rw[e];exact bZ.of ao) ?_ ?_⟩
   ·rintro m x σ' H' hx⟨v4,rfl,rfl⟩;rw[a9]at hx;cases hd:ds[m]?with
    |none=>rw[hd]at hx;cases hx
    |some d=>
     rw[hd]at hx
     cases hx
     refine⟨_,rfl,_,_,rfl,rfl,.inr ⟨by decide,by decide⟩,_,rfl,_,_,rfl,rfl,_,_,rfl,rfl,some (V.int d),?_,rfl⟩
     have h48:48<=d:=hc d (aP hd)
     have e2:ds.take (m+1)=ds.take m++[d]:=by rw[aT,hd];rfl
     rw[e2,qK]
     show[_,_,_,some (V.int ((valueOf (ds.take m):Int)*10+(d:Int)-48)),_]=_
     have e3:((10*valueOf (ds.take m)+(d-48):Nat):Int)=(valueOf (ds.take m):Int)*10+(d:Int)-48:=by omega
     rw[e3]
   ·rintro σ' H'⟨v4,rfl,rfl⟩;rw[ae,aZ];exact⟨_,rfl,k _ (aC hp)⟩
def sv:Sp:=λvs H Q _=>∃n:Nat,vs=[.int n]/\n<=1000000000000000000/\∀H' p,Same H H'->H p=none->H' p=some (.lst (tx (decimal n)))->Q (.ref p) H'
theorem Dk{n:Nat}(h:n<=1000000000000000000):((n:Int)).natAbs.log2<1920:=by
 rw[Int.natAbs_natCast];by_cases hn:n=0
 ·subst hn;decide
 ·exact(Nat.log2_lt hn).mpr (bB (bX h (show 1000000000000000000<2^60 by decide)) (tq (by decide) (by decide)))
theorem HJ{x:Str}{g:TG}{tt:TT}{te:TE}{vs:List Nat}{σ:L2.St}{H1:Hp}{D:Addr}{Qd:Hp->Prop}(Pv:Nat->Hp->Prop)(h0:Pv 0 (upd H1 D (.lst [])))(hs:∀i c H,x.cps[i]?=some c->Pv i H->g (.str ⟨#[c]⟩) (wipe σ vs) H λσ2 H2=>wipe σ2 vs=wipe σ vs/\tt σ2 H2 λb H3=>
   if b=true then te σ2 H3 λy H4=>∃acc,H4 D=some (.lst acc)/\acc.length<sizeLine/\Pv (i+1) (upd H4 D (.lst (acc++[y])))else Pv (i+1) H3)(hd:∀H,Pv x.cps.size H->Qd H):∃W:Nat->Nat->Hp->Prop,(∃m,W 0 m (upd H1 D (.lst [])))/\∀i m H,W i m H->((IX x).stop i H/\Qd H)\/((IX x).go i H/\∃Nx:Hp->Prop,(∀H',Nx H'->∃m',m'<m/\W (i+1) m' H')/\∀v H',(IX x).yld i H v H'->g v (wipe σ vs) H' λσ2 H2=>wipe σ2 vs=wipe σ vs/\tt σ2 H2 λb H3=>
    if b=true then te σ2 H3 λy H4=>∃acc,H4 D=some (.lst acc)/\acc.length<sizeLine/\Nx (upd H4 D (.lst (acc++[y])))else Nx H3):=by
 refine⟨λi m H=>m=x.cps.size-i/\i<=x.cps.size/\Pv i H,⟨x.cps.size,by simp,aV _,h0⟩,?_⟩;rintro i m H⟨rfl,hi,p⟩;by_cases hlt:i<x.cps.size
 ·refine .inr ⟨hlt,Pv (i+1),λH' p'=>⟨x.cps.size-(i+1),by omega,rfl,hlt,p'⟩,λv H' y=>?_⟩;obtain⟨e,c,hc,y⟩:=y;subst e y;exact hs i c _ hc p
 ·have e:i=x.cps.size:=by omega
  subst e;exact .inl ⟨aN _,hd H p⟩
theorem Bk{f:Addr}{fd:FuncData}(F:eJ K "numeral" "numeral" oX f fd)(h1:mg "ord"=none)(h2:mg "str"=none):ck P w K mg base eY 1 f fd ["number"] sv:=by
 refine F.ok qb ?_ ?_
 ·rintro vs H Q E⟨n,rfl,_⟩;rfl
 ·rintro cdv A outer s H vs Q E hr⟨n,rfl,hn,k⟩;refine⟨_,aw (aL (gN (own:=[("digit",1)]) rfl qb.nd (HD (iL ya (by rfl) h2 HH (ai (pv 0) au))) (ei xJ (aH oX) rfl rfl (by decide+kernel)) (λs H C cl fp=>bJ (i:=1) qb.nd rfl (Or.inl rfl)) (λs H C cl fp=>eD) (λs H C cl fp=>bz D0 (by rfl) h1 HG (ai (pv 1) au)))),?_⟩;have hx:=yI n;refine⟨_,rfl,_,rfl,Dk hn,_,rfl,λD hD=>HJ (x:=Str.ofString (toString (n:Int))) (λi H'=>H'=upd H D (.lst (tx ((decimal n).take i)))) rfl ?_ ?_⟩
  ·rintro i c H' hc rfl;have hc':(decimal n)[i]?=some c:=by rw[<-hx,cC];exact hc
   refine⟨rfl,zV ⟨_,rfl,_,rfl,rfl,_,ao,?_,?_⟩⟩
   ·rw[ae];refine bX (br ..) ?_;exact bX (pP hn) (by decide)
   ·rw[mh,aT,hc'];simp[tx]
  ·rintro H' rfl;rw[<-dU,hx,aZ];exact k _ D (aC hD) hD ao
end
end Wk
namespace Wk
open PySem PySem.Spec PyProof.Rows L2 WkR
open Vastof (digit valueOf decimal)
theorem eP{p:Prop}[Decidable p]{A B:Prop}(h1:¬p->A)(h2:p->B):if(!decide p)=true then A else B:=by
 by_cases h:p
 ·rw[if_neg (by simp[h])];exact h2 h
 ·rw[if_pos (by simp[h])];exact h1 h
theorem ED{b:Bool}{A B:Prop}(h1:b=true->A)(h2:b=false->B):if b=true then A else B:=by
 cases b with
 |true=>exact h1 rfl
 |false=>rw[if_neg aI];exact h2 rfl
theorem _root_.L2.Same.new{H H':Hp}{D:Addr}{o:HO}(s:Same H H')(h:H D=none):Same H (upd H' D o):=λb u e=>by rw[aA (aB e h)];exact s b u e
theorem qi(t:List Nat)(i:Nat)(hi:i<t.length):fD t i=i\/(i+1<fD t i/\fD t i<t.length/\∀c∈(t.drop (i+1)).take (fD t i-(i+1)),digit c=true):=by
 obtain⟨c,hc⟩:=jm hi;by_cases h64:c=64
 ·subst h64;rcases mr t i _ hc with⟨_,ds,rfl,h1,_,_,h2,h3,_⟩|⟨h,_⟩
  ·exact .inr ⟨h2,h3,h1⟩
  ·exact .inl h
 ·exact .inl (p5 t i c _ hc h64)
def EE(t:List Nat)(s:Nat×Nat):Prop:=s.1<=s.2/\s.2<=t.length/\∀c∈(t.drop s.1).take (s.2-s.1),48<=c
theorem qj(t:List Nat):∀(k i:Nat),(∀s∈fq t k i,EE t s/\i<=s.1)/\(fq t k i).Pairwise (λa b=>a.2<=b.1)/\3*(fq t k i).length<=t.length-i
 |0,i=>by simp[fq]
 |k+1,i=>by
  unfold fq;by_cases hi:i<t.length
  ·rw[if_pos hi];by_cases hd:fD t i>i
   ·rw[if_pos hd];rcases qi t i hi with h|⟨h1,h2,h3⟩
    ·omega
    ·obtain⟨a1,a2,a3⟩:=qj t k (fD t i+1);refine⟨λs hs=>?_,?_,?_⟩
     ·rcases aF.mp hs with rfl|hs
      ·exact⟨⟨by simp;omega,by simp;omega,λc hc=>(fV.mp (h3 c hc)).1⟩,by simp⟩
      ·exact⟨(a1 s hs).1,by have:=(a1 s hs).2;omega⟩
     ·refine cj.mpr ⟨λs hs=>?_,a2⟩;have:=(a1 s hs).2;simp;omega
     ·rw[bG];omega
   ·rw[if_neg hd];obtain⟨a1,a2,a3⟩:=qj t k (i+1);exact⟨λs hs=>⟨(a1 s hs).1,by have:=(a1 s hs).2;omega⟩,a2,by omega⟩
  ·rw[if_neg hi];simp
theorem vJ(t:List Nat):(∀s∈spans t,EE t s)/\(spans t).Pairwise (λa b=>a.2<=b.1)/\3*(spans t).length<=t.length:=by obtain⟨h1,h2,h3⟩:=qj t (t.length+1) 0;exact⟨λs hs=>(h1 s hs).1,h2,by unfold spans;simpa using h3⟩
def Cj(H:Hp)(p:Addr)(S:List (Nat×Nat)):Prop:=∃ts:List Addr,H p=some (.lst (ts.map V.ref))/\Paired (λT(s:Nat×Nat)=>H T=some (.tup [.int (s.1:Nat),.int (s.2:Nat)])) ts S
section
variable {P:Program}{w:World}{K:aj}{mg:Str->Option Value}{base:Heap}
def tL(K:aj):Sp:=λvs H Q _=>∃(a:Addr)(t:List Nat)(i:Nat),vs=[.ref a,.int i]/\bZ K H a (tx t)/\i<t.length/\Q (.int (fD t i)) H
theorem wR{f:Addr}{fd:FuncData}(F:eJ K "digits_end" "digits_end" mE f fd)(g1:GI mg "AT" 64)(g2:GI mg "SEMICOLON" 59)(C1:dc P w K mg base 1 "numeral_end" ["text","start"] (mM K))(C2:dc P w K mg base 1 "byte_stands" ["text","index","byte"] (iz K)):ck P w K mg base eY 2 f fd ["text","start"] (tL K):=by
 refine F.ok pH ?_ ?_
 ·rintro vs H Q E⟨a,t,i,rfl,_⟩;rfl
 ·rintro cdv A outer s H vs Q E hr⟨a,t,i,rfl,hS,hi,k⟩;have nd:=pH.nd;refine⟨_,aq (bH (bh gG (gM ig (pv 0) (pv 1) (λ_ _=>rfl)) (bw g1) (bC _)) (aw (aL (pv 1))) aX) (aq (ba (i:=2) nd rfl (Or.inl rfl) (aS C1 hr (ai (pv 0) (ai (cZ gc (pv 1) bI) au)))) (aq (bH (x_ (bh je (pv 2) (cZ gc (pv 1) bI) (bC _)) (uk (fh (aS C2 hr (ai (pv 0) (ai (pv 2) (ai (bw g2) au))))))).pt (aw (aL (pv 2))) aX) (aw (aL (pv 1))))),?_⟩;obtain⟨c,hc⟩:∃c,t[i]?=some c:=⟨_,bu hi⟩;unfold fD at k;refine⟨_,rfl,_,rfl,a,_,_,_,rfl,rfl,hS,at_of (j:=i) rfl (Cf hc),rfl,_,rfl,?_⟩;refine eP (λh64=>?_) λh64=>?_
  ·rw[if_neg (λq=>h64 (by rw[hc]at q;cases q;rfl))]at k;exact⟨_,rfl,k⟩
  ·have h64:t[i]?=some 64:=by injection h64 with z;rw[hc,show c=64 by omega]
   rw[if_pos h64]at k;refine⟨_,rfl,_,rfl,_,_,rfl,rfl,a,t,i+1,rfl,hS,?_⟩;refine⟨_,rfl,_,rfl,_,_,rfl,rfl,_,_,rfl,rfl,_,rfl,?_⟩;refine qY (λhgt=>?_) λhgt=>?_
   ·have hgt:jZ t (i+1)>i+1:=by omega
    refine⟨_,rfl,_,rfl,a,t,jZ t (i+1),59,rfl,hS,_,rfl,?_⟩;refine ED (λhb=>?_) λhb=>?_
    ·rw[if_pos ⟨hgt,hb⟩]at k;exact⟨_,rfl,k⟩
    ·rw[if_neg (λq=>by rw[hb]at q;exact cE q.2)]at k;exact⟨_,rfl,k⟩
   ·rw[if_neg (λq=>hgt (by omega))]at k;exact gx ⟨_,rfl,k⟩
def kr(K:aj):Sp:=λvs H Q _=>∃(a:Addr)(t:List Nat),vs=[.ref a]/\bZ K H a (tx t)/\t.length<=100000/\∀H' p,Same H H'->H p=none->Cj H' p (spans t)->Q (.ref p) H'
theorem sy{f:Addr}{fd:FuncData}(F:eJ K "mention_spans" "mention_spans" jn f fd)(hl:mg "len"=none)(C1:dc P w K mg base 2 "digits_end" ["text","start"] (tL K)):ck P w K mg base eY 3 f fd ["text"] (kr K):=by
 refine F.ok lU ?_ ?_
 ·rintro vs H Q E⟨a,t,rfl,_⟩;rfl
 ·rintro cdv A outer s H vs Q E hr⟨a,t,rfl,hS,ht,k⟩;have nd:=lU.nd;refine⟨_,aq (ba (i:=1) nd rfl (Or.inl rfl) (bE au)) (aq (ba (i:=2) nd rfl (Or.inl rfl) bI) (aq (jd PassesOwn.never (bh uE (pv 2) (bz ij (by rfl) hl bf (ai (pv 0) au)) (bC _)) (aq (ba (i:=3) nd rfl (Or.inl rfl) (aS C1 hr (ai (pv 0) (ai (pv 2) au)))) (aq (bH (bh je (pv 3) (pv 2) (bC _)) (aw (dr (gH aU bR bS eX (pv 1) (ai (jk (ai (cZ gc (pv 2) bI) (ai (pv 3) au))) au)))) aX) (aw (ba (i:=2) nd rfl (Or.inl rfl) (cZ gc (pv 3) bI)))))) (aw (aL (pv 1))))),?_⟩;refine⟨aV _,λp hp=>?_⟩;have hlen:(tx t).length=t.length:=ae ..;refine⟨λm σ' H'=>∃(i kk:Nat)(S:List (Nat×Nat))(v3:Option V),σ'=[some (.ref a),some (.ref p),some (.int i),v3]/\m=t.length-i/\Same H H'/\Cj H' p S/\S++fq t kk i=spans t/\t.length<kk+i/\S.length<=i/\(S=[]\/i<=t.length+1),⟨_,0,t.length+1,[],none,rfl,rfl,aC hp,⟨[],ao,.nil⟩,rfl,by omega,by simp,.inl rfl⟩,?_⟩;rintro m σ' H'⟨i,kk,S,v3,rfl,rfl,sm,sp,eq,hk,hl2,hle⟩;refine⟨_,rfl,_,rfl,a,_,rfl,.inl (sm.seq hS),_,_,rfl,rfl,_,rfl,?_⟩;refine qY (λhlt=>?_) λhlt=>?_
  ·have hlt:i<t.length:=by rw[hlen]at hlt;omega
   refine⟨_,λ_ _ h=>h,_,rfl,_,rfl,a,t,i,rfl,sm.seq hS,hlt,?_⟩;refine⟨_,rfl,_,rfl,_,_,rfl,rfl,_,rfl,?_⟩;obtain⟨k2,rfl⟩:∃k2,kk=k2+1:=⟨kk-1,by omega⟩;unfold fq at eq;rw[if_pos hlt]at eq;refine qY (λhgt=>?_) λhgt=>?_
   ·have hgt:fD t i>i:=by omega
    rw[if_pos hgt]at eq;obtain⟨ts,hp',pr⟩:=sp;refine⟨_,rfl,.inl ⟨rfl,_,bZ.of hp'⟩,_,rfl,_,_,rfl,rfl,_,rfl,(by show 2<=sizeLine;decide),λT hT=>?_⟩;have hT2:p≠T:=aB hp' hT;refine⟨p,_,_,rfl,rfl,by rw[aA hT2];exact hp',?_,?_⟩
    ·rw[ae,pr.length];exact bB (show S.length<100001 by omega) (by decide)
    ·refine⟨_,rfl,_,_,rfl,rfl,_,?_,fD t i+1,k2,S++[(i+1,fD t i)],_,rfl,rfl,?_,?_,?_,?_,?_,?_⟩
     ·omega
     ·exact(sm.new (Same.free sm hT)).new hp
     ·refine⟨ts++[T],?_,?_⟩
      ·rw[ao,aW];rfl
      ·refine Paired.snoc (L2.Paired.mapP pr λb s e=>?_) ?_
       ·rw[aA (cn e hp' (λz=>nomatch z)),aA (aB e hT)];exact e
       ·rw[aA (l_ hT2),ao];rfl
     ·rw[nJ];exact eq
     ·omega
     ·simp;omega
     ·right;rcases qi t i hlt with h|⟨h1,h2,h3⟩<;>omega
   ·have he:fD t i=i:=by rcases qi t i hlt with h|⟨h1,h2,h3⟩<;>omega
    rw[if_neg (by omega)]at eq;refine⟨_,rfl,_,_,rfl,rfl,_,?_,fD t i+1,k2,S,_,rfl,rfl,sm,sp,?_,?_,?_,?_⟩
    ·omega
    ·rw[he];exact eq
    ·omega
    ·omega
    ·omega
  ·have hlt:¬i<t.length:=by rw[hlen]at hlt;omega
   have e2:fq t kk i=[]:=by
    cases kk with
    |zero=>rfl
    |succ k2=>unfold fq;rw[if_neg hlt]
   rw[e2,cP]at eq;subst eq;exact⟨_,rfl,k H' p sm hp sp⟩
end
end Wk
namespace Wk
open PySem PySem.Spec PyProof.Rows L2 WkR
open Vastof (digit valueOf decimal placeSet mentions)
theorem vK{zs:List Int}{l:List Nat}(h:zs.Pairwise (·<·))(hm:∀k,k∈zs↔k∈l.map λ(n:Nat)=>(n:Int)):zs=(placeSet l).map λ(n:Nat)=>(n:Int):=by
 have ex:∃ys:List Nat,zs=ys.map λ(n:Nat)=>(n:Int):=by
  refine⟨zs.map Int.toNat,?_⟩;rw[aK];conv=>lhs;rw[<-nN zs]
  refine bK λz hz=>?_;obtain⟨n,_,rfl⟩:=az.mp ((hm z).mp hz);simp
 obtain⟨ys,rfl⟩:=ex;congr 1;have asc:n6 ys:=by rw[List.pairwise_map]at h;exact h.imp λh=>by omega
 refine asc.ext (cb l) λx=>?_;rw[bA];have:=hm (x:Int);simp only[az]at this;constructor
 ·intro hx;obtain⟨n,hn,e⟩:=this.mp ⟨x,hx,rfl⟩;have:n=x:=by omega
  exact this▸hn
 ·intro hx;obtain⟨n,hn,e⟩:=this.mpr ⟨x,hx,rfl⟩;have:n=x:=by omega
  exact this▸hn
theorem ixT{X:Cx}{K:aj}(h:X.K=K):IJ X (F3 K):=h▸mj
theorem ixL{X:Cx}{K:aj}(h:X.K=K):IJ X (Hu K):=h▸ig
theorem sA{X:Cx}{K:aj}{e:Expr}{ta:TE}{f:Str}{pos:Pos}(h:X.K=K)(he:PE X e ta)(hb:attributeBase e f X.env (eval e X.env)=eval e X.env):PE X (.Attribute e f pos) (FV K ta f):=h▸cI he hb
def Jb(K:aj):List V->Hp->VK->Prop:=λxs H Q=>∃p ys,xs=[.ref p]/\bZ K H p ys/\Q (.int ys.length) H
theorem lE{X:Cx}{K:aj}(h:X.K=K):iJ X (.builtin "len") (Jb K):=by subst h;intro pins s σ H vs us Q I r q;obtain⟨p,ys,e,hs,q⟩:=q;exact ij pins s σ H vs us Q I r ⟨p,ys,e,.inl hs,q⟩
def g8(q:Addr)(H H':Hp):Prop:=∀b o,H b=some o->b≠q->H' b=some o
theorem g8.refl(q:Addr)(H:Hp):g8 q H H:=λ_ _ h _=>h
theorem g8.same{q:Addr}{H H1 H2:Hp}(h:g8 q H H1)(s:Same H1 H2):g8 q H H2:=λb o e n=>s b o (h b o e n)
theorem g8.put{q:Addr}{H H1:Hp}{o:HO}(h:g8 q H H1):g8 q H (upd H1 q o):=λb u e n=>by rw[aA n];exact h b u e n
theorem g8.new{q p:Addr}{H H1:Hp}{o:HO}(h:g8 q H H1)(hp:H p=none):g8 q H (upd H1 p o):=λb u e n=>by rw[aA (aB e hp)];exact h b u e n
theorem g8.of{q:Addr}{H H1 H2:Hp}(h0:H q=none)(s:Same H H1)(h:g8 q H1 H2):Same H H2:=λb o e=>h b o (s b o e) (aB e h0)
theorem dM{α β:Type}{F:α->β->Prop}:∀{l₁:List α}{l₂:List β}{i:Nat}{a:α},Paired F l₁ l₂->l₁[i]?=some a->∃b,l₂[i]?=some b/\F a b
 |_,_,_,_,.nil,e=>by simp at e
 |_,_,0,a,.cons h _,e=>by simp at e;subst e;exact⟨_,rfl,h⟩
 |_,_,i+1,a,.cons _ t,e=>by obtain⟨b,h1,h2⟩:=dM t (i:=i) (by simpa using e);exact⟨b,by simpa using h1,h2⟩
theorem cD{α β:Type}{f:α->β}{l:List α}{i:Nat}{y:β}(h:(l.map f)[i]?=some y):∃x,l[i]?=some x/\y=f x:=by
 rw[a9]at h;cases e:l[i]?with
 |none=>rw[e]at h;cases h
 |some x=>rw[e]at h;exact⟨x,rfl,(a0 h).symm⟩
section
variable {P:Program}{w:World}{K:aj}{mg:Str->Option Value}{base:Heap}
def iF(t:List Nat):List Nat:=placeSet ((mentions t).map uT)
def tM(K:aj):Sp:=λvs H Q _=>∃(a:Addr)(t:List Nat),vs=[.ref a]/\bZ K H a (tx t)/\t.length<=4096/\∀H' p,Same H H'->H p=none->H' p=some (.lst (tx (iF t)))->Q (.ref p) H'
theorem yJ{f:Addr}{fd:FuncData}(F:eJ K "mentioned_numbers" "mentioned_numbers" fw f fd)(h1:mg "sorted"=none)(h2:mg "set"=none)(C1:dc P w K mg base 3 "mention_spans" ["text"] (kr K))(C2:dc P w K mg base 1 "number_between" ["text","start","end"] (g7 K)):ck P w K mg base eY 4 f fd ["text"] (tM K):=by
 refine F.ok jh ?_ ?_
 ·rintro vs H Q E⟨a,t,rfl,_⟩;rfl
 ·rintro cdv A outer s H vs Q E hr⟨a,t,rfl,hS,ht,k⟩;have nd:=jh.nd;have hr1:cT 1 _:=hr.mono (by decide);refine⟨_,aw (aL (bz (qP rfl) (by rfl) h1 ib (ai (iL (yw rfl) (by rfl) h2 yF (ai (gN (own:=[("span",1)]) rfl nd (cK (aS C1 hr (ai (pv 0) au))) (ei jD (aH fw) rfl rfl (by decide+kernel)) (λs H C cl fp=>bJ (i:=1) nd rfl (Or.inl rfl)) (λs H C cl fp=>eD) (λs H C cl fp=>aS C2 hr1 (ai (pv 0) (ai (gM (ixT (K:=K) rfl) (pv 1) bI (λ_ _=>rfl)) (ai (gM (ixT (K:=K) rfl) (pv 1) bI (λ_ _=>rfl)) au))))) au)) au))),?_⟩;obtain⟨ok1,ok2,ok3⟩:=vJ t;refine⟨_,rfl,a,t,rfl,hS,by omega,λH1 p1 s1 _ sp=>?_⟩;obtain⟨ts,hp1,pr⟩:=id sp;refine⟨p1,rfl,⟨_,bZ.of hp1⟩,λD hD=>yj (K:=K) (a:=p1) (xs:=ts.map V.ref) (λi H'=>Same H1 H'/\H' D=some (.lst (tx ((spans t).take i |>.map λs=>jl t s.1 s.2)))) ⟨aC hD,ao⟩ (λi H' _ h=>bZ.of (h.1 _ _ hp1)) ?_ ?_⟩
  ·rintro i x H' hx⟨s2,hD2⟩;obtain⟨T,hT,rfl⟩:=cD hx;obtain⟨sn,hs,hT2⟩:=dM pr hT;obtain⟨o1,o2,o3⟩:=ok1 sn (aP hs);refine⟨rfl,zV ?_⟩;refine⟨_,rfl,_,rfl,T,_,_,_,rfl,rfl,xp.of (s2 _ _ hT2),at_of (j:=0) rfl rfl,_,rfl,T,_,_,_,rfl,rfl,xp.of (s2 _ _ hT2),at_of (j:=1) rfl rfl,a,t,sn.1,sn.2,rfl,(s1.trans s2).seq hS,o1,o2,o3,λH3 s3=>?_⟩;refine⟨_,s3 _ _ hD2,?_,(s2.trans s3).new hD,?_⟩
   ·rw[ae,ae];exact bX (br ..) (bX (show(spans t).length<=4096 by omega) (by decide))
   ·rw[ao,aT,hs];simp[tx]
  ·rintro H'⟨s2,hD2⟩;rw[ae,pr.length,aZ,k5]at hD2;have e1:tx ((mentions t).map uT)=(((mentions t).map uT).map λ(n:Nat)=>(n:Int)).map V.int:=by simp[tx]
   rw[e1]at hD2;refine⟨D,_,rfl,bZ.of hD2,?_,λq hq=>?_⟩
   ·have:((mentions t).map uT).length=(spans t).length:=by rw[<-k5,ae]
    rw[ae,this];show(spans t).length+1<4096;omega
   ·refine⟨q,_,rfl,ao,λzs p3 asc mem hp3=>?_⟩;have ez:=vK asc mem;have s3:Same H (upd (upd H' q (Be P w q _)) p3 (.lst (zs.map V.int))):=((s1.trans s2).trans (aC hq)).trans (aC hp3);refine k _ p3 s3 ((((s1.trans s2).trans (aC hq))).free hp3) ?_;rw[ao,ez];simp[tx,iF]
end
end Wk
namespace Wk
open PySem PySem.Spec PyProof.Rows L2 WkR
open Vastof (digit valueOf decimal placeSet mentions)
def rk(r:List (Nat×Nat)):List (Key×V):=r.map λx=>(Sum.inl (x.1:Int),V.int x.2)
def nm(r:List (Nat×Nat))(n:Nat):Option Nat:=(r.find? λx=>x.1==n).map λx=>x.2
theorem q0(n:Nat):∀r:List (Nat×Nat),dZ (rk r) (Sum.inl (n:Int))=(nm r n).map λm=>V.int (m:Nat)
 |[]=>rfl
 |x::r=>by
  by_cases h:x.1=n
  ·have e:dZ (rk (x::r)) (Sum.inl (n:Int))=some (V.int x.2):=eu (by simp[h]);rw[e];simp[nm,h]
  ·have e:dZ (rk (x::r)) (Sum.inl (n:Int))=dZ (rk r) (Sum.inl (n:Int)):=eA (by simp;omega);rw[e,q0 n r];simp[nm,h]
theorem HK{r:List (Nat×Nat)}{n m:Nat}(h:nm r n=some m):∃x∈r,x.2=m:=by
 unfold nm at h;cases e:r.find? λx=>x.1==n with
 |none=>rw[e]at h;cases h
 |some x=>rw[e]at h;exact⟨x,fI e,a0 h⟩
section
variable {P:Program}{w:World}{K:aj}{mg:Str->Option Value}{base:Heap}
def xS(K:aj):Sp:=λvs H Q _=>∃(a d:Addr)(t:List Nat)(r:List (Nat×Nat)),vs=[.ref a,.ref d]/\bZ K H a (tx t)/\t.length<=8192/\H d=some (.dK (rk r))/\(∀x∈r,x.2<=1000000000000000000)/\∀H' p,Same H H'->H p=none->H' p=some (.lst (tx (uq (nm r) t)))->Q (.ref p) H'
theorem Bl{f:Addr}{fd:FuncData}(F:eJ K "renamed_text" "renamed_text" j6 f fd)(C1:dc P w K mg base 3 "mention_spans" ["text"] (kr K))(C2:dc P w K mg base 1 "number_between" ["text","start","end"] (g7 K))(C3:dc P w K mg base 1 "numeral" ["number"] sv):ck P w K mg base eY 4 f fd ["text","names"] (xS K):=by
 refine F.ok mY ?_ ?_
 ·rintro vs H Q E⟨a,d,t,r,rfl,_⟩;rfl
 ·rintro cdv A outer s H vs Q E hr⟨a,d,t,r,rfl,hS,ht,hd,hr18,k⟩;have nd:=mY.nd;have hr1:cT 1 _:=hr.mono (by decide);have hu:=eM hr;refine⟨_,aq (ba (i:=2) nd rfl (Or.inl rfl) (bE au)) (aq (ba (i:=3) nd rfl (Or.inl rfl) bI) (aq (dI PassesOwn.never rfl (cK (aS C1 hr (ai (pv 0) au))) (bJ (i:=4) nd rfl (Or.inl rfl)) (aq (ba (i:=5) nd rfl (Or.inl rfl) (aS C2 hr1 (ai (pv 0) (ai (gM mj (pv 4) bI (λ_ _=>rfl)) (ai (gM mj (pv 4) bI (λ_ _=>rfl)) au))))) (aw (bH (gI (nY hu (pv 5) (pv 1))) (aq (dr (gH aU cu cv fU (pv 2) (ai (nU qD (pv 0) (jI (pv 3)) (jI (gM mj (pv 4) bI (λ_ _=>rfl)))) au))) (aq (dr (gH aU cu cv fU (pv 2) (ai (aS C3 hr1 (ai (cp hu (pv 1) (pv 5) (λ_ _=>rfl)) au)) au))) (aw (ba (i:=3) nd rfl (Or.inl rfl) (gM mj (pv 4) bI (λ_ _=>rfl)))))) aX)))) (aq (dr (gH aU cu cv fU (pv 2) (ai (nU qD (pv 0) (jI (pv 3)) FZ) au))) (aw (aL (pv 2)))))),?_⟩;obtain⟨ok1,ok2,ok3⟩:=vJ t;refine⟨aV _,λq hq=>⟨_,rfl,a,t,rfl,(aC hq).seq hS,by omega,λH1 p1 s1 np1 sp=>?_⟩⟩;obtain⟨ts,hp1,pr⟩:=id sp;have hq1:H1 q=some (.lst []):=s1 _ _ ao;have hne:p1≠q:=λz=>by rw[z,ao]at np1;cases np1
  have s0:Same H H1:=(aC hq).trans s1;refine⟨p1,rfl,⟨_,bZ.of hp1⟩,eK (K:=K) (a:=p1) (xs:=ts.map V.ref) (λi σ' H'=>∃(dn:Nat)(acc:List Nat)(v4 v5:Option V),σ'=[some (.ref a),some (.ref d),some (.ref q),some (.int dn),v4,v5]/\g8 q H1 H'/\H' q=some (.lst (tx acc))/\gA (nm r) t ((spans t).drop i) dn acc=uq (nm r) t/\dn<=t.length/\(∀s∈(spans t).drop i,dn<=s.1)/\acc.length<=dn+20*i) ⟨0,[],none,none,rfl,g8.refl _ _,hq1,rfl,aV _,λ_ _=>aV _,by simp⟩ (λi σ' H' _⟨_,_,_,_,_,b,_⟩=>bZ.of (b _ _ hp1 hne)) ?_ ?_⟩
  ·rintro i x σ' H' hx⟨dn,acc,v4,v5,rfl,bt,hq',rf,hdn,hle,hln⟩;obtain⟨T,hT,rfl⟩:=cD hx;obtain⟨sn,hs,hT2⟩:=dM pr hT;obtain⟨o1,o2,o3⟩:=ok1 sn (aP hs);have hTq:T≠q:=cn hT2 hq1 (λz=>nomatch z);have hT':=bt _ _ hT2 hTq;have sH:=g8.of hq s0 bt;have hdrop:(spans t).drop i=sn::(spans t).drop (i+1):=by obtain⟨lt,e⟩:=aM.mp hs;rw[df lt,e]
   have hil:i<(spans t).length:=(aM.mp hs).1;have hds:dn<=sn.1:=hle sn (by rw[hdrop];exact aY ..);rw[hdrop]at rf;have pw:∀s∈(spans t).drop (i+1),sn.2<=s.1:=by have:=ok2.sublist (Iz i (spans t));rw[hdrop]at this;exact(cj.mp this).1
   refine⟨_,rfl,_,rfl,T,_,_,_,rfl,rfl,xp.of hT',at_of (j:=0) rfl rfl,_,rfl,T,_,_,_,rfl,rfl,xp.of hT',at_of (j:=1) rfl rfl,a,t,sn.1,sn.2,rfl,sH.seq hS,o1,o2,o3,λH3 s3=>?_⟩;have sH3:=sH.trans s3;have bt3:=bt.same s3;refine⟨_,rfl,_,rfl,d,_,rfl,lR.k (k:=Sum.inl ((jl t sn.1 sn.2:Nat):Int)) (sH3 _ _ hd),_,rfl,?_⟩;rw[q0];unfold gA at rf;cases hn:nm r (jl t sn.1 sn.2)with
   |none=>
    rw[hn]at rf
    refine gx ⟨dn,acc,_,_,rfl,bt3,s3 _ _ hq',rf,hdn,λs hs'=>hle s (by rw[hdrop];exact aJ _ hs'),by omega⟩
   |some m=>
    rw[hn]at rf
    obtain⟨x,hx,rfl⟩:=HK hn
    have hq3:=s3 _ _ hq'
    refine iE ⟨_,rfl,.inl ⟨rfl,_,bZ.of hq3⟩,_,rfl,_,rfl,_,rfl,_,rfl,T,_,_,_,rfl,rfl,xp.of (s3 _ _ hT'),at_of (j:=0) rfl rfl,_,rfl,a,_,rfl,sH3.seq hS,λp4 hp4=>?_⟩
    rw[Bj (ay o1 o2) hds]
    have hq4:q≠p4:=aB hq3 hp4
    have z1:(tx acc).length+(tx ((t.drop dn).take (sn.1-dn))).length<=sizeLine:=by rw[ae,ae,fe,dF];exact ay (show _<=8192+8192+20*8192 by omega) (by decide)
    refine⟨q,p4,_,_,rfl,rfl,by rw[aA hq4];exact hq3,ao,z1,?_⟩
    have sH5:Same H (upd (upd H3 p4 (.lst (tx ((t.drop dn).take (sn.1-dn))))) q (.lst (tx acc++tx ((t.drop dn).take (sn.1-dn))))):=(sH3.trans (aC hp4)).new hq
    have np4:H1 p4=none:=by
     cases z:H1 p4 with
     |none=>rfl
     |some o=>
      by_cases zz:p4=q
      ·exact absurd zz.symm hq4
      ·rw[bt3 _ _ z zz]at hp4;cases hp4
    have bt5:g8 q H1 (upd (upd H3 p4 (.lst (tx ((t.drop dn).take (sn.1-dn))))) q (.lst (tx acc++tx ((t.drop dn).take (sn.1-dn))))):=(bt3.new np4).put
    generalize hH5:upd (upd H3 p4 (.lst (tx ((t.drop dn).take (sn.1-dn))))) q (.lst (tx acc++tx ((t.drop dn).take (sn.1-dn))))=H5 at*
    have hq5:H5 q=some (.lst (tx acc++tx ((t.drop dn).take (sn.1-dn)))):=by rw[<-hH5];exact ao
    refine⟨_,rfl,.inl ⟨rfl,_,bZ.of hq5⟩,_,rfl,_,rfl,d,V.int x.2,rfl,?_,?_⟩
    ·have g:=lR.k (k:=Sum.inl ((jl t sn.1 sn.2:Nat):Int)) (sH5 _ _ hd);rw[q0,hn]at g;exact g
    ·refine⟨x.2,rfl,hr18 x hx,λH6 p6 s6 np6 hp6=>?_⟩;have hq6:=s6 _ _ hq5;have e1:tx acc++tx ((t.drop dn).take (sn.1-dn))=tx (acc++(t.drop dn).take (sn.1-dn)):=by simp[tx]
     rw[e1]at hq6;have l1:(acc++(t.drop dn).take (sn.1-dn)).length<=sn.1+20*i:=by rw[bD,fe];omega
     have l2:=pP (hr18 x hx);refine⟨q,p6,_,_,rfl,rfl,hq6,hp6,?_,?_⟩
     ·rw[ae,ae];exact ay (show _<=8192+20*8192+20 by omega) (by decide)
     ·have hT6:=((bt5.same s6).put (o:=.lst (tx (acc++(t.drop dn).take (sn.1-dn))++tx (decimal x.2)))) _ _ hT2 hTq;refine⟨_,rfl,T,_,_,_,rfl,rfl,xp.of hT6,at_of (j:=1) rfl rfl,sn.2,(acc++(t.drop dn).take (sn.1-dn))++decimal x.2,_,_,rfl,?_,?_,rf,o2,pw,?_⟩
      ·exact(bt5.same s6).put
      ·rw[ao];simp[tx]
      ·rw[bD];omega
  ·rintro σ' H'⟨dn,acc,v4,v5,rfl,bt,hq',rf,hdn,hle,hln⟩;rw[ae,pr.length,List.drop_length]at rf;have sH:=g8.of hq s0 bt;refine⟨_,rfl,.inl ⟨rfl,_,bZ.of hq'⟩,_,rfl,_,rfl,_,rfl,a,_,rfl,sH.seq hS,λp4 hp4=>?_⟩;rw[Ge hdn];have hq4:q≠p4:=aB hq' hp4;have hil:(ts.map V.ref).length=(spans t).length:=by rw[ae,pr.length]
   rw[hil]at hln;refine⟨q,p4,_,_,rfl,rfl,by rw[aA hq4];exact hq',ao,?_,?_⟩
   ·rw[ae,ae,dF];exact ay (show _<=8192+20*8192+8192 by omega) (by decide)
   ·refine⟨_,rfl,k _ q ((sH.trans (aC hp4)).new hq) hq ?_⟩;rw[ao,<-rf];simp[tx,gA]
end
end Wk
namespace Wk
open PySem PySem.Spec PyProof.Rows L2 WkR
open Vastof (digit valueOf decimal placeSet mentions)
theorem jQ{t:List Nat}{i e:Nat}(h:eN t i=some e):i<e/\e<t.length/\(∀c∈(t.drop i).take (e-i),48<=c)/\e-i<=9:=by
 rcases p8 t i with⟨h1,_⟩|⟨e',h1,h2,h3,_⟩
 ·rw[h1]at h;cases h
 ·rw[h1]at h;cases h;unfold eN at h1;split at h1
  ·cases h1
  ·rename_i hn;split at h1
   ·have e1:jZ t i=e:=a0 h1;refine⟨h2,h3,λc hc=>?_,by omega⟩;have e2:(t.drop i).take (e-i)=(t.drop i).takeWhile digit:=by
     unfold jZ at e1;split at e1
     ·rw[<-e1,pD,iq]
     ·omega
    rw[e2]at hc;exact(fV.mp (takeWhile_all digit _ c hc)).1
   ·cases h1
structure Gf(K:aj)(C:Addr):Prop where
 cl:CK K C
 n1:gf K C "place"
 n2:gf K C "text"
 n3:gf K C "end"
def rf(p:Nat)(a:Addr)(e:Nat):List (Str×V):=[("place",.int p),("text",.ref a),("end",.int e)]
theorem yK(p:Nat)(a:Addr)(e:Nat):dw "end" (.int e) (dw "text" (.ref a) (dw "place" (.int p) []))=rf p a e:=by
 have n1:¬("place":Str)="text":=by decide+kernel
 have n2:¬("place":Str)="end":=by decide+kernel
 have n3:¬("text":Str)="end":=by decide+kernel
 simp only[dw,rf,if_neg n1,if_neg n2,if_neg n3]
theorem q_(f:Str)(v:V):∀fs:List (Str×V),(dw f v fs).length<=fs.length+1
 |[]=>by simp[dw]
 |(g,x)::r=>by
  unfold dw;split
  ·simp
  ·have:=q_ f v r;simp;omega
structure G3(P:Program)(w:World)(K:aj)(mg:Str->Option Value)(base:Heap)(k:Nat)(x:Str)(C:Addr)(ps:List Str)(sp:Sp):Prop where
 ex:∃f fd,Mk K C f/\ck P w K mg base eY k f fd ps sp/\mg x=some (.ref C)/\Binds K fd ps []
theorem EF{X:Cx}{k:Nat}{x:Str}{C:Addr}{ps:List Str}{sp:Sp}{p pos:Pos}{e:Expr}{es:List Expr}{t:TA}(M:G3 X.prog X.w X.K X.mg X.base k x C ps sp)(hr:cT (k+1) X.A)(ha:PA X (e::es) t)(hg:Gl X x:=by rfl)(hdb:(x==("__debug__":Str))=false:=by decide)(he:starEach (e::es) X.env=(false,eval e X.env)::starEach es X.env:=by rfl)(hpl:(backTo pos (starEach es X.env)).any (·.1)=false:=by rfl):PE X (.Call (.Name x p) (e::es) [] pos) (BZ C sp [] E0 t):=by obtain⟨f,fd,M,F,m,b⟩:=M.ex;exact FX M F hr hg m b .nil B_ ha hdb he hpl
section
variable {P:Program}{w:World}{K:aj}{mg:Str->Option Value}{base:Heap}
def sC(C:Addr):Sp:=λvs H Q _=>∃(x dx a:Addr)(p e:Nat),vs=[.ref x,.int p,.ref a,.int e]/\H x=some (.ins C dx [])/\∀H',H' x=some (.ins C dx (rf p a e))->g8 x H H'->Q .non H'
theorem zX{f C:Addr}{fd:FuncData}(F:eJ K "__init__" "Record.__init__" iU f fd)(T:Gf K C):ck P w K mg base eY 1 f fd ["self","place","text","end"] (sC C):=by
 refine F.ok qU ?_ ?_
 ·rintro vs H Q E⟨x,dx,a,p,e,rfl,_⟩;rfl
 ·rintro cdv A outer s H vs Q E hr⟨x,dx,a,p,e,rfl,hx,k⟩;refine⟨_,aq (g9 (pv 0) (pv 1) rfl) (aq (g9 (pv 0) (pv 2) rfl) (aw (g9 (pv 0) (pv 3) rfl))),?_⟩;refine⟨_,rfl,_,rfl,x,C,dx,_,rfl,hx,T.cl,T.n1,(by show 0<1000;decide),?_⟩;refine⟨_,rfl,_,rfl,x,C,dx,_,rfl,ao,T.cl,T.n2,(by show 1<1000;decide),?_⟩;refine⟨_,rfl,_,rfl,x,C,dx,_,rfl,ao,T.cl,T.n3,bX (q_ _ _ _) (bX (Nat.add_le_add_right (q_ _ _ _) 1) (by show 0+1+1<1000;decide)),?_⟩;rw[mh,mh,yK];exact k _ ao (g8.refl _ _).put
def vL(K:aj):Sp:=λvs H Q _=>∃(a:Addr)(t:List Nat)(i:Nat),vs=[.ref a,.int i]/\bZ K H a (tx t)/\Q (match eN t i with|none=>V.non|some e=>V.int (e:Nat)) H
theorem yL{f:Addr}{fd:FuncData}(F:eJ K "field_end" "field_end" ou f fd)(g1:GI mg "DIGITS_LIMIT" 9)(g2:GI mg "COLON" 58)(C1:dc P w K mg base 1 "numeral_end" ["text","start"] (mM K))(C2:dc P w K mg base 1 "byte_stands" ["text","index","byte"] (iz K)):ck P w K mg base eY 2 f fd ["parcel","start"] (vL K):=by
 refine F.ok qV ?_ ?_
 ·rintro vs H Q E⟨a,t,i,rfl,_⟩;rfl
 ·rintro cdv A outer s H vs Q E hr⟨a,t,i,rfl,hS,k⟩;have nd:=qV.nd;refine⟨_,aq (ba (i:=2) nd rfl (Or.inl rfl) (aS C1 hr (ai (pv 0) (ai (pv 1) au)))) (aq (bH (GQ (bh fA (pv 2) (pv 1) (bC _)) (DQ (bh je (cZ uD (pv 2) (pv 1)) (bw g1) (bC _)))).pt (aw (aL pV)) aX) (aq (bH (jj (fh (aS C2 hr (ai (pv 0) (ai (pv 2) (ai (bw g2) au)))))) (aw (aL pV)) aX) (aw (aL (pv 2))))),?_⟩;refine⟨_,rfl,_,rfl,a,t,i,rfl,hS,?_⟩;have hle:i<=jZ t i:=by unfold jZ;split<;>omega
  unfold eN at k;refine⟨_,rfl,_,rfl,rfl,_,rfl,?_⟩;refine qY (λh1=>?_) λh1=>?_
  ·have h1:jZ t i=i:=by injection h1 with z;omega
   rw[if_pos (.inl h1)]at k;exact iE k
  ·have h1:¬jZ t i=i:=λz=>h1 (by rw[z]);refine⟨_,rfl,_,rfl,_,_,rfl,rfl,_,_,rfl,rfl,_,rfl,?_⟩;refine qY (λh2=>?_) λh2=>?_
   ·rw[if_pos (.inr (by omega))]at k;exact k
   ·rw[if_neg (λz=>by rcases z with z|z;exact h1 z;omega)]at k;refine⟨_,rfl,_,rfl,a,t,jZ t i,58,rfl,hS,_,rfl,?_⟩;cases hb:fC t (jZ t i) 58 with
    |true=>
     rw[if_pos hb]at k
     exact gx ⟨_,rfl,k⟩
    |false=>
     rw[if_neg (by rw[hb];exact aI)]at k
     exact iE k
end
end Wk
namespace Wk
open PySem PySem.Spec PyProof.Rows L2 WkR
open Vastof (digit valueOf decimal placeSet mentions)
theorem HL(p:Nat)(a:Addr)(e:Nat):(rf p a e).lookup ("end":Str)=some (.int e):=by rw[<-yK,bL,if_pos rfl]
theorem Gg(p:Nat)(a:Addr)(e:Nat):(rf p a e).lookup ("text":Str)=some (.ref a):=by rw[<-yK,bL,if_neg (by decide+kernel),bL,if_pos rfl]
theorem zY(p:Nat)(a:Addr)(e:Nat):(rf p a e).lookup ("place":Str)=some (.int p):=by rw[<-yK,bL,if_neg (by decide+kernel),bL,if_neg (by decide+kernel),bL,if_pos rfl]
theorem yM{t:List Nat}{i p e:Nat}{x:List Nat}(h:gP t i=some (p,x,e)):i+5<=e:=by
 unfold gP at h;cases h1:eN t i with
 |none=>rw[h1]at h;cases h
 |some pe=>
  rw[h1]at h
  simp only at h
  cases h2:eN t (pe+1)with
  |none=>rw[h2]at h;cases h
  |some le=>
   rw[h2]at h
   simp only at h
   have a1:=(jQ h1).1
   have a2:=(jQ h2).1
   split at h
   ·cases h;omega
   ·cases h
section
variable {P:Program}{w:World}{K:aj}{mg:Str->Option Value}{base:Heap}
def vM(K:aj)(C:Addr):Sp:=λvs H Q _=>∃(a:Addr)(t:List Nat)(i:Nat),vs=[.ref a,.int i]/\bZ K H a (tx t)/\(gP t i=none->∀H',Same H H'->Q .non H')/\∀p x e,gP t i=some (p,x,e)->∀H' y dx ta,Same H H'->H y=none->H ta=none->H' y=some (.ins C dx (rf p ta e))->H' ta=some (.lst (tx x))->Q (.ref y) H'
theorem yN{f C:Addr}{fd:FuncData}(F:eJ K "record_at" "record_at" ox f fd)(g1:GI mg "LINE_END" 10)(C1:dc P w K mg base 2 "field_end" ["parcel","start"] (vL K))(C2:dc P w K mg base 1 "byte_stands" ["text","index","byte"] (iz K))(C3:dc P w K mg base 1 "number_between" ["text","start","end"] (g7 K))(M:G3 P w K mg base 1 "Record" C ["self","place","text","end"] (sC C)):ck P w K mg base eY 3 f fd ["parcel","start"] (vM K C):=by
 refine F.ok qW ?_ ?_
 ·rintro vs H Q E⟨a,t,i,rfl,_⟩;rfl
 ·rintro cdv A outer s H vs Q E hr⟨a,t,i,rfl,hS,k0,k1⟩;have nd:=qW.nd;have hr1:cT 1 _:=hr.mono (by decide);refine⟨_,aq (ba (i:=2) nd rfl (Or.inl rfl) (aS C1 hr (ai (pv 0) (ai (pv 1) au)))) (aq (bH (gI (x9 (pv 2))) (aw (aL pV)) aX) (aq (ba (i:=3) nd rfl (Or.inl rfl) (aS C1 hr (ai (pv 0) (ai (cZ gc (pv 2) bI) au)))) (aq (bH (gI (x9 (pv 3))) (aw (aL pV)) aX) (aq (ba (i:=4) nd rfl (Or.inl rfl) (cZ gc (pv 3) bI)) (aq (ba (i:=5) nd rfl (Or.inl rfl) (cZ gc (pv 4) (aS C3 hr1 (ai (pv 0) (ai (cZ gc (pv 2) bI) (ai (pv 3) au)))))) (aq (bH (jj (fh (aS C2 hr1 (ai (pv 0) (ai (pv 5) (ai (bw g1) au)))))) (aw (aL pV)) aX) (aq (ba (i:=6) nd rfl (Or.inl rfl) (aS C3 hr1 (ai (pv 0) (ai (pv 1) (ai (pv 2) au))))) (aw (aL (EF M hr (ai (pv 6) (ai (nU qD (pv 0) (jI (pv 4)) (jI (pv 5))) (ai (cZ gc (pv 5) bI) au))))))))))))),?_⟩;refine⟨_,rfl,_,rfl,a,t,i,rfl,hS,?_⟩;unfold gP at k0 k1;cases h1:eN t i with
  |none=>
   rw[h1]at k0
   refine⟨_,rfl,_,rfl,?_⟩
   refine iE (k0 rfl H (Same.refl H))
  |some pe=>
   rw[h1]at k0 k1
   simp only at k0 k1
   obtain⟨a1,a2,a3,a4⟩:=jQ h1
   refine⟨_,rfl,_,rfl,?_⟩
   refine gx ?_
   refine⟨_,rfl,_,rfl,_,_,rfl,rfl,a,t,pe+1,rfl,hS,?_⟩
   cases h2:eN t (pe+1)with
   |none=>
    rw[h2]at k0
    exact⟨_,rfl,_,rfl,iE (k0 rfl H (Same.refl H))⟩
   |some le=>
    rw[h2]at k0 k1
    simp only at k0 k1
    obtain⟨b1,b2,b3,b4⟩:=jQ h2
    refine⟨_,rfl,_,rfl,gx ?_⟩
    refine⟨_,rfl,_,_,rfl,rfl,?_⟩
    refine⟨_,rfl,_,rfl,_,rfl,_,_,rfl,rfl,_,rfl,a,t,pe+1,le,rfl,hS,by omega,by omega,b3,λH1 s1=>?_⟩
    refine⟨_,_,rfl,rfl,?_⟩
    refine⟨_,rfl,_,rfl,a,t,le+1+jl t (pe+1) le,10,rfl,s1.seq hS,_,rfl,?_⟩
    cases hb:fC t (le+1+jl t (pe+1) le) 10 with
    |false=>
     rw[if_neg (by rw[hb];exact aI)]at k0
     exact iE (k0 rfl H1 s1)
    |true=>
     rw[if_pos hb]at k1
     obtain⟨c1,c2⟩:=jf hb
     refine gx ?_
     refine⟨_,rfl,_,rfl,_,rfl,a,t,i,pe,rfl,s1.seq hS,by omega,by omega,a3,λH2 s2=>?_⟩
     have s12:=s1.trans s2
     refine⟨_,rfl,_,rfl,_,rfl,_,rfl,_,rfl,_,rfl,a,_,rfl,s12.seq hS,λta hta=>?_⟩
     refine⟨_,rfl,_,_,rfl,rfl,?_⟩
     intro y dx ny ndx ne
     refine⟨y,dx,ta,jl t i pe,le+1+jl t (pe+1) le+1,rfl,ao,λH' hy bt=>⟨rfl,?_⟩⟩
     have s3:Same H (upd H2 ta (.lst (uH (tx t) (some ((le:Int)+1)) (some ((le:Int)+1+(jl t (pe+1) le:Nat)))))):=s12.trans (aC hta)
     have nta:H2 ta=none:=hta
     have hy0:=s3.free ny
     have s4:=Same.trans s3 (aC (o:=.own y) ndx)
     have s5:Same H H':=g8.of hy0 (s4.trans (aC (o:=.ins C dx []) (by rw[aA (l_ ne)];exact ny))) bt
     refine k1 _ _ _ rfl H' y dx ta s5 hy0 (s12.free nta) hy ?_
     have e1:ta≠y:=aB ao ny
     have e2:ta≠dx:=aB ao ndx
     refine bt _ _ ?_ e1
     rw[aA e1,aA e2,ao]
     have e3:=Bj (t:=t) (i:=le+1) (j:=le+1+jl t (pe+1) le) (by omega) (by omega)
     rw[pD]at e3
     rw[<-e3]
     rfl
end
end Wk
namespace Wk
open PySem PySem.Spec PyProof.Rows L2 WkR
open Vastof (digit valueOf decimal placeSet mentions recordsIn records)
def vN(C:Addr)(H:Hp)(p:Addr)(l:List (Nat×List Nat)):Prop:=∃xs:List Addr,H p=some (.lst (xs.map V.ref))/\Paired (λx r=>∃dx ta e,ta≠p/\H x=some (.ins C dx (rf r.1 ta e))/\H ta=some (.lst (tx r.2))) xs l
theorem vN.same{C:Addr}{H H':Hp}{p:Addr}{l:List (Nat×List Nat)}(h:vN C H p l)(s:Same H H'):vN C H' p l:=by obtain⟨xs,h1,h2⟩:=h;exact⟨xs,s _ _ h1,L2.Paired.mapP h2 λ_ _⟨dx,ta,e,n,a,b⟩=>⟨dx,ta,e,n,s _ _ a,s _ _ b⟩⟩
theorem yO{t:List Nat}{i p e:Nat}{x:List Nat}(h:gP t i=some (p,x,e)):e<=t.length/\x.length<=t.length:=by
 unfold gP at h;cases h1:eN t i with
 |none=>rw[h1]at h;cases h
 |some pe=>
  rw[h1]at h
  simp only at h
  cases h2:eN t (pe+1)with
  |none=>rw[h2]at h;cases h
  |some le=>
   rw[h2]at h
   simp only at h
   split at h
   ·rename_i hb;obtain⟨c1,c2⟩:=jf hb;cases h;refine⟨by omega,?_⟩;rw[fe,dF];omega
   ·cases h
section
variable {P:Program}{w:World}{K:aj}{mg:Str->Option Value}{base:Heap}
def nq(K:aj)(C:Addr):Sp:=λvs H Q _=>∃(a:Addr)(t:List Nat),vs=[.ref a]/\bZ K H a (tx t)/\t.length<=8192/\(records t=none->∀H',Same H H'->Q .non H')/\∀l,records t=some l->5*l.length<=t.length->(∀r∈l,r.2.length<=t.length)->∀H' p,Same H H'->vN C H' p l->Q (.ref p) H'
theorem ra{f C:Addr}{fd:FuncData}(F:eJ K "parcel_records" "parcel_records" iV f fd)(T:Gf K C)(hl:mg "len"=none)(g1:GI mg "DOT" 46)(C1:dc P w K mg base 1 "byte_stands" ["text","index","byte"] (iz K))(C2:dc P w K mg base 3 "record_at" ["parcel","start"] (vM K C)):ck P w K mg base eY 4 f fd ["parcel"] (nq K C):=by
 refine F.ok kX ?_ ?_
 ·rintro vs H Q E⟨a,t,rfl,_⟩;rfl
 ·rintro cdv A outer s H vs Q E hr⟨a,t,rfl,hS,ht,k0,k1⟩;have nd:=kX.nd;have hr1:cT 1 _:=hr.mono (by decide);refine⟨_,aq (ba (i:=1) nd rfl (Or.inl rfl) (bE au)) (aq (ba (i:=2) nd rfl (Or.inl rfl) bI) (aq (jd PassesOwn.never (jj (fh (aS C1 hr1 (ai (pv 0) (ai (pv 2) (ai (bw g1) au)))))) (aq (ba (i:=3) nd rfl (Or.inl rfl) (aS C2 hr (ai (pv 0) (ai (pv 2) au)))) (aq (bH (gI (x9 (pv 3))) (aw (aL pV)) aX) (aq (dr (gH aU bR bS eX (pv 1) (ai (pv 3) au))) (aw (ba (i:=2) nd rfl (Or.inl rfl) (cI (pv 3) rfl))))))) (aq (bH (bh uE (cZ gc (pv 2) bI) (bz ij (by rfl) hl bf (ai (pv 0) au)) (bC _)) (aw (aL pV)) aX) (aw (aL (pv 1)))))),?_⟩;refine⟨aV _,λq hq=>?_⟩;have hlen:(tx t).length=t.length:=ae ..;refine⟨λm σ' H'=>∃(i kk:Nat)(l:List (Nat×List Nat))(v3:Option V),σ'=[some (.ref a),some (.ref q),some (.int i),v3]/\m=t.length-i/\Same H H'/\vN C H' q l/\(recordsIn kk (t.drop i)).map (l++·)=records t/\t.length<kk+i/\i<=t.length/\5*l.length<=i/\∀r∈l,r.2.length<=t.length,⟨_,0,t.length+1,[],none,rfl,rfl,aC hq,⟨[],ao,.nil⟩,?_,by omega,by omega,by simp,by simp⟩,?_⟩
  ·show((recordsIn (t.length+1) t).map ([]++·))=_;unfold records;cases recordsIn (t.length+1) t<;>rfl
  rintro m σ' H'⟨i,kk,l,v3,rfl,rfl,sm,rc,eq,hk,hi,h5,hr2⟩;obtain⟨k2,rfl⟩:∃k2,kk=k2+1:=⟨kk-1,by omega⟩;refine⟨_,rfl,_,rfl,a,t,i,46,rfl,sm.seq hS,_,rfl,?_⟩;rcases yn t k2 i with⟨d1,d2⟩|⟨d1,d2,d3⟩|⟨d1,p,x,e,d2,d3,d4,d5,d6⟩
  ·rw[d1];rw[d2]at eq;refine gx ?_;refine⟨_,rfl,_,_,rfl,rfl,_,rfl,a,_,rfl,.inl (sm.seq hS),_,_,rfl,rfl,_,rfl,?_⟩;refine qY (λhlt=>?_) λhlt=>?_
   ·have hlt:i+1<t.length:=by rw[hlen]at hlt;omega
    rw[if_pos hlt]at eq;exact k0 eq.symm H' sm
   ·have hlt:¬i+1<t.length:=by rw[hlen]at hlt;omega
    rw[if_neg hlt]at eq;refine⟨_,rfl,k1 l ?_ (by omega) hr2 H' q sm rc⟩;rw[<-eq];simp
  ·rw[d1];rw[d3]at eq;refine iE ⟨_,λ_ _ h=>h,_,rfl,_,rfl,a,t,i,rfl,sm.seq hS,λ_ H2 s2=>?_,λp x e z=>by rw[d2]at z;cases z⟩;exact⟨_,rfl,_,rfl,iE (k0 eq.symm H2 (sm.trans s2))⟩
  ·rw[d1];rw[d6]at eq;refine iE ⟨_,λ_ _ h=>h,_,rfl,_,rfl,a,t,i,rfl,sm.seq hS,(λz=>by rw[d2]at z;cases z),λp' x' e' z H2 y dx ta s2 ny nta hy hta=>?_⟩;rw[d2]at z;cases z;obtain⟨xs,hq1,pr⟩:=rc;have hq2:=s2 _ _ hq1;refine⟨_,rfl,_,rfl,gx ?_⟩;have yq:y≠q:=cn hy hq2 (λz=>nomatch z);have taq:ta≠q:=λz=>by rw[z,hq1]at nta;cases nta
   refine⟨_,rfl,.inl ⟨rfl,_,bZ.of hq2⟩,_,rfl,q,_,_,rfl,rfl,hq2,?_,?_⟩
   ·rw[ae,pr.length];exact bB (show l.length<100000 by omega) (by decide)
   ·refine⟨_,rfl,y,C,dx,_,_,rfl,by rw[aA yq];exact hy,T.cl,T.n3,HL _ _ _,_,?_,e,k2,l++[(p,x)],_,rfl,rfl,(sm.trans s2).new hq,⟨xs++[y],?_,?_⟩,?_,?_,d4,?_,?_⟩
    ·omega
    ·rw[ao,aW];rfl
    ·refine Paired.snoc (L2.Paired.mapP pr λb r⟨dx',ta',e',n',h1',h2'⟩=>⟨dx',ta',e',n',?_,?_⟩) ⟨dx,ta,e,taq,?_,?_⟩
     ·rw[aA (cn (s2 _ _ h1') hq2 (λz=>nomatch z))];exact s2 _ _ h1'
     ·rw[aA n'];exact s2 _ _ h2'
     ·rw[aA yq];exact hy
     ·rw[aA taq];exact hta
    ·rw[<-eq,Option.map_map];congr 1;funext z;simp
    ·omega
    ·have:=yM d2;simp;omega
    ·intro r hr';rcases aD.mp hr' with z|z
     ·exact hr2 r z
     ·rw[aE.mp z];exact(yO d2).2
end
end Wk
namespace Wk
open PySem PySem.Spec PyProof.Rows L2 WkR
theorem yP{J:It}{n:Nat}{item:Nat->V->Prop}{g:TG}{tt:TT}{te:TE}{vs:List Nat}{σ:L2.St}{H1:Hp}{D:Addr}{Qd:Hp->Prop}(Pv:Nat->Hp->Prop)(h0:Pv 0 (upd H1 D (.lst [])))(hJ:∀i H,Pv i H->(i<n->J.go i H)/\(i=n->J.stop i H)/\∀x H',i<n->J.yld i H x H'->H'=H/\item i x)(hs:∀i x H,i<n->item i x->Pv i H->g x (wipe σ vs) H λσ2 H2=>wipe σ2 vs=wipe σ vs/\tt σ2 H2 λb H3=>
   if b=true then te σ2 H3 λy H4=>∃acc,H4 D=some (.lst acc)/\acc.length<sizeLine/\Pv (i+1) (upd H4 D (.lst (acc++[y])))else Pv (i+1) H3)(hd:∀H,Pv n H->Qd H):∃W:Nat->Nat->Hp->Prop,(∃m,W 0 m (upd H1 D (.lst [])))/\∀i m H,W i m H->(J.stop i H/\Qd H)\/(J.go i H/\∃Nx:Hp->Prop,(∀H',Nx H'->∃m',m'<m/\W (i+1) m' H')/\∀v H',J.yld i H v H'->g v (wipe σ vs) H' λσ2 H2=>wipe σ2 vs=wipe σ vs/\tt σ2 H2 λb H3=>
    if b=true then te σ2 H3 λy H4=>∃acc,H4 D=some (.lst acc)/\acc.length<sizeLine/\Nx (upd H4 D (.lst (acc++[y])))else Nx H3):=by
 refine⟨λi m H=>m=n-i/\i<=n/\Pv i H,⟨n,by simp,aV _,h0⟩,?_⟩;rintro i m H⟨rfl,hi,p⟩;obtain⟨j1,j2,j3⟩:=hJ i H p;by_cases hlt:i<n
 ·refine .inr ⟨j1 hlt,Pv (i+1),λH' p'=>⟨n-(i+1),by omega,rfl,hlt,p'⟩,λv H' y=>?_⟩;obtain⟨e,y2⟩:=j3 v H' hlt y;subst e;exact hs i v _ hlt y2 p
 ·have e:i=n:=by omega
  subst e;exact .inl ⟨j2 rfl,hd H p⟩
theorem Ck{J:It}{n:Nat}{item:Nat->V->Prop}{g:TG}{tb:TS}{D:Ends}{σ:L2.St}{H:Hp}(Pv:Nat->L2.St->Hp->Prop)(h0:Pv 0 σ H)(hJ:∀i σ H,Pv i σ H->(i<n->J.go i H)/\(i=n->J.stop i H)/\∀x H',i<n->J.yld i H x H'->H'=H/\item i x)(hs:∀i x σ H,i<n->item i x->Pv i σ H->g x σ H λσ2 H2=>tb {D with nx:=Pv (i+1),ct:=Pv (i+1),bk:=D.nx} σ2 H2)(hd:∀σ H,Pv n σ H->D.nx σ H):∃W:Nat->Nat->L2.St->Hp->Prop,(∃m,W 0 m σ H)/\∀i m σ H,W i m σ H->(J.stop i H/\D.nx σ H)\/(J.go i H/\∃N:L2.St->Hp->Prop,(∀σ' H',N σ' H'->∃m',m'<m/\W (i+1) m' σ' H')/\∀x H',J.yld i H x H'->g x σ H' λσ2 H2=>tb {D with nx:=N,ct:=N,bk:=D.nx} σ2 H2):=by
 refine⟨λi m σ H=>m=n-i/\i<=n/\Pv i σ H,⟨n,by simp,aV _,h0⟩,?_⟩;rintro i m σ H⟨rfl,hi,p⟩;obtain⟨j1,j2,j3⟩:=hJ i σ H p;by_cases hlt:i<n
 ·refine .inr ⟨j1 hlt,Pv (i+1),λσ' H' p'=>⟨n-(i+1),by omega,rfl,hlt,p'⟩,λv H' y=>?_⟩;obtain⟨e,y2⟩:=j3 v H' hlt y;subst e;exact hs i v σ _ hlt y2 p
 ·have e:i=n:=by omega
  subst e;exact .inl ⟨j2 rfl,hd σ H p⟩
theorem Bm{kvs:List (Key×V)}:Fz (some (.dK kvs)):=trivial
theorem gT{td:TE}{g:TG}{tb:TS}{D:Ends}{σ:L2.St}{H:Hp}{d:Addr}{kvs:List (Key×V)}(hd:H d=some (.dK kvs))(htd:∀od(R:V->Hp->Prop),R (.ref d) (upd H d (.frz od (.dK kvs)))->td σ (upd H d (.frz od (.dK kvs))) R)(Pv:Obj->Nat->L2.St->Hp->Prop)(h0:∀od,Pv od 0 σ (upd H d (.frz od (.dK kvs))))(hl:∀od i σ' H',Pv od i σ' H'->H' d=some (.frz od (.dK kvs)))(hs:∀od i k v σ' H',kvs[i]?=some (k,v)->Pv od i σ' H'->g (kV k) σ' H' λσ2 H2=>tb ⟨Pv od (i+1),λv H'=>H' d=some (.frz od (.dK kvs))/\D.rt v (upd H' d (.dK kvs)),λσ' H'=>H' d=some (.frz od (.dK kvs))/\D.nx σ' (upd H' d (.dK kvs)),Pv od (i+1)⟩ σ2 H2)(hf:∀od σ' H',Pv od kvs.length σ' H'->D.nx σ' (upd H' d (.dK kvs))):GY (FQ (zH td) g tb) D σ H:=by
 refine⟨d,_,hd,Bm,λod=>htd od _ ⟨d,od,rfl,.inl ⟨kvs,ao,?_⟩⟩⟩;refine Ck (J:=IY d od kvs) (n:=kvs.length) (item:=λi x=>∃k v,kvs[i]?=some (k,v)/\x=kV k) (Pv od) (h0 od) (λi σ' H' p=>⟨λh=>⟨hl _ _ _ _ p,h⟩,λh=>⟨hl _ _ _ _ p,by omega⟩,λx H2 _ y=>y⟩) ?_ ?_
 ·rintro i x σ' H' hi⟨k,v,e,rfl⟩p;exact hs od i k v σ' H' e p
 ·exact λσ' H' p=>⟨hl _ _ _ _ p,hf od σ' H' p⟩
theorem yQ{td:TE}{g:TG}{tt:TT}{te:TE}{vs:List Nat}{σ:L2.St}{H:Hp}{Q:VK}{d:Addr}{kvs:List (Key×V)}(hd:H d=some (.dK kvs))(htd:∀od(R:V->Hp->Prop),R (.ref d) (upd H d (.frz od (.dK kvs)))->td σ (upd H d (.frz od (.dK kvs))) R)(Pv:Obj->Addr->Nat->Hp->Prop)(h0:∀od D,H D=none->Pv od D 0 (upd (upd H d (.frz od (.dK kvs))) D (.lst [])))(hl:∀od D i H',Pv od D i H'->H' d=some (.frz od (.dK kvs)))(hs:∀od D i k v H',H D=none->kvs[i]?=some (k,v)->Pv od D i H'->g (kV k) (wipe σ vs) H' λσ2 H2=>wipe σ2 vs=wipe σ vs/\tt σ2 H2 λb H3=>
   if b=true then te σ2 H3 λy H4=>∃acc,H4 D=some (.lst acc)/\acc.length<sizeLine/\Pv od D (i+1) (upd H4 D (.lst (acc++[y])))else Pv od D (i+1) H3)(hf:∀od D H',H D=none->Pv od D kvs.length H'->Q (.ref D) (upd H' d (.dK kvs))):yl (GW (zH td) g tt te vs) σ H Q:=by
 refine⟨d,_,hd,Bm,λod=>htd od _ ⟨d,od,rfl,.inl ⟨kvs,ao,λD hD=>?_⟩⟩⟩;have hDd:D≠d:=λz=>by rw[z,ao]at hD;cases hD
 have hD0:H D=none:=by rw[aA hDd]at hD;exact hD
 refine yP (J:=IY d od kvs) (n:=kvs.length) (item:=λi x=>∃k v,kvs[i]?=some (k,v)/\x=kV k) (Pv od D) (h0 od D hD0) (λi H' p=>⟨λh=>⟨hl _ _ _ _ p,h⟩,λh=>⟨hl _ _ _ _ p,by omega⟩,λx H2 _ y=>y⟩) ?_ ?_
 ·rintro i x H' hi⟨k,v,e,rfl⟩p;exact hs od D i k v H' hD0 e p
 ·exact λH' p=>⟨hl _ _ _ _ p,hf od D H' hD0 p⟩
theorem cf{H:Hp}{a:Addr}{kvs:List (Key×V)}{k:Key}(e:Rd H a (.dK kvs)):lR H a (kV k) (dZ kvs k):=.inl ⟨kvs,k,e,rfl,rfl⟩
end Wk
namespace Wk
open PySem PySem.Spec PyProof.Rows L2 WkR
open Vastof (Held State load)
structure gE(K:aj)(C:Addr):Prop where
 cl:CK K C
 n1:gf K C "room"
 n2:gf K C "held"
 n3:gf K C "pins"
 n4:gf K C "references"
 n5:gf K C "staged"
def sf(r:Nat)(h p f g:Addr):List (Str×V):=[("room",.int r),("held",.ref h),("pins",.ref p),("references",.ref f),("staged",.ref g)]
theorem G5:¬("room":Str)="held":=by decide+kernel
theorem G6:¬("room":Str)="pins":=by decide+kernel
theorem G7:¬("room":Str)="references":=by decide+kernel
theorem EG:¬("room":Str)="staged":=by decide+kernel
theorem G8:¬("held":Str)="pins":=by decide+kernel
theorem G9:¬("held":Str)="references":=by decide+kernel
theorem EH:¬("held":Str)="staged":=by decide+kernel
theorem G_:¬("pins":Str)="references":=by decide+kernel
theorem EI:¬("pins":Str)="staged":=by decide+kernel
theorem EJ:¬("references":Str)="staged":=by decide+kernel
theorem o6(r:Nat)(h p f g:Addr):dw "staged" (.ref g) (dw "references" (.ref f) (dw "pins" (.ref p) (dw "held" (.ref h) (dw "room" (.int r) []))))=sf r h p f g:=by simp only[dw,sf,if_neg G5,if_neg G6,if_neg G7,if_neg EG,if_neg G8,if_neg G9,if_neg EH,if_neg G_,if_neg EI,if_neg EJ]
theorem zZ(r r':Nat)(h p f g:Addr):dw "room" (.int r') (sf r h p f g)=sf r' h p f g:=by simp only[dw,sf,if_true]
theorem pQ(r:Nat)(h p f g g':Addr):dw "staged" (.ref g') (sf r h p f g)=sf r h p f g':=by simp only[dw,sf,if_neg EG,if_neg EH,if_neg EI,if_neg EJ,if_true]
theorem Gh(r:Nat)(h p f g:Addr):(sf r h p f g).lookup ("room":Str)=some (.int r):=by rw[<-o6,bL,if_neg EG,bL,if_neg G7,bL,if_neg G6,bL,if_neg G5,bL,if_pos rfl]
theorem fc(r:Nat)(h p f g:Addr):(sf r h p f g).lookup ("held":Str)=some (.ref h):=by rw[<-o6,bL,if_neg EH,bL,if_neg G9,bL,if_neg G8,bL,if_pos rfl]
theorem o7(r:Nat)(h p f g:Addr):(sf r h p f g).lookup ("pins":Str)=some (.ref p):=by rw[<-o6,bL,if_neg EI,bL,if_neg G_,bL,if_pos rfl]
theorem kY(r:Nat)(h p f g:Addr):(sf r h p f g).lookup ("references":Str)=some (.ref f):=by rw[<-o6,bL,if_neg EJ,bL,if_pos rfl]
theorem iW(r:Nat)(h p f g:Addr):(sf r h p f g).lookup ("staged":Str)=some (.ref g):=by rw[<-o6,bL,if_pos rfl]
def rows(l:List (Nat×Addr)):List (Key×V):=l.map λx=>(Sum.inl (x.1:Int),V.ref x.2)
def gF(H:Hp)(l:List (Nat×Addr))(d:List (Nat×List Nat)):Prop:=Paired (λ(x:Nat×Addr)(r:Nat×List Nat)=>x.1=r.1/\H x.2=some (.lst (tx r.2))) l d
theorem gF.same{H H':Hp}{l:List (Nat×Addr)}{d:List (Nat×List Nat)}(h:gF H l d)(s:Same H H'):gF H' l d:=L2.Paired.mapP h λ_ _ e=>⟨e.1,s _ _ e.2⟩
theorem gF.keys{H:Hp}{l:List (Nat×Addr)}{d:List (Nat×List Nat)}(h:gF H l d):l.map (λx=>x.1)=d.map λx=>x.1:=by
 induction h with
 |nil=>rfl
 |cons a _ ih=>rw[bo,bo,a.1,ih]
theorem gF.len{H:Hp}{l:List (Nat×Addr)}{d:List (Nat×List Nat)}(h:gF H l d):l.length=d.length:=lN h
theorem Cm(l:List (Nat×Addr)):DI (rows l) (l.map λx=>(x.1:Int)):=by unfold DI rows;rw[aK,aK];rfl
theorem fz{l:List (Nat×Addr)}{i:Nat}{k:Key}{v:V}(h:(rows l)[i]?=some (k,v)):∃x,l[i]?=some x/\k=Sum.inl (x.1:Int)/\v=V.ref x.2:=by obtain⟨x,e,q⟩:=cD h;cases q;exact⟨x,e,rfl,rfl⟩
theorem gF.get{H:Hp}(n:Nat):∀{l:List (Nat×Addr)}{d:List (Nat×List Nat)},gF H l d->(n∉d.map (λx=>x.1)/\dZ (rows l) (Sum.inl (n:Int))=none)\/∃a t,(n,t)∈d/\(n,a)∈l/\dZ (rows l) (Sum.inl (n:Int))=some (.ref a)/\H a=some (.lst (tx t))
 |_,_,.nil=>.inl ⟨by simp,rfl⟩
 |x::l,r::d,.cons h t=>by
  by_cases e:x.1=n
  ·right;refine⟨x.2,r.2,?_,?_,?_,h.2⟩
   ·rw[<-e,h.1];exact aY ..
   ·rw[<-e];exact aY ..
   ·exact eu (p:=((Sum.inl (x.1:Int):Key),V.ref x.2)) (by rw[e])
  ·have e2:dZ (rows (x::l)) (Sum.inl (n:Int))=dZ (rows l) (Sum.inl (n:Int)):=eA (p:=((Sum.inl (x.1:Int):Key),V.ref x.2)) (λz=>e (by have:=f7 z;omega));rcases gF.get n t with⟨h1,h2⟩|⟨a,t',h1,h2,h3,h4⟩
   ·left;refine⟨λm=>?_,by rw[e2];exact h2⟩;rcases aF.mp m with z|z
    ·exact e (by rw[h.1];exact z.symm)
    ·exact h1 z
   ·exact .inr ⟨a,t',aJ _ h1,aJ _ h2,by rw[e2];exact h3,h4⟩
theorem fF:∀{l:List (Nat×Addr)}{i:Nat}{x:Nat×Addr},(l.map λx=>x.1).Nodup->l[i]?=some x->dZ (rows l) (Sum.inl (x.1:Int))=some (.ref x.2)
 |[],i,x,_,h=>by simp at h
 |y::l,0,x,_,h=>by
  simp at h;subst h;exact eu (p:=((Sum.inl (y.1:Int):Key),V.ref y.2)) rfl
 |y::l,i+1,x,hn,h=>by
  have hn:(y.1::l.map λx=>x.1).Nodup:=hn;obtain⟨h1,h2⟩:=bO.mp hn;have h:l[i]?=some x:=by simpa using h
  have e2:dZ (rows (y::l)) (Sum.inl (x.1:Int))=dZ (rows l) (Sum.inl (x.1:Int)):=eA (p:=((Sum.inl (y.1:Int):Key),V.ref y.2)) (λq=>h1 (by
   have e:=f7 q;have:y.1=x.1:=by omega
   rw[this];exact az.mpr ⟨x,aP h,rfl⟩))
  rw[e2];exact fF h2 h
theorem vO:∀l:List (Nat×List Nat),(l.map λx=>(x.2.length:Int)).sum=((l.map λx=>x.2.length).sum:Nat)
 |[]=>rfl
 |x::l=>by rw[bo,fR,bo,fR,vO l];omega
theorem g8.lock{H H':Hp}{d:Addr}{o:HO}(s:Same (upd H d o) H'):g8 d H H':=λb u e n=>s b u (by rw[aA n];exact e)
structure SD where
 dx:Addr
 ah:Addr
 ap:Addr
 ar:Addr
 ag:Addr
 lh:List (Nat×Addr)
 lp:List (Nat×Addr)
 lr:List (Nat×Addr)
 lg:List (Nat×Addr)
 dh:Held
 dp:Held
 dg:Held
structure fG(C:Addr)(H:Hp)(p:Addr)(D:SD)(s:State):Prop where
 ob:H p=some (.ins C D.dx (sf s.room D.ah D.ap D.ar D.ag))
 h1:H D.ah=some (.dK (rows D.lh))
 h2:H D.ap=some (.dK (rows D.lp))
 h3:H D.ar=some (.dK (rows D.lr))
 h4:H D.ag=some (.dK (rows D.lg))
 t1:gF H D.lh D.dh
 t2:gF H D.lp D.dp
 t3:gF H D.lr (D.dp.map λx=>(x.1,iF x.2))
 t4:gF H D.lg D.dg
 r1:DR D.dh s.valid
 r2:DR D.dp s.pins
 r4:DR D.dg s.staged
 n12:D.ah≠D.ap
 n13:D.ah≠D.ar
 n14:D.ah≠D.ag
 n23:D.ap≠D.ar
 n24:D.ap≠D.ag
 n34:D.ar≠D.ag
 si:SI s
theorem fG.vlen{C:Addr}{H:Hp}{p:Addr}{D:SD}{s:State}(h:fG C H p D s):D.dh.length<=1024:=by rw[h.r1.perm.length_eq];exact h.si.valid_len
theorem fG.plen{C:Addr}{H:Hp}{p:Addr}{D:SD}{s:State}(h:fG C H p D s):D.dp.length<=1024:=by rw[h.r2.perm.length_eq];exact h.si.pins_len
theorem bW{n:Nat}(h:n<=100000):n<sizeLine:=bX h (by decide)
theorem fG.same{C:Addr}{H H':Hp}{p:Addr}{D:SD}{s:State}(h:fG C H p D s)(m:Same H H'):fG C H' p D s:=⟨m _ _ h.ob,m _ _ h.h1,m _ _ h.h2,m _ _ h.h3,m _ _ h.h4,h.t1.same m,h.t2.same m,h.t3.same m,h.t4.same m,h.r1,h.r2,h.r4,h.n12,h.n13,h.n14,h.n23,h.n24,h.n34,h.si⟩
theorem _root_.L2.Same.unlock{H H':Hp}{d:Addr}{od:Obj}{kvs:List (Key×V)}(hd:H d=some (.dK kvs))(s:Same (upd H d (.frz od (.dK kvs))) H'):Same H (upd H' d (.dK kvs)):=λb o e=>by
 by_cases z:b=d
 ·rw[z]at e⊢;rw[hd]at e;rw[ao];exact e
 ·rw[aA z];exact s b o (by rw[aA z];exact e)
section
variable {P:Program}{w:World}{K:aj}{mg:Str->Option Value}{base:Heap}
def jV:Sp:=λvs H Q _=>∃n:Int,vs=[.int n]/\Q (.bl (decide (0<=n/\n<=1023))) H
theorem z0{f:Addr}{fd:FuncData}(F:eJ K "is_place" "is_place" qc f fd)(g1:GI mg "LAST_PLACE" 1023):ck P w K mg base eY 1 f fd ["number"] jV:=by
 refine F.ok zP ?_ ?_
 ·rintro vs H Q E⟨n,rfl,_⟩;rfl
 ·rintro cdv A outer s H vs Q E hr⟨n,rfl,k⟩;refine⟨_,aw (aL (DY BY BY bI (pv 0) (bw g1))),?_⟩;refine⟨_,rfl,_,_,rfl,rfl,_,rfl,?_⟩;refine qY (λh=>?_) λh=>?_
  ·refine⟨_,_,rfl,rfl,?_⟩;have e:decide (n<=1023)=decide (0<=n/\n<=1023):=by by_cases q:n<=1023<;>simp[q,h]
   show Q (V.bl (decide (n<=1023))) H;rw[e];exact k
  ·have e:decide (0<=n/\n<=1023)=false:=by simp;omega
   rw[e]at k;exact k
def rg(C:Addr):Sp:=λvs H Q _=>∃(p:Addr)(D:SD)(s:State),vs=[.ref p]/\fG C H p D s/\∀H',Same H H'->Q (.int (load s.valid:Nat)) H'
theorem Bn{f C:Addr}{fd:FuncData}(F:eJ K "load_of" "load_of" oY f fd)(T:gE K C)(b1:mg "sum"=none)(b2:mg "len"=none):ck P w K mg base eY 1 f fd ["store"] (rg C):=by
 refine F.ok vh ?_ ?_
 ·rintro vs H Q E⟨p,D,s,rfl,_⟩;rfl
 ·rintro cdv A outer s H vs Q E hr⟨p,D,s,rfl,S,k⟩;have nd:=vh.nd;have hu:=eM hr;refine⟨_,aw (aL (bz (Ed rfl) (by rfl) b1 Ez (ai (mn (gN (own:=[("place",1)]) rfl nd (e9 (sA (K:=K) rfl (pv 0) rfl)) (ei xK (aH oY) rfl rfl (by decide+kernel)) (λs H C cl fp=>bJ (i:=1) nd rfl (Or.inl rfl)) (λs H C cl fp=>eD) (λs H C cl fp=>bz (lE (K:=K) rfl) (by rfl) b2 bf (ai (cp hu (sA (K:=K) rfl (pv 0) rfl) (pv 1) (λ_ _=>rfl)) au)))) au))),?_⟩;have hne:p≠D.ah:=cn S.ob S.h1 (λz=>nomatch z);refine yQ (d:=D.ah) (kvs:=rows D.lh) S.h1 (λod R h=>⟨_,rfl,p,C,D.dx,_,_,rfl,by rw[aA hne];exact S.ob,T.cl,T.n2,fc ..,h⟩) (λod L i H'=>Same (upd H D.ah (.frz od (.dK (rows D.lh)))) H'/\H' D.ah=some (.frz od (.dK (rows D.lh)))/\H' L=some (.lst ((D.dh.take i).map λx=>V.int (x.2.length:Nat)))) ?_ (λ_ _ _ _ h=>h.2.1) ?_ ?_
  ·intro od L hL;have n1:L≠D.ah:=(aB S.h1 hL).symm;exact⟨aC (by rw[aA n1];exact hL),by rw[aA n1.symm,ao],ao⟩
  ·rintro od L i k' v H' hL hi⟨sm,hd,hq⟩;obtain⟨x,hx,rfl,rfl⟩:=fz hi;have bt:=g8.lock sm;obtain⟨r,hr',e1,e2⟩:=dM S.t1 hx;have nd':(D.lh.map λx=>x.1).Nodup:=by rw[S.t1.keys];exact S.r1.nd
   have hv:=fF nd' hx;have n2:x.2≠D.ah:=cn e2 S.h1 (λz=>nomatch z);refine⟨rfl,zV ⟨_,rfl,p,C,D.dx,_,_,rfl,bt _ _ S.ob hne,T.cl,T.n2,fc ..,_,rfl,D.ah,V.ref x.2,rfl,?_,x.2,tx r.2,rfl,bZ.of (bt _ _ e2 n2),_,hq,?_,?_,?_,?_⟩⟩
   ·have g:=cf (k:=Sum.inl (x.1:Int)) (Or.inr ⟨od,hd⟩:Rd H' D.ah (.dK (rows D.lh)));rw[hv]at g;exact g
   ·rw[ae];refine bW (ay (br ..) (ay S.vlen (by decide)))
   ·have n1:L≠D.ah:=(aB S.h1 hL).symm;exact sm.new (by rw[aA n1];exact hL)
   ·have n1:L≠D.ah:=(aB S.h1 hL).symm;rw[aA n1.symm];exact hd
   ·rw[ao,aT,hr'];simp[tx]
  ·rintro od L H' hL⟨sm,hd,hq⟩;have n1:L≠D.ah:=(aB S.h1 hL).symm;have hl:(rows D.lh).length=D.dh.length:=by unfold rows;rw[ae];exact S.t1.len
   rw[hl,aZ]at hq;have e1:(D.dh.map λx=>V.int (x.2.length:Nat))=(D.dh.map λx=>(x.2.length:Int)).map V.int:=by rw[aK];rfl
   refine⟨L,D.dh.map λx=>(x.2.length:Int),rfl,bZ.of (by rw[aA n1,hq,e1]),?_⟩;have e2:(D.dh.map λx=>(x.2.length:Int)).sum=(load s.valid:Nat):=by rw[<-S.r1.load,u4];exact vO _
   rw[e2];exact k _ (sm.unlock S.h1)
end
end Wk
namespace Wk
open PySem PySem.Spec PyProof.Rows L2 WkR
theorem lF{K:aj}{a:Addr}{xs:List V}{g:TG}{te:TE}{vs:List Nat}{σ:L2.St}{H1:Hp}{D:Addr}{Qd:Hp->Prop}(out:List V)(hout:out.length=xs.length)(hsz:xs.length<=100000)(hD:H1 D=none)(hx:bZ K H1 a xs)(hs:∀(i:Nat)(x y:V)(H':Hp)(R:V->Hp->Prop),xs[i]?=some x->out[i]?=some y->Same H1 H'->(∀H'',Same H' H''->R y H'')->g x (wipe σ vs) H' λσ2 H2=>wipe σ2 vs=wipe σ vs/\te σ2 H2 R)(gm:∀x σ H Q Q',(∀σ2 H2,Q σ2 H2->Q' σ2 H2)->g x σ H Q->g x σ H Q')(hd:∀H',Same H1 H'->H' D=some (.lst out)->Qd H'):∃W:Nat->Nat->Hp->Prop,(∃m,W 0 m (upd H1 D (.lst [])))/\∀i m H,W i m H->((BR K a).stop i H/\Qd H)\/((BR K a).go i H/\∃Nx:Hp->Prop,(∀H',Nx H'->∃m',m'<m/\W (i+1) m' H')/\∀x H',(BR K a).yld i H x H'->g x (wipe σ vs) H' λσ2 H2=>wipe σ2 vs=wipe σ vs/\CN σ2 H2 λb H3=>
    if b=true then te σ2 H3 λy H4=>∃acc,H4 D=some (.lst acc)/\acc.length<sizeLine/\Nx (upd H4 D (.lst (acc++[y])))else Nx H3):=by
 refine yj (λi H'=>Same H1 H'/\H' D=some (.lst (out.take i))) ⟨aC hD,ao⟩ (λi H' _ h=>h.1.seq hx) ?_ ?_
 ·rintro i x H' hi⟨sm,hq⟩;obtain⟨y,hy⟩:∃y,out[i]?=some y:=⟨_,bu (by rw[hout];exact(aM.mp hi).1)⟩;refine gm _ _ _ _ _ (λσ2 H2 h=>⟨h.1,zV h.2⟩) (hs i x y H' _ hi hy sm λH'' s2=>⟨_,s2 _ _ hq,?_,(sm.trans s2).new hD,?_⟩)
  ·exact bW (ay (br ..) (by omega))
  ·rw[ao,aT,hy];rfl
 ·rintro H'⟨sm,hq⟩;rw[<-hout,aZ]at hq;exact hd H' sm hq
theorem iA{i:Nat}:∀x σ H Q Q',(∀σ2 H2,Q σ2 H2->Q' σ2 H2)->kJ i x σ H Q->kJ i x σ H Q':=λx σ H Q Q' h q=>h _ _ q
theorem xT{K:aj}{a:Addr}{xs:List V}{j:Nat}{tt:TT}{vs:List Nat}{σ:L2.St}{H1:Hp}{D:Addr}{Qd:Hp->Prop}(keep:V->Bool)(hj:j<σ.length)(hw:∀x,wipe ((wipe σ vs).set j (some x)) vs=wipe σ vs)(hsz:xs.length<=100000)(hD:H1 D=none)(hx:bZ K H1 a xs)(hs:∀(i:Nat)(x:V)(H':Hp)(R:Bool->Hp->Prop),xs[i]?=some x->Same H1 H'->(∀H'',Same H' H''->R (keep x) H'')->tt ((wipe σ vs).set j (some x)) H' R)(hd:∀H',Same H1 H'->H' D=some (.lst (xs.filter keep))->Qd H'):∃W:Nat->Nat->Hp->Prop,(∃m,W 0 m (upd H1 D (.lst [])))/\∀i m H,W i m H->((BR K a).stop i H/\Qd H)\/((BR K a).go i H/\∃Nx:Hp->Prop,(∀H',Nx H'->∃m',m'<m/\W (i+1) m' H')/\∀x H',(BR K a).yld i H x H'->kJ j x (wipe σ vs) H' λσ2 H2=>wipe σ2 vs=wipe σ vs/\tt σ2 H2 λb H3=>
    if b=true then fg j σ2 H3 λy H4=>∃acc,H4 D=some (.lst acc)/\acc.length<sizeLine/\Nx (upd H4 D (.lst (acc++[y])))else Nx H3):=by
 refine yj (λi H'=>Same H1 H'/\H' D=some (.lst ((xs.take i).filter keep))) ⟨aC hD,ao⟩ (λi H' _ h=>h.1.seq hx) ?_ ?_
 ·rintro i x H' hi⟨sm,hq⟩;refine⟨hw x,hs i x H' _ hi sm λH'' s2=>?_⟩;have e:xs.take (i+1)=xs.take i++[x]:=by rw[aT,hi];rfl
  refine ED (λhk=>⟨x,?_,_,s2 _ _ hq,?_,(sm.trans s2).new hD,?_⟩) λhk=>⟨sm.trans s2,?_⟩
  ·rw[eS (by rw[hZ];exact hj)]
  ·exact bW (ay (bp ..) (ay (br ..) hsz))
  ·rw[ao,e,dC,cw,if_pos hk];rfl
  ·rw[e,dC,cw,if_neg (by rw[hk];exact aI),Jt,cP];exact s2 _ _ hq
 ·rintro H'⟨sm,hq⟩;rw[aZ]at hq;exact hd H' sm hq
abbrev lk(H:Hp)(d:Addr)(od:Obj)(kvs:List (Key×V)):Hp:=upd H d (.frz od (.dK kvs))
theorem fP{H:Hp}{d L:Addr}{od:Obj}{kvs:List (Key×V)}(hd:H d=some (.dK kvs))(hL:H L=none):lk H d od kvs L=none:=by have n1:L≠d:=(aB hd hL).symm;show upd H d _ L=none;rw[aA n1];exact hL
theorem Gi{td:TE}{g:TG}{te:TE}{vs:List Nat}{σ:L2.St}{H:Hp}{Q:VK}{d:Addr}{kvs:List (Key×V)}(out:List V)(hout:out.length=kvs.length)(hsz:kvs.length<=100000)(hd:H d=some (.dK kvs))(htd:∀od(R:V->Hp->Prop),R (.ref d) (lk H d od kvs)->td σ (lk H d od kvs) R)(hs:∀(od:Obj)(i:Nat)(k:Key)(v y:V)(H':Hp)(R:V->Hp->Prop),kvs[i]?=some (k,v)->out[i]?=some y->Same (lk H d od kvs) H'->(∀H'',Same H' H''->R y H'')->g (kV k) (wipe σ vs) H' λσ2 H2=>wipe σ2 vs=wipe σ vs/\te σ2 H2 R)(gm:∀x σ H Q Q',(∀σ2 H2,Q σ2 H2->Q' σ2 H2)->g x σ H Q->g x σ H Q')(hf:∀H' L,Same H H'->H L=none->H' L=some (.lst out)->Q (.ref L) H'):yl (GW (zH td) g CN te vs) σ H Q:=by
 refine yQ hd htd (λod L i H'=>Same (lk H d od kvs) H'/\H' L=some (.lst (out.take i))) (λod L hL=>⟨aC (fP hd hL),ao⟩) (λ_ _ _ _ h=>h.1 _ _ ao) ?_ ?_
 ·rintro od L i k v H' hL hi⟨sm,hq⟩;obtain⟨y,hy⟩:∃y,out[i]?=some y:=⟨_,bu (by rw[hout];exact(aM.mp hi).1)⟩;refine gm _ _ _ _ _ (λσ2 H2 h=>⟨h.1,zV h.2⟩) (hs od i k v y H' _ hi hy sm λH'' s2=>⟨_,s2 _ _ hq,?_,(sm.trans s2).new (fP hd hL),?_⟩)
  ·exact bW (ay (br ..) (by omega))
  ·rw[ao,aT,hy];rfl
 ·rintro od L H' hL⟨sm,hq⟩;rw[<-hout,aZ]at hq;have n1:L≠d:=(aB hd hL).symm;exact hf _ L (sm.unlock hd) hL (by rw[aA n1];exact hq)
theorem mN{td:TE}{j:Nat}{tt:TT}{vs:List Nat}{σ:L2.St}{H:Hp}{Q:VK}{d:Addr}{kvs:List (Key×V)}(keep:Key->Bool)(hj:j<σ.length)(hw:∀x,wipe ((wipe σ vs).set j (some x)) vs=wipe σ vs)(hsz:kvs.length<=100000)(hd:H d=some (.dK kvs))(htd:∀od(R:V->Hp->Prop),R (.ref d) (lk H d od kvs)->td σ (lk H d od kvs) R)(hs:∀(od:Obj)(i:Nat)(k:Key)(v:V)(H':Hp)(R:Bool->Hp->Prop),kvs[i]?=some (k,v)->Same (lk H d od kvs) H'->(∀H'',Same H' H''->R (keep k) H'')->tt ((wipe σ vs).set j (some (kV k))) H' R)(hf:∀H' L,Same H H'->H L=none->H' L=some (.lst (((kvs.map (·.1)).filter keep).map kV))->Q (.ref L) H'):yl (GW (zH td) (kJ j) tt (fg j) vs) σ H Q:=by
 refine yQ hd htd (λod L i H'=>Same (lk H d od kvs) H'/\H' L=some (.lst ((((kvs.map (·.1)).take i).filter keep).map kV))) (λod L hL=>⟨aC (fP hd hL),ao⟩) (λ_ _ _ _ h=>h.1 _ _ ao) ?_ ?_
 ·rintro od L i k v H' hL hi⟨sm,hq⟩;refine⟨hw _,hs od i k v H' _ hi sm λH'' s2=>?_⟩;have e:(kvs.map (·.1)).take (i+1)=(kvs.map (·.1)).take i++[k]:=by rw[aT,a9,hi];rfl
  refine ED (λhk=>⟨kV k,?_,_,s2 _ _ hq,?_,(sm.trans s2).new (fP hd hL),?_⟩) λhk=>⟨sm.trans s2,?_⟩
  ·rw[eS (by rw[hZ];exact hj)]
  ·rw[ae];exact bW (ay (bp ..) (ay (br ..) (by rw[ae];exact hsz)))
  ·rw[ao,e,dC,cw,if_pos hk,aW];rfl
  ·rw[e,dC,cw,if_neg (by rw[hk];exact aI),Jt,cP];exact s2 _ _ hq
 ·rintro od L H' hL⟨sm,hq⟩;rw[<-ae (f:=(·.1)),aZ]at hq;have n1:L≠d:=(aB hd hL).symm;exact hf _ L (sm.unlock hd) hL (by rw[aA n1];exact hq)
end Wk
namespace Wk
open PySem PySem.Spec PyProof.Rows L2 WkR
open Vastof (Held State load validPlace looked PLACE ABSENT LIMIT placesOf)
def EK{α:Type}(r:Except Int α):Int:=match r with
 |.ok _=>0
 |.error e=>e
def kt(l:List Nat):List (Key×V):=l.map λ(n:Nat)=>((Sum.inl (n:Int):Key),V.bl true)
theorem lG(n:Nat):∀l:List Nat,dZ (kt l) (Sum.inl (n:Int))=if n∈l then some (V.bl true)else none
 |[]=>rfl
 |m::l=>by
  by_cases h:m=n
  ·subst h;rw[if_pos (aY ..)];exact eu (p:=((Sum.inl (m:Int):Key),V.bl true)) rfl
  ·have e:dZ (kt (m::l)) (Sum.inl (n:Int))=dZ (kt l) (Sum.inl (n:Int)):=eA (p:=((Sum.inl (m:Int):Key),V.bl true)) (λz=>h (by have:=f7 z;omega));rw[e,lG n l];have h':¬n=m:=λz=>h z.symm;simp[h']
theorem vP{l:List Nat}{n:Nat}(h:n∈l):putK (kt l) (Sum.inl (n:Int)) (V.bl true)=kt l:=by unfold putK;rw[jY,lG,if_pos h];show(if true=true then _ else _)=_;rw[if_pos rfl];unfold kt;rw[aK];refine bK λm hm=>?_;show(if(Sum.inl (m:Int):Key)=Sum.inl (n:Int)then _ else _)=_;split<;>rfl
theorem ku{l:List Nat}{n:Nat}(h:n∉l):putK (kt l) (Sum.inl (n:Int)) (V.bl true)=kt (l++[n]):=by rw[uK _ (by rw[lG,if_neg h])];unfold kt;rw[aW];rfl
theorem Ha(l:List Nat):DI (kt l) (l.map λ(n:Nat)=>(n:Int)):=by unfold DI kt;rw[aK,aK];rfl
section
variable {P:Program}{w:World}{K:aj}{mg:Str->Option Value}{base:Heap}
def fH(C:Addr):Sp:=λvs H Q _=>∃(q:Addr)(z:Int)(D:SD)(s:State),vs=[.ref q,.int z]/\fG C H q D s/\Q (.int (EK (validPlace s z))) H
theorem sD{f C:Addr}{fd:FuncData}(F:eJ K "place_refusal" "place_refusal" jq f fd)(T:gE K C)(g1:GI mg "PLACE" (-1))(g2:GI mg "ABSENT" (-7))(g3:GI mg "NO_REFUSAL" 0)(C1:dc P w K mg base 1 "is_place" ["number"] jV):ck P w K mg base eY 2 f fd ["store","p"] (fH C):=by
 refine F.ok rW ?_ ?_
 ·rintro vs H Q E⟨q,z,D,s,rfl,_⟩;rfl
 ·rintro cdv A outer s H vs Q E hr⟨q,z,D,s,rfl,S,k⟩;have hu:=eM hr;refine⟨_,aq (bH (jj (fh (aS C1 hr (ai (pv 1) au)))) (aw (aL (bw g1))) aX) (aq (bH (gI (gw hu (pv 1) (cI (pv 0) rfl))) (aw (aL (bw g2))) aX) (aw (aL (bw g3)))),?_⟩;refine⟨_,rfl,z,rfl,_,rfl,?_⟩;rcases gD s z with⟨h1,h2⟩|⟨x,rfl,h1,h2⟩
  ·rw[h2]at k;refine eP (λ_=>k) λh=>absurd h h1
  ·refine eP (λh=>absurd ⟨by omega,by omega⟩ h) λ_=>?_;refine⟨_,rfl,_,rfl,q,C,D.dx,_,_,rfl,S.ob,T.cl,T.n2,fc ..,D.ah,_,rfl,cf (k:=Sum.inl (x:Int)) (.inl S.h1),_,rfl,?_⟩;rcases S.t1.get x with⟨a1,a2⟩|⟨ad,t,a1,a2,a3,a4⟩
   ·rw[a2];have n1:x∉placesOf s.valid:=λm=>a1 (S.r1.places.mpr m);rcases h2 with⟨_,h2⟩|⟨h3,_⟩
    ·rw[h2]at k;exact iE k
    ·exact absurd h3 n1
   ·rw[a3];have n1:x∈placesOf s.valid:=S.r1.places.mp (b0.mpr ⟨t,a1⟩);rcases h2 with⟨h3,_⟩|⟨_,h2⟩
    ·exact absurd n1 h3
    ·rw[h2]at k;exact gx k
def dA(K:aj)(C:Addr):Sp:=λvs H Q _=>∃(q a:Addr)(zs:List Int)(D:SD)(s:State),vs=[.ref q,.ref a]/\fG C H q D s/\bZ K H a (zs.map V.int)/\zs.length<=100000/\∀H',Same H H'->Q (.int (EK (looked s zs))) H'
theorem ud{f C:Addr}{fd:FuncData}(F:eJ K "list_refusal" "list_refusal" gh f fd)(T:gE K C)(b1:mg "len"=none)(b2:mg "all"=none)(g0:GI mg "LIST_LIMIT" 64)(g1:GI mg "PLACE" (-1))(g2:GI mg "ABSENT" (-7))(g3:GI mg "NO_REFUSAL" 0)(g4:GI mg "LIMIT" (-9))(C1:dc P w K mg base 1 "is_place" ["number"] jV):ck P w K mg base eY 2 f fd ["store","places"] (dA K C):=by
 refine F.ok mZ ?_ ?_
 ·rintro vs H Q E⟨q,a,zs,D,s,rfl,_⟩;rfl
 ·rintro cdv A outer s H vs Q E hr⟨q,a,zs,D,s,rfl,S,hS,hz,k⟩;have hu:=eM hr;have nd:=mZ.nd;refine⟨_,aq (bH (bh je (bz (lE (K:=K) rfl) (by rfl) b1 bf (ai (pv 1) au)) (bw g0) (bC _)) (aw (aL (bw g4))) aX) (aq (bH (jj (fh (bz (yh rfl) (by rfl) b2 yG (ai (gN (own:=[("place",2)]) rfl nd (cK (pv 1)) (ei j7 (aH gh) rfl rfl (by decide+kernel)) (λs H C cl fp=>bJ (i:=2) nd rfl (Or.inl rfl)) (λs H C cl fp=>eD) (λs H C cl fp=>aS C1 hr (ai (pv 2) au))) au)))) (aw (aL (bw g1))) aX) (aq (bH (jj (fh (bz (yh rfl) (by rfl) b2 yG (ai (gN (own:=[("place",2)]) rfl nd (cK (pv 1)) (ei j7 (aH gh) rfl rfl (by decide+kernel)) (λs H C cl fp=>bJ (i:=2) nd rfl (Or.inl rfl)) (λs H C cl fp=>eD) (λs H C cl fp=>uA (nY hu (pv 2) (sA (K:=K) rfl (pv 0) rfl)))) au)))) (aw (aL (bw g2))) aX) (aw (aL (bw g3))))),?_⟩;refine⟨_,rfl,a,_,rfl,hS,_,_,rfl,rfl,_,rfl,?_⟩;rw[ae];rcases mC s zs with⟨h1,h2⟩|⟨h0,h1,h2⟩|⟨h0,x,rfl,h1,h2⟩
  ·rw[h2]at k;exact wQ (by omega) (k H (Same.refl H))
  ·rw[h2]at k;refine i8 (by omega) ?_;refine⟨_,rfl,a,rfl,⟨_,hS⟩,λL hL=>lF (zs.map λz=>V.bl (decide (0<=z/\z<=1023))) (by simp) (by simpa using hz) hL hS (λi x y H' R hx hy sm cont=>?_) iA λH' sm hq=>?_⟩
   ·obtain⟨z,hz',rfl⟩:=cD hx;obtain⟨z',hz'',rfl⟩:=cD hy;rw[hz']at hz'';cases hz'';exact⟨rfl,_,rfl,z,rfl,cont H' (Same.refl _)⟩
   ·refine⟨L,zs.map λz=>decide (0<=z/\z<=1023),rfl,bZ.of (by rw[hq,aK];rfl),_,rfl,?_⟩;have e:(zs.map λz=>decide (0<=z/\z<=1023)).all id=false:=by obtain⟨p,hp,hn⟩:=h1;rw[IA];exact⟨false,az.mpr ⟨p,hp,by simpa using hn⟩,by simp⟩
    rw[e];exact iE (k H' sm)
  ·refine i8 (by rw[ae]at h0;simp at*;omega) ?_;refine⟨_,rfl,a,rfl,⟨_,hS⟩,λL hL=>lF ((x.map λ(n:Nat)=>(n:Int)).map λz=>V.bl (decide (0<=z/\z<=1023))) (by simp) (by simpa using hz) hL hS (λi x y H' R hx hy sm cont=>?_) iA λH' sm hq=>?_⟩
   ·obtain⟨z,hz',rfl⟩:=cD hx;obtain⟨z',hz'',rfl⟩:=cD hy;rw[hz']at hz'';cases hz'';exact⟨rfl,_,rfl,z,rfl,cont H' (Same.refl _)⟩
   ·refine⟨L,(x.map λ(n:Nat)=>(n:Int)).map λz=>decide (0<=z/\z<=1023),rfl,bZ.of (by rw[hq];simp[aK,Function.comp_def]),_,rfl,?_⟩;have e:((x.map λ(n:Nat)=>(n:Int)).map λz=>decide (0<=z/\z<=1023)).all id=true:=by rw[bU];intro b hb;simp only[aK,az]at hb;obtain⟨n,hn,rfl⟩:=hb;have:=h1 n hn;simp;omega
    rw[e];refine gx ?_;refine⟨_,rfl,a,rfl,⟨_,sm.seq hS⟩,λL2 hL2=>lF (x.map λn=>V.bl (decide (n∈placesOf s.valid))) (by simp) (by simpa using hz) hL2 (sm.seq hS) (λi x' y H2 R hx hy sm2 cont=>?_) iA λH2 sm2 hq2=>?_⟩
    ·obtain⟨z,hz',rfl⟩:=cD hx;obtain⟨n,hn,rfl⟩:=cD hz';obtain⟨n',hn',rfl⟩:=cD hy;rw[hn]at hn';cases hn';have S2:=(S.same sm).same sm2;refine⟨rfl,_,rfl,_,rfl,q,C,D.dx,_,_,rfl,S2.ob,T.cl,T.n2,fc ..,D.ah,_,rfl,cf (k:=Sum.inl (n:Int)) (.inl S2.h1),?_⟩;have e2:(dZ (rows D.lh) (Sum.inl (n:Int))).isSome=decide (n∈placesOf s.valid):=by
      rcases S.t1.get n with⟨a1,a2⟩|⟨ad,t,a1,a2,a3,a4⟩
      ·rw[a2];have n1:n∉placesOf s.valid:=λm=>a1 (S.r1.places.mpr m);simp[n1]
      ·rw[a3];have n1:n∈placesOf s.valid:=S.r1.places.mp (b0.mpr ⟨t,a1⟩);simp[n1]
     rw[e2];exact cont H2 (Same.refl _)
    ·refine⟨L2,x.map λn=>decide (n∈placesOf s.valid),rfl,bZ.of (by rw[hq2,aK];rfl),_,rfl,?_⟩;rcases h2 with⟨⟨n,hn,hn2⟩,h2⟩|⟨h3,h2⟩
     ·rw[h2]at k;have e:(x.map λn=>decide (n∈placesOf s.valid)).all id=false:=by rw[IA];exact⟨false,az.mpr ⟨n,hn,by simpa using hn2⟩,by simp⟩
      rw[e];exact iE (k H2 (sm.trans sm2))
     ·rw[h2]at k;have e:(x.map λn=>decide (n∈placesOf s.valid)).all id=true:=by rw[bU];intro b hb;obtain⟨n,hn,rfl⟩:=az.mp hb;simp[h3 n hn]
      rw[e];exact gx (k H2 (sm.trans sm2))
end
end Wk
namespace Wk
open PySem PySem.Spec PyProof.Rows L2 WkR
open Vastof (Held State load placesOf)
section
variable {P:Program}{w:World}{K:aj}{mg:Str->Option Value}{base:Heap}
def oF(K:aj):Sp:=λvs H Q _=>∃(a:Addr)(l:List Nat),vs=[.ref a]/\bZ K H a (tx l)/\l.length<=100000/\∀H' d l',Same H H'->H d=none->H' d=some (.dK (kt l'))->l'.Nodup->(∀n,n∈l'↔n∈l)->Q (.ref d) H'
theorem Bo{f:Addr}{fd:FuncData}(F:eJ K "keys_of" "keys_of" rZ f fd):ck P w K mg base eY 1 f fd ["places"] (oF K):=by
 refine F.ok vo ?_ ?_
 ·rintro vs H Q E⟨a,l,rfl,_⟩;rfl
 ·rintro cdv A outer s H vs Q E hr⟨a,l,rfl,hS,hl,k⟩;have hu:=eM hr;have nd:=vo.nd;refine⟨_,aq (ba (i:=1) nd rfl (Or.inl rfl) cW) (aq (dI PassesOwn.never rfl (cK (pv 0)) (bJ (i:=2) nd rfl (Or.inl rfl)) (aw (d9 hu (pv 1) (pv 2) iI rfl))) (aw (aL (pv 1)))),?_⟩;intro d hd;refine⟨_,rfl,a,rfl,⟨_,(aC hd).seq hS⟩,eK (K:=K) (a:=a) (xs:=tx l) (λi σ' H'=>∃(v:Option V)(l':List Nat),σ'=[some (.ref a),some (.ref d),v]/\Same H H'/\H' d=some (.dK (kt l'))/\l'.Nodup/\(∀n,n∈l'↔n∈l.take i)/\l'.length<=i) ⟨none,[],rfl,aC hd,ao,cA,by simp,by simp⟩ (λi σ' H' _⟨_,_,_,sm,_⟩=>sm.seq hS) ?_ ?_⟩
  ·rintro i x σ' H' hx⟨v,l',rfl,sm,hq,hn,hm,hln⟩;obtain⟨n,hn',rfl⟩:=cD hx;have hi:i<l.length:=(aM.mp hn').1;have e:l.take (i+1)=l.take i++[n]:=by rw[aT,hn'];rfl
   refine⟨_,rfl,_,rfl,d,_,rfl,kD.k (k:=Sum.inl (n:Int)) hq ?_,?_⟩
   ·unfold kt;rw[ae];exact bW (by omega)
   ·by_cases hin:n∈l'
    ·refine⟨_,l',rfl,sm.new hd,by rw[ao,vP hin],hn,λm=>?_,by omega⟩;rw[hm m,e];simp;rintro rfl;exact(hm m).mp hin
    ·refine⟨_,l'++[n],rfl,sm.new hd,by rw[ao,ku hin],gz hn hin,λm=>?_,by simp;omega⟩;rw[e];simp[hm m]
  ·rintro σ' H'⟨v,l',rfl,sm,hq,hn,hm,hln⟩;rw[ae,aZ]at hm;exact⟨_,rfl,k H' d l' sm hd hq hn hm⟩
def HM(K:aj)(H:Hp)(a:Addr)(l:List Nat):Prop:=bZ K H a (tx l)\/∃r:List (Nat×Addr),H a=some (.dK (rows r))/\r.map (λx=>x.1)=l
def l4(K:aj):Sp:=λvs H Q _=>∃(a b:Addr)(l m:List Nat),vs=[.ref a,.ref b]/\HM K H a l/\bZ K H b (tx m)/\l.length<=100000/\m.length<=100000/\∀H' p,Same H H'->H p=none->H' p=some (.lst (tx (l.filter λn=>!m.contains n)))->Q (.ref p) H'
theorem Bp{f:Addr}{fd:FuncData}(F:eJ K "without" "without" lX f fd)(C1:dc P w K mg base 1 "keys_of" ["places"] (oF K)):ck P w K mg base eY 2 f fd ["places","others"] (l4 K):=by
 refine F.ok vq ?_ ?_
 ·rintro vs H Q E⟨a,b,l,m,rfl,_⟩;rfl
 ·rintro cdv A outer s H vs Q E hr⟨a,b,l,m,rfl,hw,hb,hl,hm,k⟩;have hu:=eM hr;have nd:=vq.nd;have key:∀l':List Nat,(∀n,n∈l'↔n∈m)->∀n:Nat,(!(dZ (kt l') (Sum.inl (n:Int))).isSome)=(!m.contains n):=λl' h n=>by
   rw[lG];by_cases z:n∈l'
   ·have:=(h n).mp z;simp[z,this]
   ·have:n∉m:=λq=>z ((h n).mpr q);simp[z,this]
  rcases hw with hS|⟨r,hd,rfl⟩
  ·refine⟨_,aq (ba (i:=2) nd rfl (Or.inr rfl) (aS C1 hr (ai (pv 1) au))) (aw (aL (gN (own:=[("place",3)]) rfl nd (cK (pv 0)) (ei r9 (aH lX) rfl rfl (by decide+kernel)) (λs H C cl fp=>bJ (i:=3) nd rfl (Or.inl rfl)) (λs H C cl fp=>oU (gI (gw hu (pv 3) (pv 2)))) (λs H C cl fp=>pv 3)))),?_⟩;refine⟨_,rfl,b,m,rfl,hb,hm,λH1 d l' s1 nd1 hd1 hn hm'=>?_⟩;refine⟨_,rfl,a,rfl,⟨_,s1.seq hS⟩,λL hL=>xT (xs:=tx l) (λv=>match v with|.int z=>!m.contains z.toNat|_=>false) (by show 3<4;decide) (λx=>rfl) (by rw[ae];exact hl) hL (s1.seq hS) (λi x H' R hx sm cont=>?_) λH' sm hq=>?_⟩
   ·obtain⟨n,hn',rfl⟩:=cD hx;refine⟨_,rfl,_,rfl,d,_,rfl,cf (k:=Sum.inl (n:Int)) (.inl (sm _ _ hd1)),_,rfl,?_⟩;rw[key l' hm' n];exact cont H' (Same.refl _)
   ·refine k H' L (s1.trans sm) (s1.free hL) ?_;rw[hq];congr 2;rw[cF];rfl
  ·refine⟨_,aq (ba (i:=2) nd rfl (Or.inr rfl) (aS C1 hr (ai (pv 1) au))) (aw (aL (mn (gN (own:=[("place",3)]) rfl nd (e9 (pv 0)) (ei r9 (aH lX) rfl rfl (by decide+kernel)) (λs H C cl fp=>bJ (i:=3) nd rfl (Or.inl rfl)) (λs H C cl fp=>oU (gI (gw hu (pv 3) (pv 2)))) (λs H C cl fp=>pv 3))))),?_⟩;refine⟨_,rfl,b,m,rfl,hb,hm,λH1 d l' s1 nd1 hd1 hn hm'=>?_⟩;have hne:d≠a:=λz=>by rw[z,hd]at nd1;cases nd1
   refine mN (d:=a) (kvs:=rows r) (λk=>match k with|.inl z=>!m.contains z.toNat|_=>false) (by show 3<4;decide) (λx=>rfl) (by rw[ae]at hl;unfold rows;rw[ae];exact hl) (s1 _ _ hd) (λod R h=>⟨_,rfl,h⟩) (λod i k' v H' R hi sm cont=>?_) λH' L sm hL hq=>?_
   ·obtain⟨x,hx,rfl,rfl⟩:=fz hi;refine⟨_,rfl,_,rfl,d,_,rfl,cf (k:=Sum.inl (x.1:Int)) (.inl (g8.lock sm _ _ hd1 hne)),_,rfl,?_⟩;rw[key l' hm' x.1];exact cont H' (Same.refl _)
   ·refine k H' L (s1.trans sm) (s1.free hL) ?_;rw[hq];congr 2;unfold rows tx;rw[aK,cF,cF,aK,aK];rfl
end
end Wk
namespace Wk
open PySem PySem.Spec PyProof.Rows L2 WkR
open Vastof (Held State load placesOf ruleOf)
theorem z5{α:Type}:∀(l:List α)(i:Nat),(iu l)[i]?=l[2*i]?
 |[],i=>by simp[iu]
 |[a],0=>rfl
 |[a],i+1=>by
  rw[du (by simp[iu]),du (by simp;omega)]
 |a::b::r,0=>rfl
 |a::b::r,i+1=>by rw[show 2*(i+1)=2*i+1+1 by omega];show(iu r)[i]?=r[2*i]?;exact z5 r i
theorem l6{α:Type}:∀(l:List α),(iu l).length=(l.length+1)/2
 |[]=>by simp[iu]
 |[a]=>by simp[iu]
 |a::b::r=>by show(iu r).length+1=_;rw[l6 r];simp;omega
theorem Cn:∀(r:List (Nat×Nat))(i:Nat)(x:Nat×Nat),r[i]?=some x->(r.flatMap λx=>[(x.1:Int),(x.2:Int)])[2*i]?=some (x.1:Int)/\(r.flatMap λx=>[(x.1:Int),(x.2:Int)])[2*i+1]?=some (x.2:Int)
 |[],i,x,h=>by simp at h
 |y::r,0,x,h=>by
  simp at h;subst h;exact⟨rfl,rfl⟩
 |y::r,i+1,x,h=>by have ih:=Cn r i x (by simpa using h);rw[show 2*(i+1)=2*i+1+1 by omega,show 2*i+1+1+1=(2*i+1)+1+1 by omega];exact ih
theorem vQ:∀(r:List (Nat×Nat)),(r.flatMap λx=>[(x.1:Int),(x.2:Int)]).length=2*r.length
 |[]=>rfl
 |y::r=>by show(r.flatMap λx=>[(x.1:Int),(x.2:Int)]).length+1+1=_;rw[vQ r];simp;omega
theorem rg2{n:Nat}(h:n<=100000):RgC 0 (n:Int) 2 ((n+1)/2):=by
 have e:Builtin.Range.rangeSize 0 (n:Int) 2=(((n+1)/2:Nat):Int):=by unfold Builtin.Range.rangeSize;rw[if_pos (by decide)];split<;>omega
 refine⟨by decide,by decide,?_,e⟩;unfold Builtin.Range.small;rw[e];unfold Builtin.Range.rangeFitsLong;simp;omega
section
variable {P:Program}{w:World}{K:aj}{mg:Str->Option Value}{base:Heap}
def EL(K:aj):Sp:=λvs H Q _=>∃(a:Addr)(zs:List Int),vs=[.ref a]/\bZ K H a (zs.map V.int)/\zs.length<=8000/\∀H' p,Same H H'->H p=none->H' p=some (.lst ((iu zs).map V.int))->Q (.ref p) H'
theorem Gj{f:Addr}{fd:FuncData}(F:eJ K "told_numbers" "told_numbers" iy f fd)(b1:mg "len"=none)(b2:mg "range"=none):ck P w K mg base eY 1 f fd ["rule"] (EL K):=by
 refine F.ok ni ?_ ?_
 ·rintro vs H Q E⟨a,zs,rfl,_⟩;rfl
 ·rintro cdv A outer s H vs Q E hr⟨a,zs,rfl,hS,hz,k⟩;have nd:=ni.nd;refine⟨_,aw (aL (gN (own:=[("index",1)]) rfl nd (xE (by rfl) b2 (ai bI (ai (bz (lE (K:=K) rfl) (by rfl) b1 bf (ai (pv 0) au)) (ai bI au)))) (ei oz (aH iy) rfl rfl (by decide+kernel)) (λs H C cl fp=>bJ (i:=1) nd rfl (Or.inl rfl)) (λs H C cl fp=>eD) (λs H C cl fp=>gM (ixL (K:=K) rfl) (pv 0) (pv 1) (λ_ _=>rfl)))),?_⟩;have hl:(zs.map V.int).length=zs.length:=ae ..;refine⟨_,rfl,a,_,rfl,hS,_,_,_,(zs.length+1)/2,rfl,by rw[hl];exact rg2 (by omega),λL hL=>?_⟩;refine yP (n:=(zs.length+1)/2) (item:=λi x=>x=V.int (0+(i:Nat)*2)) (λi H'=>Same H H'/\H' L=some (.lst (((iu zs).take i).map V.int))) ⟨aC hL,ao⟩ (λi H' _=>⟨λh=>h,λh=>by rw[h];exact aN _,λx H2 _ y=>y⟩) ?_ ?_
  ·rintro i x H' hi rfl⟨sm,hq⟩;have he:=z5 zs i;obtain⟨z,hz'⟩:∃z,(iu zs)[i]?=some z:=⟨_,bu (by rw[l6];exact hi)⟩;rw[hz']at he;refine⟨rfl,zV ⟨_,rfl,_,rfl,a,_,_,_,rfl,rfl,sm.seq hS,at_of (j:=2*i) (by omega) (by rw[a9,<-he];rfl),_,hq,?_,sm.new hL,?_⟩⟩
   ·rw[ae];refine bW (ay (br ..) ?_);rw[l6];omega
   ·rw[ao,aT,hz',aW];rfl
  ·rintro H'⟨sm,hq⟩;rw[<-l6,aZ]at hq;exact k H' L sm hL hq
def z7(K:aj):Sp:=λvs H Q _=>∃(a:Addr)(zs:List Int),vs=[.ref a]/\bZ K H a (zs.map V.int)/\zs.length<=8000/\∀H',Same H H'->Q (.bl (ruleOf zs).isSome) H'
theorem Bq{f:Addr}{fd:FuncData}(F:eJ K "is_rule" "is_rule" o5 f fd)(b1:mg "len"=none)(b2:mg "any"=none)(b3:mg "set"=none)(C1:dc P w K mg base 1 "told_numbers" ["rule"] (EL K)):ck P w K mg base eY 2 f fd ["rule"] (z7 K):=by
 refine F.ok vB ?_ ?_
 ·rintro vs H Q E⟨a,zs,rfl,_⟩;rfl
 ·rintro cdv A outer s H vs Q E hr⟨a,zs,rfl,hS,hz,k⟩;have nd:=vB.nd;refine⟨_,aq (bH (bh fA (cZ Hs (bz (lE (K:=K) rfl) (by rfl) b1 bf (ai (pv 0) au)) bI) bI (bC _)) (aw (aL iI)) aX) (aq (bH (fh (bz (yg rfl) (by rfl) b2 yH (ai (gN (own:=[("number",2)]) rfl nd (cK (pv 0)) (ei xQ (aH o5) rfl rfl (by decide+kernel)) (λs H C cl fp=>bJ (i:=2) nd rfl (Or.inl rfl)) (λs H C cl fp=>eD) (λs H C cl fp=>mi uE (pv 2) bI (bC _))) au))) (aw (aL iI)) aX) (aq (ba (i:=1) nd rfl (Or.inl rfl) (aS C1 hr (ai (pv 0) au))) (aw (aL (mi fA (bz xI (by rfl) b1 bf (ai (iL (yw rfl) (by rfl) b3 yF (ai (pv 1) au)) au)) (bz (lE (K:=K) rfl) (by rfl) b1 bf (ai (pv 1) au)) (bC _)))))),?_⟩;refine⟨_,rfl,a,_,rfl,hS,_,_,rfl,rfl,(by show(0:Int)<2;decide),rfl,_,rfl,?_⟩;have hl:(zs.map V.int).length=zs.length:=ae ..;have nl:∀{b:Bool},((ruleOf zs).isSome=b)->∀H',Same H H'->Q (.bl b) H':=λh H' s=>h▸k H' s;refine qY (λho=>?_) λho=>?_
  ·have ho:zs.length%2=1:=by rw[hl]at ho;injection ho with z;omega
   have e:ruleOf zs=none:=kQ.mpr (.inl (.inl ho));exact nl (by rw[e];rfl) H (Same.refl H)
  ·have ho:¬zs.length%2=1:=λq=>ho (by
    rw[hl];show V.int ((zs.length:Int)%2)=V.int 1;have:(zs.length:Int)%2=1:=by omega
    rw[this])
   refine⟨_,rfl,a,rfl,⟨_,hS⟩,λL hL=>lF (zs.map λz=>V.bl (decide (z<0))) (by simp) (by simp;omega) hL hS (λi x y H' R hx hy sm cont=>?_) iA λH' sm hq=>?_⟩
   ·obtain⟨z,hz',rfl⟩:=cD hx;obtain⟨z',hz'',rfl⟩:=cD hy;rw[hz']at hz'';cases hz'';exact⟨rfl,_,rfl,_,_,rfl,rfl,cont H' (Same.refl _)⟩
   ·refine⟨L,zs.map λz=>decide (z<0),rfl,bZ.of (by rw[hq,aK];rfl),_,rfl,?_⟩;refine ED (λhb=>?_) λhb=>?_
    ·have e:ruleOf zs=none:=kQ.mpr (.inl (.inr (by obtain⟨b,hb1,hb2⟩:=bY.mp hb;obtain⟨z,hz1,rfl⟩:=az.mp hb1;exact⟨z,hz1,by simpa using hb2⟩)));exact nl (by rw[e];rfl) H' sm
    ·have hneg:¬∃x∈zs,x<0:=by rintro⟨x,hx,hx0⟩;rw[gJ]at hb;exact hb _ (az.mpr ⟨x,hx,rfl⟩) (by simpa using hx0)
     refine⟨_,rfl,a,zs,rfl,sm.seq hS,hz,λH1 p1 s1 np1 hp1=>?_⟩;refine⟨_,rfl,p1,_,rfl,bZ.of hp1,?_,λq hq'=>?_⟩
     ·rw[l6];show _<4096;omega
     ·refine⟨q,_,rfl,ao,λm hm1 hm2=>?_⟩;refine⟨_,rfl,p1,_,rfl,bZ.of (aC hq' _ _ hp1),rfl,?_⟩;have e:decide (V.int (m:Int)=V.int (((iu zs).map V.int).length:Int))=(ruleOf zs).isSome:=by
       rw[ae];by_cases hnd:(iu zs).Nodup
       ·have e1:=hm2.mpr hnd;have e2:ruleOf zs≠none:=λq=>by
         rcases kQ.mp q with(z|z)|z
         ·exact ho z
         ·exact hneg z
         ·exact z hnd
        rw[e1];cases e3:ruleOf zs with
        |none=>exact absurd e3 e2
        |some _=>simp
       ·have e1:m≠(iu zs).length:=λq=>hnd (hm2.mp q);have e2:ruleOf zs=none:=kQ.mpr (.inr hnd);rw[e2];simp;omega
      rw[e];exact k _ ((sm.trans s1).trans (aC hq'))
def tN(K:aj):Sp:=λvs H Q _=>∃(a:Addr)(r:List (Nat×Nat)),vs=[.ref a]/\bZ K H a ((r.flatMap λx=>[(x.1:Int),(x.2:Int)]).map V.int)/\r.length<=4000/\(r.map λx=>x.1).Nodup/\∀H' d,Same H H'->H d=none->H' d=some (.dK (rk r))->Q (.ref d) H'
theorem wU{f:Addr}{fd:FuncData}(F:eJ K "rule_names" "rule_names" mK f fd)(b1:mg "len"=none)(b2:mg "range"=none):ck P w K mg base eY 1 f fd ["rule"] (tN K):=by
 refine F.ok pO ?_ ?_
 ·rintro vs H Q E⟨a,r,rfl,_⟩;rfl
 ·rintro cdv A outer s H vs Q E hr⟨a,r,rfl,hS,hz,hnd,k⟩;have nd:=pO.nd;have hu:=eM hr;refine⟨_,aq (ba (i:=1) nd rfl (Or.inl rfl) cW) (aq (dI PassesOwn.never rfl (xE (by rfl) b2 (ai bI (ai (bz (lE (K:=K) rfl) (by rfl) b1 bf (ai (pv 0) au)) (ai bI au)))) (bJ (i:=2) nd rfl (Or.inl rfl)) (aw (d9 hu (pv 1) (gM ig (pv 0) (pv 2) (λ_ _=>rfl)) (gM ig (pv 0) (cZ gc (pv 2) bI) (λ_ _=>rfl)) rfl))) (aw (aL (pv 1)))),?_⟩;intro d hd;have hl:((r.flatMap λx=>[(x.1:Int),(x.2:Int)]).map V.int).length=2*r.length:=by rw[ae,vQ]
  refine⟨_,rfl,a,_,rfl,(aC hd).seq hS,_,_,_,r.length,rfl,?_,?_⟩
  ·rw[hl];have:=rg2 (n:=2*r.length) (by omega);rw[show(2*r.length+1)/2=r.length by omega]at this;exact this
  ·refine AY (lo:=0) (c:=2) (n:=r.length) (λi σ' H'=>∃v:Option V,σ'=[some (.ref a),some (.ref d),v]/\Same H H'/\H' d=some (.dK (rk (r.take i)))) ⟨none,rfl,aC hd,ao⟩ ?_ ?_
   ·rintro i σ' H' hi⟨v,rfl,sm,hq⟩;obtain⟨x,hx⟩:∃x,r[i]?=some x:=⟨_,bu hi⟩;obtain⟨f1,f2⟩:=Cn r i x hx;have e:r.take (i+1)=r.take i++[x]:=by rw[aT,hx];rfl
    refine⟨_,rfl,_,rfl,_,_,rfl,rfl,a,_,_,_,rfl,rfl,sm.seq hS,at_of (j:=2*i+1) (by omega) (by rw[a9,f2];rfl),_,rfl,_,rfl,_,rfl,a,_,_,_,rfl,rfl,sm.seq hS,at_of (j:=2*i) (by omega) (by rw[a9,f1];rfl),d,_,rfl,kD.k (k:=Sum.inl (x.1:Int)) hq ?_,?_⟩
    ·unfold rk;rw[ae];exact bW (ay (br ..) (by omega))
    ·refine⟨_,rfl,sm.new hd,?_⟩;rw[ao,uK,e]
     ·unfold rk;rw[aW];rfl
     ·rw[q0];have:nm (r.take i) x.1=none:=by
       unfold nm;cases z:(r.take i).find? λy=>y.1==x.1 with
       |none=>rfl
       |some y=>
        exfalso
        have h1:=fI z
        have h2:=AE z
        have h3:y.1=x.1:=by simpa using h2
        have h4:(r.map λx=>x.1).take (i+1)=((r.take i).map λx=>x.1)++[x.1]:=by rw[<-iH,e,aW];rfl
        have h5:(((r.take i).map λx=>x.1)++[x.1]).Nodup:=h4▸hnd.sublist (b_ _ _)
        have h6:=be.mp h5
        exact h6.2.2 y.1 (az.mpr ⟨y,h1,rfl⟩) x.1 (by simp) h3
      rw[this];rfl
   ·rintro σ' H'⟨v,rfl,sm,hq⟩;rw[aZ]at hq;exact⟨_,rfl,k H' d sm hd hq⟩
end
end Wk
namespace Wk
open PySem PySem.Spec PyProof.Rows L2 WkR
open Vastof (Held State load placesOf clash broken fresh textAt has mentions)
theorem vR:∀ns:List Int,PyData.depthAll (ns.map PyData.int)=0
 |[]=>by simp[PyData.depthAll]
 |n::ns=>by simp[PyData.depthAll,PyData.depth,vR ns]
theorem shaped_ints(ns:List Int):SeqAt.shaped (.list (ns.map PyData.int))=true:=by unfold SeqAt.shaped;have h1:=canLayAll_ints ns;have h2:=vR ns;simp[PyData.canLay0,h1,PyData.depth,h2]
theorem z8:∀ns ms:List Int,PyData.eqvAll (ns.map PyData.int) (ms.map PyData.int)=decide (ns=ms)
 |[],[]=>by simp[PyData.eqvAll]
 |[],m::ms=>by simp[PyData.eqvAll]
 |n::ns,[]=>by simp[PyData.eqvAll]
 |n::ns,m::ms=>by
  simp only[bo,PyData.eqvAll,PyData.eqv,z8 ns ms];by_cases h:n=m
  ·subst h;simp
  ·simp[h]
theorem qk{K:aj}{H:Hp}:∀ns:List Int,uJ K H (ns.map V.int) (ns.map PyData.int)
 |[]=>.nil
 |n::ns=>.cons (.int n) (qk ns)
theorem de(t:List Nat):tx t=(t.map λ(n:Nat)=>(n:Int)).map V.int:=by simp[tx]
theorem cast_inj{t u:List Nat}(h:(t.map λ(n:Nat)=>(n:Int))=u.map λ(n:Nat)=>(n:Int)):t=u:=by
 induction t generalizing u with
 |nil=>cases u with
  |nil=>rfl
  |cons _ _=>simp at h
 |cons a t ih=>cases u with
  |nil=>simp at h
  |cons b u=>
   simp only[bo,List.cons.injEq]at h
   rw[ih h.2,show a=b by omega]
def rNeT(K:aj):R2:=λx y H Q=>∃a b t u,x=.ref a/\y=.ref b/\bZ K H a (tx t)/\bZ K H b (tx u)/\Q (.bl (t !=u)) H
theorem neT{X:Cx}{K:aj}(h:X.K=K)(hu:X.A.units+64<cLine):tU X (compareOp .NotEq) (rNeT K):=by
 subst h;intro pins s σ H x y v u Q I rx ry q;obtain⟨a,b,t,u',rfl,rfl,h1,h2,q⟩:=q;rw[de]at h1 h2;refine op_neD hu pins s σ H _ _ v u Q I rx ry ⟨_,_,.lst h1 (qk _),.lst h2 (qk _),shaped_ints _,shaped_ints _,?_⟩;have e:(!PyData.eqv (.list ((t.map λ(n:Nat)=>(n:Int)).map PyData.int)) (.list ((u'.map λ(n:Nat)=>(n:Int)).map PyData.int)))=(t !=u'):=by
  show(!PyData.eqvAll _ _)=_;rw[z8];by_cases z:t=u'
  ·subst z;simp
  ·have:¬(t.map λ(n:Nat)=>(n:Int))=u'.map λ(n:Nat)=>(n:Int):=λq=>z (cast_inj q);simp[z,this]
 rw[e];exact q
theorem hu64{A:Around}{k:Nat}(hr:cT k A):A.units+64<cLine:=by have:=hr.un;omega
structure z9(H:Hp)(D:SD)(b:Addr)(lb:List (Nat×Addr))(db:Held):Prop where
 hb:H b=some (.dK (rows lb))
 tb:gF H lb db
 ok:yp db
 n1:b≠D.ah
 n2:b≠D.ap
 n3:b≠D.ar
theorem z9.same{H H':Hp}{D:SD}{b:Addr}{lb:List (Nat×Addr)}{db:Held}(h:z9 H D b lb db)(m:Same H H'):z9 H' D b lb db:=⟨m _ _ h.hb,h.tb.same m,h.ok,h.n1,h.n2,h.n3⟩
theorem z9.len{H:Hp}{D:SD}{b:Addr}{lb:List (Nat×Addr)}{db:Held}(h:z9 H D b lb db):db.length<=1024:=by
 have:=jL h.ok.nd λx hx=>by obtain⟨t,ht⟩:=b0.mp hx;exact(h.ok.ok _ ht).1
 rw[placesOf,ae]at this;exact this
theorem z9.rlen{H:Hp}{D:SD}{b:Addr}{lb:List (Nat×Addr)}{db:Held}(h:z9 H D b lb db):(rows lb).length=db.length:=by unfold rows;rw[ae];exact h.tb.len
theorem z9.lnd{H:Hp}{D:SD}{b:Addr}{lb:List (Nat×Addr)}{db:Held}(h:z9 H D b lb db):(lb.map λx=>x.1).Nodup:=by rw[h.tb.keys];exact h.ok.nd
theorem oG{H:Hp}{l:List (Nat×Addr)}{d v:Held}(t1:gF H l d)(r1:DR d v)(n:Nat):(textAt v n=none/\n∉placesOf v/\dZ (rows l) (Sum.inl (n:Int))=none)\/∃a t,textAt v n=some t/\(n,t)∈v/\(n,a)∈l/\dZ (rows l) (Sum.inl (n:Int))=some (.ref a)/\H a=some (.lst (tx t)):=by
 rcases t1.get n with⟨a1,a2⟩|⟨ad,t,a1,a2,a3,a4⟩
 ·have n1:n∉placesOf v:=λm=>a1 (r1.places.mpr m);exact .inl ⟨n8.mpr n1,n1,a2⟩
 ·have m:=r1.mem.mp a1;exact .inr ⟨ad,t,(eg (cq r1.asc)).mpr m,m,a2,a3,a4⟩
section
variable {P:Program}{w:World}{K:aj}{mg:Str->Option Value}{base:Heap}
def xU(C:Addr):Sp:=λvs H Q _=>∃(q b:Addr)(D:SD)(s:State)(lb:List (Nat×Addr))(db:Held),vs=[.ref q,.ref b]/\fG C H q D s/\z9 H D b lb db/\∀H',Same H H'->Q (.bl (clash s db)) H'
theorem Br{f C:Addr}{fd:FuncData}(F:eJ K "clashes" "clashes" oZ f fd)(T:gE K C)(b1:mg "any"=none):ck P w K mg base eY 1 f fd ["store","batch"] (xU C):=by
 refine F.ok vi ?_ ?_
 ·rintro vs H Q E⟨q,b,D,s,lb,db,rfl,_⟩;rfl
 ·rintro cdv A outer s H vs Q E hr⟨q,b,D,s,lb,db,rfl,S,B,k⟩;have nd:=vi.nd;have hu:=eM hr;have h64:=hu64 hr;refine⟨_,aw (aL (bz (yg rfl) (by rfl) b1 yH (ai (mn (gN (own:=[("place",2)]) rfl nd (e9 (pv 1)) (ei xM (aH oZ) rfl rfl (by decide+kernel)) (λs H C cl fp=>bJ (i:=2) nd rfl (Or.inl rfl)) (λs H C cl fp=>eD) (λs H C cl fp=>DS (uA (nY hu (pv 2) (sA (K:=K) rfl (pv 0) rfl))) (AI (mi (neT (K:=K) rfl h64) (cp hu (sA (K:=K) rfl (pv 0) rfl) (pv 2) (λ_ _=>rfl)) (cp hu (pv 1) (pv 2) (λ_ _=>rfl)) (bC _)))))) au))),?_⟩;have hqb:q≠b:=cn S.ob B.hb (λz=>nomatch z);let cl:Nat×List Nat->Bool:=λx=>match textAt s.pins x.1 with
   |some b=>b !=x.2
   |none=>false
  refine Gi (d:=b) (kvs:=rows lb) (db.map λx=>V.bl (cl x)) (by rw[ae,B.rlen]) (by rw[B.rlen];have:=B.len;omega) B.hb (λod R h=>⟨_,rfl,h⟩) (λod i k' v y H' R hi hy sm cont=>?_) iA λH' L sm hL hq=>?_
  ·obtain⟨x,hx,rfl,rfl⟩:=fz hi;obtain⟨r,hr',rfl⟩:=cD hy;obtain⟨r',hr2,e1,e2⟩:=dM B.tb hx;rw[hr']at hr2;cases hr2;have bt:=g8.lock sm;have hbl:H' b=some (.frz od (.dK (rows lb))):=sm _ _ ao;refine⟨rfl,_,rfl,_,rfl,q,C,D.dx,_,_,rfl,bt _ _ S.ob hqb,T.cl,T.n3,o7 ..,D.ap,_,rfl,cf (k:=Sum.inl (x.1:Int)) (.inl (bt _ _ S.h2 B.n2.symm)),_,rfl,?_⟩;have hc:cl r=match textAt s.pins x.1 with
    |some b=>b !=r.2
    |none=>false:=by rw[e1]
   rcases oG S.t2 S.r2 x.1 with⟨a1,a2,a3⟩|⟨ad,t,a1,a2,a3,a4,a5⟩
   ·rw[a3];rw[a1]at hc;refine gx ?_;have hc':cl r=false:=hc;have c0:=cont H' (Same.refl _);rw[hc']at c0;exact c0
   ·rw[a4];rw[a1]at hc;have nb1:ad≠b:=cn a5 B.hb (λz=>nomatch z);have nb2:x.2≠b:=cn e2 B.hb (λz=>nomatch z);refine iE ⟨_,rfl,q,C,D.dx,_,_,rfl,bt _ _ S.ob hqb,T.cl,T.n3,o7 ..,_,rfl,D.ap,V.ref ad,rfl,?_,_,rfl,_,rfl,b,V.ref x.2,rfl,?_,ad,x.2,t,r.2,rfl,rfl,bZ.of (bt _ _ a5 nb1),bZ.of (bt _ _ e2 nb2),?_⟩
    ·have g:=cf (k:=Sum.inl (x.1:Int)) (.inl (bt _ _ S.h2 B.n2.symm):Rd H' D.ap (.dK (rows D.lp)));rw[a4]at g;exact g
    ·have g:=cf (k:=Sum.inl (x.1:Int)) (.inr ⟨od,hbl⟩:Rd H' b (.dK (rows lb)));rw[fF B.lnd hx]at g;exact g
    ·have hc':cl r=(t !=r.2):=hc;rw[<-hc'];exact cont H' (Same.refl _)
  ·refine⟨L,db.map cl,rfl,bZ.of (by rw[hq,aK];rfl),?_⟩;have e:(db.map cl).any id=clash s db:=by unfold clash;rw[xg];rfl
   rw[e];exact k H' sm
end
end Wk
namespace Wk
open PySem PySem.Spec PyProof.Rows L2 WkR
open Vastof (Held State load placesOf clash broken fresh textAt has mentions placeSet)
structure Iv(H:Hp)(D:SD)(b m:Addr)(lm:List (Nat×Addr))(db:Held):Prop where
 hm:H m=some (.dK (rows lm))
 tm:gF H lm (db.map λx=>(x.1,iF x.2))
 nb:m≠b
 n1:m≠D.ah
 n2:m≠D.ap
 n3:m≠D.ar
theorem Iv.same{H H':Hp}{D:SD}{b m:Addr}{lm:List (Nat×Addr)}{db:Held}(h:Iv H D b m lm db)(s:Same H H'):Iv H' D b m lm db:=⟨s _ _ h.hm,h.tm.same s,h.nb,h.n1,h.n2,h.n3⟩
theorem z_{t:List Nat}{n:Nat}:n∈iF t↔∃k∈mentions t,uT k=n:=by unfold iF;rw[bA,az]
theorem sE{n:Nat}(h:n<=1023):uT n=n:=by unfold uT;omega
theorem Bs{t:List Nat}(h:∀n∈mentions t,n<=1023):iF t=placeSet (mentions t):=by
 unfold iF;congr 1;conv=>rhs;rw[<-nN (mentions t)]
 exact bK λn hn=>sE (h n hn)
theorem EM(t:List Nat)(p:Nat->Bool)(hp:∀n,1023<n->p n=true):(iF t).any p=(mentions t).any p:=by
 rw[dX,bY,bY];constructor
 ·rintro⟨n,hn,h⟩;obtain⟨k,hk,e⟩:=z_.mp hn;by_cases z:k<=1023
  ·rw[sE z]at e;exact⟨k,hk,e▸h⟩
  ·exact⟨k,hk,hp k (by omega)⟩
 ·rintro⟨n,hn,h⟩;refine⟨uT n,z_.mpr ⟨n,hn,rfl⟩,?_⟩;by_cases z:n<=1023
  ·rw[sE z];exact h
  ·exact hp _ (by unfold uT;omega)
theorem EN(t:List Nat):(iF t).length<=(mentions t).length:=by have:=aO (l:=iF t) (m:=(mentions t).map uT) (cb _).nodup λx hx=>bA.mp hx;rw[ae]at this;exact this
theorem Gk{t:List Nat}(h:t.length<=4096):(iF t).length<=4096:=by
 have h1:=EN t;have h2:(mentions t).length=(spans t).length:=by have:=congrArg jc (k5 t);rw[ae,ae]at this;exact this.symm
 have h3:=(vJ t).2.2;omega
section
variable {P:Program}{w:World}{K:aj}{mg:Str->Option Value}{base:Heap}
def vS(C:Addr):Sp:=λvs H Q _=>∃(q b m:Addr)(D:SD)(s:State)(lb lm:List (Nat×Addr))(db:Held),vs=[.ref q,.ref b,.ref m]/\fG C H q D s/\z9 H D b lb db/\Iv H D b m lm db/\∀H',Same H H'->Q (.bl (broken s db)) H'
theorem yR{f C:Addr}{fd:FuncData}(F:eJ K "is_broken" "is_broken" kT f fd)(T:gE K C)(b1:mg "all"=none):ck P w K mg base eY 1 f fd ["store","batch","mentioned"] (vS C):=by
 refine F.ok qQ ?_ ?_
 ·rintro vs H Q E⟨q,b,m,D,s,lb,lm,db,rfl,_⟩;rfl
 ·rintro cdv A outer s H vs Q E hr⟨q,b,m,D,s,lb,lm,db,rfl,S,B,M,k⟩;have nd:=qQ.nd;have hu:=eM hr;refine⟨_,aq (il (dI PassesOwn.never rfl (e9 (pv 1)) (bJ (i:=3) nd rfl (Or.inl rfl)) (aw (bH (jj (fh (bz (yh rfl) (by rfl) b1 yG (ai (gN (own:=[("number",4)]) rfl nd (cK (cp hu (pv 2) (pv 3) (λ_ _=>rfl))) (ei tI (aH kT) rfl rfl (by decide+kernel)) (λs H C cl fp=>bJ (i:=4) nd rfl (Or.inl rfl)) (λs H C cl fp=>eD) (λs H C cl fp=>IE (uA (nY hu (pv 4) (sA (K:=K) rfl (pv 0) rfl))) (AI (uA (nY hu (pv 4) (pv 1)))))) au)))) (aw (aL iI)) aX)))) (aw (aL iI)),?_⟩;have hqb:q≠b:=cn S.ob B.hb (λz=>nomatch z);let bad:Nat->Bool:=λn=>!has s.valid n&&!has db n;have big:∀n,1023<n->bad n=true:=λn hn=>by
   have h1:has s.valid n=false:=by rw[dQ];intro z;have:=S.si.valid_le (e_.mp z);omega
   have h2:has db n=false:=by rw[dQ];intro z;obtain⟨t,ht⟩:=b0.mp (e_.mp z);have:=(B.ok.ok _ ht).1;simp at this;omega
   show(!has s.valid n&&!has db n)=true;rw[h1,h2];rfl
  have bro:broken s db=db.any λx=>(iF x.2).any bad:=by unfold broken;congr 1;funext x;rw[EM _ _ big]
  refine gT (d:=b) (kvs:=rows lb) B.hb (λod R h=>⟨_,rfl,h⟩) (λod i σ' H'=>∃v:Option V,σ'=[some (.ref q),some (.ref b),some (.ref m),v,none]/\Same (lk H b od (rows lb)) H'/\∀x∈db.take i,(iF x.2).any bad=false) (λod=>⟨none,rfl,Same.refl _,by simp⟩) (λod i σ' H'⟨_,_,sm,_⟩=>sm _ _ ao) ?_ ?_
  ·rintro od i k' v σ' H' hi⟨v3,rfl,sm,hno⟩;obtain⟨x,hx,rfl,rfl⟩:=fz hi;obtain⟨r,hr',e1,e2⟩:=dM B.tb hx;have bt:=g8.lock sm;have hbl:H' b=some (.frz od (.dK (rows lb))):=sm _ _ ao;have lnd:(lm.map λx=>x.1).Nodup:=by rw[M.tm.keys,aK];exact B.ok.nd
   obtain⟨y,hy⟩:∃y,lm[i]?=some y:=⟨_,bu (by rw[M.tm.len,ae];exact(aM.mp hr').1)⟩;obtain⟨r2,hr2,e3,e4⟩:=dM M.tm hy;rw[a9,hr']at hr2;cases hr2;have e5:y.1=x.1:=by rw[e3,e1]
   have e4:H y.2=some (.lst (tx (iF r.2))):=e4;have nyb:y.2≠b:=cn e4 B.hb (λz=>nomatch z);have htl:=(B.ok.ok r (aP hr')).2;have e:db.take (i+1)=db.take i++[r]:=by rw[aT,hr'];rfl
   refine⟨_,rfl,_,rfl,m,V.ref y.2,rfl,?_,y.2,rfl,⟨_,bZ.of (bt _ _ e4 nyb)⟩,λL hL=>lF ((iF r.2).map λn=>V.bl (!bad n)) (by simp) (by rw[ae];have:=Gk htl;omega) hL (bZ.of (bt _ _ e4 nyb)) (λj z y' H2 R hz hy' sm2 cont=>?_) iA λH2 sm2 hq=>?_⟩
   ·have g:=cf (k:=Sum.inl (y.1:Int)) (.inl (bt _ _ M.hm M.nb):Rd H' m (.dK (rows lm)));rw[fF lnd hy,e5]at g;exact g
   ·obtain⟨n,hn,rfl⟩:=cD hz;obtain⟨n',hn',rfl⟩:=cD hy';rw[hn]at hn';cases hn';have bt2:=bt.same sm2;refine⟨rfl,_,rfl,_,rfl,q,C,D.dx,_,_,rfl,bt2 _ _ S.ob hqb,T.cl,T.n2,fc ..,D.ah,_,rfl,cf (k:=Sum.inl (n:Int)) (.inl (bt2 _ _ S.h1 B.n1.symm)),_,rfl,?_⟩;rcases oG S.t1 S.r1 n with⟨a1,a2,a3⟩|⟨ad,t,a1,a2,a3,a4,a5⟩
    ·rw[a3];refine gx ⟨_,rfl,_,rfl,b,_,rfl,cf (k:=Sum.inl (n:Int)) (.inr ⟨od,sm2 _ _ hbl⟩),?_⟩;have h1:has s.valid n=false:=by rw[dQ];intro z;exact a2 (e_.mp z)
     have h2:(dZ (rows lb) (Sum.inl (n:Int))).isSome=has db n:=by
      rcases B.tb.get n with⟨c1,c2⟩|⟨ad,t,c1,c2,c3,c4⟩
      ·rw[c2];have:has db n=false:=by rw[dQ];intro z;exact c1 (e_.mp z)
       rw[this];rfl
      ·rw[c3];have:has db n=true:=e_.mpr (b0.mpr ⟨t,c1⟩);rw[this];rfl
     have h3:(!bad n)=has db n:=by show(!(!has s.valid n&&!has db n))=_;rw[h1];simp
     rw[h2,<-h3];exact cont H2 (Same.refl _)
    ·rw[a4];have h1:has s.valid n=true:=e_.mpr (b0.mpr ⟨t,a2⟩);have h3:(!bad n)=true:=by show(!(!has s.valid n&&!has db n))=_;rw[h1];simp
     rw[h3]at cont;exact iE (cont H2 (Same.refl _))
   ·refine⟨L,(iF r.2).map λn=>!bad n,rfl,bZ.of (by rw[hq,aK];rfl),_,rfl,?_⟩;have e6:((iF r.2).map λn=>!bad n).all id=!((iF r.2).any bad):=by rw[Fu,List.any_eq_not_all_not];simp
    rw[e6];cases hb:(iF r.2).any bad with
    |true=>
     refine iE ⟨sm2 _ _ hbl,?_⟩
     have:=k _ ((sm.trans sm2).unlock B.hb)
     have e7:broken s db=true:=by rw[bro,bY];exact⟨r,aP hr',hb⟩
     rw[e7]at this
     exact this
    |false=>
     refine gx ⟨_,rfl,sm.trans sm2,λz hz=>?_⟩
     rw[e]at hz
     rcases aD.mp hz with hz|hz
     ·exact hno z hz
     ·rw[aE.mp hz];exact hb
  ·rintro od σ' H'⟨v3,rfl,sm,hno⟩;rw[B.rlen,aZ]at hno;have:=k _ (sm.unlock B.hb);have e7:broken s db=false:=by rw[bro,dQ];intro z;obtain⟨x,hx,h⟩:=bY.mp z;rw[hno x hx]at h;cases h
   rw[e7]at this;exact this
end
end Wk
namespace Wk
open PySem PySem.Spec PyProof.Rows L2 WkR
open Vastof (Held State load placesOf clash broken fresh textAt has mentions placeSet admitted)
theorem ic{zs:List Int}{l:List Nat}(hp:zs.Perm (l.map λ(n:Nat)=>(n:Int)))(hs:zs.Pairwise (·<=·))(hn:l.Nodup):zs=(placeSet l).map λ(n:Nat)=>(n:Int):=by refine vK ?_ λk=>hp.mem_iff;have nd:zs.Nodup:=hp.nodup_iff.mpr (j4.mpr hn);exact(hs.and nd).imp λ⟨a,b⟩=>by omega
theorem vT{H:Hp}{l:List (Nat×Addr)}{d v:Held}(t1:gF H l d)(r1:DR d v)(n:Nat):(dZ (rows l) (Sum.inl (n:Int))).isSome=has v n:=by
 rcases oG t1 r1 n with⟨a1,a2,a3⟩|⟨ad,t,a1,a2,a3,a4,a5⟩
 ·rw[a3];have:has v n=false:=by rw[dQ];intro z;exact a2 (e_.mp z)
  rw[this];rfl
 ·rw[a4];have:has v n=true:=e_.mpr (b0.mpr ⟨t,a2⟩);rw[this];rfl
theorem jR(s:State)(db:Held):placesOf (fresh s db)=(placesOf db).filter λn=>!has s.valid n:=by unfold placesOf eW;rw[cF];rfl
section
variable {P:Program}{w:World}{K:aj}{mg:Str->Option Value}{base:Heap}
def oH(C:Addr):Sp:=λvs H Q _=>∃(q b:Addr)(D:SD)(s:State)(lb:List (Nat×Addr))(db:Held),vs=[.ref q,.ref b]/\fG C H q D s/\z9 H D b lb db/\∀H' p,Same H H'->H p=none->H' p=some (.lst (tx (placeSet (placesOf (fresh s db)))))->Q (.ref p) H'
theorem wV{f C:Addr}{fd:FuncData}(F:eJ K "new_places" "new_places" jO f fd)(T:gE K C)(b1:mg "sorted"=none):ck P w K mg base eY 1 f fd ["store","batch"] (oH C):=by
 refine F.ok pI ?_ ?_
 ·rintro vs H Q E⟨q,b,D,s,lb,db,rfl,_⟩;rfl
 ·rintro cdv A outer s H vs Q E hr⟨q,b,D,s,lb,db,rfl,S,B,k⟩;have nd:=pI.nd;have hu:=eM hr;refine⟨_,aw (aL (bz mD (by rfl) b1 ib (ai (mn (gN (own:=[("place",2)]) rfl nd (e9 (pv 1)) (ei qR (aH jO) rfl rfl (by decide+kernel)) (λs H C cl fp=>bJ (i:=2) nd rfl (Or.inl rfl)) (λs H C cl fp=>oU (gI (gw hu (pv 2) (sA (K:=K) rfl (pv 0) rfl)))) (λs H C cl fp=>pv 2))) au))),?_⟩;have hqb:q≠b:=cn S.ob B.hb (λz=>nomatch z);refine mN (d:=b) (kvs:=rows lb) (λk=>match k with|.inl z=>!has s.valid z.toNat|_=>false) (by show 2<3;decide) (λx=>rfl) (by rw[B.rlen];have:=B.len;omega) B.hb (λod R h=>⟨_,rfl,h⟩) (λod i k' v H' R hi sm cont=>?_) λH' L sm hL hq=>?_
  ·obtain⟨x,hx,rfl,rfl⟩:=fz hi;have bt:=g8.lock sm;refine⟨_,rfl,_,rfl,q,C,D.dx,_,_,rfl,bt _ _ S.ob hqb,T.cl,T.n2,fc ..,D.ah,_,rfl,cf (k:=Sum.inl (x.1:Int)) (.inl (bt _ _ S.h1 B.n1.symm)),_,rfl,?_⟩;rw[vT S.t1 S.r1];exact cont H' (Same.refl _)
  ·have e1:(((rows lb).map (·.1)).filter λk=>match k with|.inl z=>!has s.valid z.toNat|_=>false).map kV=((placesOf (fresh s db)).map λ(n:Nat)=>(n:Int)).map V.int:=by rw[jR,<-show lb.map (λx=>x.1)=placesOf db from B.tb.keys];unfold rows;rw[aK,cF,aK,cF,aK,aK];rfl
   rw[e1]at hq;refine⟨L,_,rfl,bZ.of hq,λzs p hp hs np=>?_⟩;have e2:=ic hp hs (j5 B.ok.nd);refine k _ p (sm.trans (aC np)) (sm.free np) ?_;rw[ao,e2,de]
def oJ(C:Addr):Sp:=λvs H Q _=>∃(q b m:Addr)(D:SD)(s:State)(lb lm:List (Nat×Addr))(db:Held),vs=[.ref q,.ref b,.ref m]/\fG C H q D s/\z9 H D b lb db/\Iv H D b m lm db/\∀H',Same H H'->Q (.int (EK (admitted s db))) H'
theorem EO{l m:List Int}(h:l.Perm m):l.sum=m.sum:=by
 induction h with
 |nil=>rfl
 |cons a _ ih=>rw[fR,fR,ih]
 |swap a b l=>rw[fR,fR,fR,fR];omega
 |trans _ _ h1 h2=>exact h1.trans h2
theorem HN(s:State)(db:Held)(h:(placesOf db).Nodup):((placeSet (placesOf (fresh s db))).map λn=>(((textAt db n).getD []).length:Int)).sum=(load (fresh s db):Nat):=by
 have p1:(placeSet (placesOf (fresh s db))).Perm (placesOf (fresh s db)):=by refine WkR.iQ (cb _).nodup (λx hx=>bA.mp hx) ?_;exact aO (j5 h) λx hx=>bA.mpr hx
 rw[EO (p1.map _),u4,<-vO];unfold placesOf;rw[aK];congr 1;refine bK λx hx=>?_;have hm:(x.1,x.2)∈db:=(bj.mp hx).1;have:=(eg h).mpr hm;simp[this]
theorem sF{f C:Addr}{fd:FuncData}(F:eJ K "batch_refusal" "batch_refusal" gY f fd)(T:gE K C)(b1:mg "sum"=none)(b2:mg "len"=none)(g1:GI mg "CLASH" (-4))(g2:GI mg "BROKEN" (-5))(g3:GI mg "FULL" (-6))(g4:GI mg "NO_REFUSAL" 0)(C1:dc P w K mg base 1 "clashes" ["store","batch"] (xU C))(C2:dc P w K mg base 1 "is_broken" ["store","batch","mentioned"] (vS C))(C3:dc P w K mg base 1 "load_of" ["store"] (rg C))(C4:dc P w K mg base 1 "new_places" ["store","batch"] (oH C)):ck P w K mg base eY 2 f fd ["store","batch","mentioned"] (oJ C):=by
 refine F.ok lV ?_ ?_
 ·rintro vs H Q E⟨q,b,m,D,s,lb,lm,db,rfl,_⟩;rfl
 ·rintro cdv A outer s H vs Q E hr⟨q,b,m,D,s,lb,lm,db,rfl,S,B,M,k⟩;have nd:=lV.nd;have hu:=eM hr;refine⟨_,aq (bH (fh (aS C1 hr (ai (pv 0) (ai (pv 1) au)))) (aw (aL (bw g1))) aX) (aq (bH (fh (aS C2 hr (ai (pv 0) (ai (pv 1) (ai (pv 2) au))))) (aw (aL (bw g2))) aX) (aq (bH (bh je (cZ gc (aS C3 hr (ai (pv 0) au)) (bz (Ed rfl) (by rfl) b1 Ez (ai (gN (own:=[("place",3)]) rfl nd (cK (aS C4 hr (ai (pv 0) (ai (pv 1) au)))) (ei m5 (aH gY) rfl rfl (by decide+kernel)) (λs H C cl fp=>bJ (i:=3) nd rfl (Or.inl rfl)) (λs H C cl fp=>eD) (λs H C cl fp=>bz (lE (K:=K) rfl) (by rfl) b2 bf (ai (cp hu (pv 1) (pv 3) (λ_ _=>rfl)) au))) au))) (cI (pv 0) rfl) (bC _)) (aw (aL (bw g3))) aX) (aw (aL (bw g4))))),?_⟩;refine⟨_,rfl,_,rfl,q,b,D,s,lb,db,rfl,S,B,λH1 s1=>⟨_,rfl,?_⟩⟩;unfold admitted at k;refine ED (λh1=>?_) λh1=>?_
  ·rw[if_pos h1]at k;exact k H1 s1
  ·rw[if_neg (by rw[h1];exact aI)]at k;refine⟨_,rfl,_,rfl,_,rfl,q,b,m,D,s,lb,lm,db,rfl,S.same s1,B.same s1,M.same s1,λH2 s2=>⟨_,rfl,?_⟩⟩;have s12:=s1.trans s2;refine ED (λh2=>?_) λh2=>?_
   ·rw[if_pos h2]at k;exact k H2 s12
   ·rw[if_neg (by rw[h2];exact aI)]at k;refine⟨_,rfl,q,D,s,rfl,S.same s12,λH3 s3=>?_⟩;have s13:=s12.trans s3;refine⟨_,rfl,_,rfl,q,b,D,s,lb,db,rfl,S.same s13,B.same s13,λH4 p4 s4 np4 hp4=>?_⟩;have s14:=s13.trans s4;have fl:(placeSet (placesOf (fresh s db))).length<=1024:=by
     have:=aO (cb (placesOf (fresh s db))).nodup (m:=placesOf db) λx hx=>by have:=bA.mp hx;rw[jR]at this;exact(bj.mp this).1
     have h2:=B.len;have h3:(placesOf db).length=db.length:=ae ..;omega
    refine⟨p4,rfl,⟨_,bZ.of hp4⟩,λL hL=>lF ((placeSet (placesOf (fresh s db))).map λn=>V.int (((textAt db n).getD []).length:Nat)) (by simp) (by rw[ae];omega) hL (bZ.of hp4) (λi x y H5 R hx hy sm cont=>?_) iA λH5 sm hq=>?_⟩
    ·obtain⟨n,hn,rfl⟩:=cD hx;obtain⟨n',hn',rfl⟩:=cD hy;rw[hn]at hn';cases hn';have hn2:n∈placesOf db:=by have:=bA.mp (aP hn);rw[jR]at this;exact(bj.mp this).1
     have B5:=B.same (s14.trans sm);rcases B5.tb.get n with⟨c1,c2⟩|⟨ad,t,c1,c2,c3,c4⟩
     ·exact absurd hn2 c1
     ·have e:textAt db n=some t:=(eg B.ok.nd).mpr c1;refine⟨rfl,_,rfl,_,rfl,b,V.ref ad,rfl,?_,ad,tx t,rfl,bZ.of c4,?_⟩
      ·have g:=cf (k:=Sum.inl (n:Int)) (.inl B5.hb:Rd H5 b (.dK (rows lb)));rw[c3]at g;exact g
      ·rw[ae];rw[e]at cont;exact cont H5 (Same.refl _)
    ·have e1:((placeSet (placesOf (fresh s db))).map λn=>V.int (((textAt db n).getD []).length:Nat))=((placeSet (placesOf (fresh s db))).map λn=>(((textAt db n).getD []).length:Int)).map V.int:=by rw[aK];rfl
     rw[e1]at hq;refine⟨L,_,rfl,bZ.of hq,_,_,rfl,rfl,?_⟩;rw[HN s db B.ok.nd];have s15:=s14.trans sm;refine⟨_,rfl,q,C,D.dx,_,_,rfl,(S.same s15).ob,T.cl,T.n1,Gh ..,_,_,rfl,rfl,_,rfl,?_⟩;refine qY (λh3=>?_) λh3=>?_
     ·rw[if_pos (by omega)]at k;exact k H5 s15
     ·rw[if_neg (by omega)]at k;exact k H5 s15
end
end Wk
namespace Wk
open PySem PySem.Spec PyProof.Rows L2 WkR
open Vastof (Held State load placesOf clash broken textAt has mentions placeSet admitted)
theorem gU(n:Nat)(a:Addr):∀l:List (Nat×Addr),putK (rows l) (Sum.inl (n:Int)) (.ref a)=rows (dput l n a):=by
 intro l;unfold putK dput;have e:((rows l).any λkv=>decide (kv.1=(Sum.inl (n:Int):Key)))=decide (n∈l.map λx=>x.1):=by
  rw[dX,bY,decide_eq_true_eq];constructor
  ·rintro⟨kv,hk,h⟩;obtain⟨x,hx,rfl⟩:=az.mp hk;have:=f7 (of_decide_eq_true h);exact az.mpr ⟨x,hx,by omega⟩
  ·intro h;obtain⟨x,hx,e⟩:=az.mp h;exact⟨_,az.mpr ⟨x,hx,rfl⟩,by simp[e]⟩
 rw[e];by_cases h:n∈l.map λx=>x.1
 ·rw[if_pos (decide_eq_true h),if_pos h];unfold rows;rw[aK,aK];refine bK λx hx=>?_;show(if(Sum.inl (x.1:Int):Key)=Sum.inl (n:Int)then _ else _)=_;by_cases z:x.1=n
  ·rw[if_pos (by rw[z])];simp[z]
  ·rw[if_neg (λq=>z (by have:=f7 q;omega))];simp[z]
 ·rw[if_neg (by rw[decide_eq_false h];exact aI),if_neg h];unfold rows;rw[aW];rfl
theorem gF.put{H:Hp}{n:Nat}{a:Addr}{t:List Nat}(ha:H a=some (.lst (tx t))){l:List (Nat×Addr)}{d:List (Nat×List Nat)}(h:gF H l d):gF H (dput l n a) (dput d n t):=by
 unfold dput;rw[h.keys];split
 ·rename_i hh;clear hh;induction h with
  |nil=>exact .nil
  |@cons p r _ _ x _ ih=>
   refine .cons ?_ ih
   show(if p.1=n then(n,a)else p).1=(if r.1=n then(n,t)else r).1/\H (if p.1=n then(n,a)else p).2=some (.lst (tx (if r.1=n then(n,t)else r).2))
   by_cases z:p.1=n
   ·rw[if_pos z,if_pos (by rw[<-x.1];exact z)];exact⟨rfl,ha⟩
   ·rw[if_neg z,if_neg (by rw[<-x.1];exact z)];exact x
 ·exact Paired.snoc h ⟨rfl,ha⟩
theorem gF.upd{H:Hp}{c:Addr}{o:HO}{l:List (Nat×Addr)}{d:List (Nat×List Nat)}(h:gF H l d)(hc:∀xs,H c≠some (.lst xs)):gF (L2.upd H c o) l d:=L2.Paired.mapP h λx r e=>⟨e.1,by rw[aA (λz=>hc _ (z▸e.2))];exact e.2⟩
theorem ER(g:Nat×List Nat->Nat×List Nat)(hg:∀x,(g x).1=x.1)(d:List (Nat×List Nat))(n:Nat)(t:List Nat):(dput d n t).map g=dput (d.map g) n (g (n,t)).2:=by
 have e:(d.map g).map (λx=>x.1)=d.map λx=>x.1:=by rw[aK];exact bK λx _=>hg x
 have e2:g (n,t)=(n,(g (n,t)).2):=xi (hg _) rfl;unfold dput;rw[e];split
 ·rw[aK,aK];refine bK λx _=>?_;show g (if x.1=n then(n,t)else x)=if(g x).1=n then _ else g x;rw[hg x];split
  ·exact e2
  ·rfl
 ·rw[aW,bo,jA];congr 1;rw[<-e2]
theorem ES{α:Type}(d:List (Nat×α))(n:Nat)(t:α):(dput d n t).length<=d.length+1:=by
 unfold dput;split
 ·rw[ae];omega
 ·simp
theorem o8{α:Type}:∀(f d:List (Nat×α)),(iK d f).length<=d.length+f.length
 |[],d=>by simp[iK]
 |x::f,d=>by have:=o8 f (dput d x.1 x.2);have h2:=ES d x.1 x.2;show(iK (dput d x.1 x.2) f).length<=_;simp;omega
theorem sG{α:Type}{d f:List (Nat×α)}{i:Nat}{x:Nat×α}(h:f[i]?=some x):iK d (f.take (i+1))=dput (iK d (f.take i)) x.1 x.2:=by rw[aT,h];exact A4 d _ x
def Gm(a b c:Addr)(H H':Hp):Prop:=∀x o,H x=some o->x≠a->x≠b->x≠c->H' x=some o
theorem ql{H:Hp}{b m:Addr}{od:Obj}{kvs:List (Key×V)}{o:HO}(hb:H b=some (.dK kvs))(hm:H m=none):Same (lk H b od kvs) (lk (L2.upd H m o) b od kvs):=λx u e=>by
 by_cases z:x=b
 ·subst z;have e:L2.upd H x _ x=some u:=e;rw[ao]at e;show L2.upd _ x _ x=some u;rw[ao];exact e
 ·have e:L2.upd H b _ x=some u:=e;rw[aA z]at e;show L2.upd _ b _ x=some u;rw[aA z,aA (aB e hm)];exact e
theorem lH{s:State}{db:Held}:(∃e,admitted s db=.error e/\e≠0)\/∃y,admitted s db=.ok y:=by
 unfold admitted;split
 ·exact .inl ⟨_,rfl,by decide⟩
 ·split
  ·exact .inl ⟨_,rfl,by decide⟩
  ·split
   ·exact .inl ⟨_,rfl,by decide⟩
   ·exact .inr ⟨_,rfl⟩
def lI(s:State)(db:Held):Held:=(placeSet (placesOf (eW s db))).map λn=>(n,(textAt db n).getD [])
theorem sJ(s:State){db:Held}(h:(placesOf db).Nodup):(lI s db).Perm (eW s db):=by
 have p1:(placeSet (placesOf (eW s db))).Perm (placesOf (eW s db)):=by refine WkR.iQ (cb _).nodup (λx hx=>bA.mp hx) ?_;exact aO (j5 h) λx hx=>bA.mpr hx
 have p2:=p1.map λn=>(n,(textAt db n).getD []);refine p2.trans (.of_eq ?_);unfold placesOf;rw[aK];conv=>rhs;rw[<-nN (eW s db)]
 refine bK λx hx=>?_;have hm:(x.1,x.2)∈db:=(bj.mp hx).1;have:=(eg h).mpr hm;simp[this]
section
variable {P:Program}{w:World}{K:aj}{mg:Str->Option Value}{base:Heap}
def uu(C:Addr):Sp:=λvs H Q _=>∃(q b:Addr)(D:SD)(s:State)(lb:List (Nat×Addr))(db:Held),vs=[.ref q,.ref b]/\fG C H q D s/\z9 H D b lb db/\(∀e,admitted s db=.error e->∀H' r,Same H H'->H r=none->H' r=some (.lst [.int e])->Q (.ref r) H')/\∀s' new,admitted s db=.ok (s',new)->∀H' r D',fG C H' q D' s'->D'.ag=D.ag->D'.ah=D.ah->D'.ap=D.ap->D'.ar=D.ar->D'.dx=D.dx->D'.lg=D.lg->Gm D.ah D.ap D.ar H H'->H r=none->H' r=some (.lst (.int 0::tx new))->Q (.ref r) H'
theorem ET{f C:Addr}{fd:FuncData}(F:eJ K "admit" "admit" yy f fd)(T:gE K C)(g1:GI mg "NO_REFUSAL" 0)(C1:dc P w K mg base 4 "mentioned_numbers" ["text"] (tM K))(C2:dc P w K mg base 2 "batch_refusal" ["store","batch","mentioned"] (oJ C))(C3:dc P w K mg base 1 "new_places" ["store","batch"] (oH C)):ck P w K mg base eY 5 f fd ["store","batch"] (uu C):=by
 refine F.ok zQ ?_ ?_
 ·rintro vs H Q E⟨q,b,D,s,lb,db,rfl,_⟩;rfl
 ·rintro cdv A outer s H vs Q E hr⟨q,b,D,s,lb,db,rfl,S,B,ke,ko⟩;have nd:=zQ.nd;have hu:=eM hr;have hr2:cT 2 _:=hr.mono (by decide);have hr1:cT 1 _:=hr.mono (by decide);refine⟨_,aq (ba (i:=2) nd rfl (Or.inl rfl) cW) (aq (il (dI PassesOwn.never rfl (e9 (pv 1)) (bJ (i:=3) nd rfl (Or.inl rfl)) (aw (d9 hu (pv 2) (pv 3) (aS C1 hr (ai (cp hu (pv 1) (pv 3) (λ_ _=>rfl)) au)) rfl)))) (aq (ba (i:=4) nd rfl (Or.inl rfl) (aS C2 hr2 (ai (pv 0) (ai (pv 1) (ai (pv 2) au))))) (aq (bH (bh gG (pv 4) (bw g1) (bC _)) (aw (aL (bE (ai (pv 4) au)))) aX) (aq (ba (i:=5) nd rfl (Or.inl rfl) (aS C3 hr1 (ai (pv 0) (ai (pv 1) au)))) (aq (dI PassesOwn.never rfl (cK (pv 5)) (bJ (i:=3) nd rfl (Or.inl rfl)) (aq (d9 hu (cI (pv 0) rfl) (pv 3) (cp hu (pv 1) (pv 3) (λ_ _=>rfl)) rfl) (aq (d9 hu (cI (pv 0) rfl) (pv 3) (cp hu (pv 1) (pv 3) (λ_ _=>rfl)) rfl) (aw (d9 hu (cI (pv 0) rfl) (pv 3) (cp hu (pv 2) (pv 3) (λ_ _=>rfl)) rfl))))) (aw (aL (cZ fB (bE (ai bI au)) (pv 5))))))))),?_⟩;intro m hm;have mb:m≠b:=(aB B.hb hm).symm;refine gT (d:=b) (kvs:=rows lb) (by rw[aA mb.symm];exact B.hb) (λod R h=>⟨_,rfl,h⟩) (λod i σ' H'=>∃(v:Option V)(lm:List (Nat×Addr)),σ'=[some (.ref q),some (.ref b),some (.ref m),v,none,none]/\Same (lk H b od (rows lb)) H'/\H' m=some (.dK (rows lm))/\gF H' lm ((db.take i).map λx=>(x.1,iF x.2))) (λod=>⟨none,[],rfl,ql B.hb hm,by show upd (upd H m _) b _ m=_;rw[aA mb,ao];rfl,.nil⟩) (λod i σ' H'⟨_,_,_,sm,_⟩=>sm _ _ ao) ?_ ?_
  ·rintro od i k' v σ' H' hi⟨v3,lm,rfl,sm,hm',tm⟩;obtain⟨x,hx,rfl,rfl⟩:=fz hi;obtain⟨r,hr',e1,e2⟩:=dM B.tb hx;have bt:=g8.lock sm;have hbl:H' b=some (.frz od (.dK (rows lb))):=sm _ _ ao;have nxb:x.2≠b:=cn e2 B.hb (λz=>nomatch z);have htl:=(B.ok.ok r (aP hr')).2;have hi2:i<db.length:=(aM.mp hr').1;refine⟨_,rfl,_,rfl,b,V.ref x.2,rfl,?_,x.2,r.2,rfl,bZ.of (bt _ _ e2 nxb),htl,λH2 p2 s2 np2 hp2=>?_⟩
   ·have g:=cf (k:=Sum.inl (x.1:Int)) (.inr ⟨od,hbl⟩:Rd H' b (.dK (rows lb)));rw[fF B.lnd hx]at g;exact g
   ·have hm2:=s2 _ _ hm';refine⟨_,rfl,_,rfl,m,_,rfl,kD.k (k:=Sum.inl (x.1:Int)) hm2 ?_,?_⟩
    ·unfold rows;rw[ae,tm.len,ae];have:=B.len;exact bW (ay (br ..) (by omega))
    ·have hnew:x.1∉lm.map λx=>x.1:=by
      rw[tm.keys,aK,e1];have h4:(db.map λx=>x.1).take (i+1)=((db.take i).map λx=>x.1)++[r.1]:=by rw[<-iH,aT,hr',aW];rfl
      have h5:(((db.take i).map λx=>x.1)++[r.1]).Nodup:=h4▸B.ok.nd.sublist (b_ _ _);intro z;exact(be.mp h5).2.2 r.1 z r.1 (by simp) rfl
     refine⟨_,lm++[(x.1,p2)],rfl,(sm.trans s2).new (fP B.hb hm),?_,?_⟩
     ·rw[ao,gU];unfold dput;rw[if_neg hnew]
     ·rw[aT,hr',aW];refine Paired.snoc ((tm.same s2).upd λxs z=>by rw[hm2]at z;cases z) ⟨e1,?_⟩;have hne2:p2≠m:=λz=>by rw[z,hm2]at hp2;cases hp2
      show upd H2 m _ p2=_;rw[aA hne2];exact hp2
  ·rintro od σ' H'⟨v3,lm,rfl,sm,hm',tm⟩;rw[B.rlen,aZ]at tm;have s1:=sm.unlock B.hb;have hm1:upd H' b (.dK (rows lb)) m=some (.dK (rows lm)):=by rw[aA mb];exact hm'
   have tm1:gF (upd H' b (.dK (rows lb))) lm (db.map λx=>(x.1,iF x.2)):=tm.upd λxs z=>by rw[sm _ _ ao]at z;cases z
   generalize upd H' b (.dK (rows lb))=H1 at s1 hm1 tm1;have M1:Iv H1 D b m lm db:=⟨hm1,tm1,mb,(aB S.h1 hm).symm,(aB S.h2 hm).symm,(aB S.h3 hm).symm⟩;refine⟨_,rfl,_,rfl,_,rfl,q,b,m,D,s,lb,lm,db,rfl,S.same s1,B.same s1,M1,λH2 s2=>?_⟩;have s12:=s1.trans s2;refine⟨_,rfl,rfl,_,rfl,?_⟩;rcases lH (s:=s) (db:=db)with⟨e,he,hne⟩|⟨⟨s',new⟩,hok⟩
   ·refine eP (λ_=>?_) λz=>absurd (V.int.inj z) (by rw[he];exact hne);refine⟨_,rfl,(by show 1<=sizeLine;decide),λp3 hp3=>ke e he _ p3 (s12.trans (aC hp3)) (s12.free hp3) ?_⟩;rw[ao,he];rfl
   ·refine eP (λz=>absurd (by rw[hok];rfl) z) λ_=>?_;obtain⟨si',q1,q2,q3,q4,q5,_⟩:=jg S.si B.ok hok;refine⟨_,rfl,_,rfl,q,b,D,s,lb,db,rfl,S.same s12,B.same s12,λH3 p3 s3 np3 hp3=>?_⟩;have s13:=s12.trans s3;have S3:=S.same s13;have B3:=B.same s13;have M3:=(M1.same s2).same s3;have nH:∀{x:Addr}{o:HO},H x=some o->x≠p3:=λe z=>by rw[z]at e;rw[s12 _ _ e]at np3;cases np3
    have p3q:p3≠q:=λz=>nH S.ob z.symm;have p31:p3≠D.ah:=λz=>nH S.h1 z.symm;have p32:p3≠D.ap:=λz=>nH S.h2 z.symm;have p33:p3≠D.ar:=λz=>nH S.h3 z.symm;have q1n:q≠D.ah:=cn S.ob S.h1 (λz=>nomatch z);have q2n:q≠D.ap:=cn S.ob S.h2 (λz=>nomatch z);have q3n:q≠D.ar:=cn S.ob S.h3 (λz=>nomatch z);have lnd:(lm.map λx=>x.1).Nodup:=by rw[M1.tm.keys,aK];exact B.ok.nd
    have newl:(lI s db).length=(placeSet (placesOf (eW s db))).length:=by unfold lI;rw[ae]
    have fl:(lI s db).length<=1024:=by have h1:=(sJ s B.ok.nd).length_eq;have h2:(eW s db).length<=db.length:=bp ..;have h3:=B.len;omega
    refine⟨_,rfl,p3,rfl,⟨_,bZ.of hp3⟩,eK (K:=K) (a:=p3) (xs:=tx (placeSet (placesOf (eW s db)))) (λi σ' H'=>∃(v:Option V)(lh lp lr:List (Nat×Addr)),σ'=[some (.ref q),some (.ref b),some (.ref m),v,some (.int (EK (admitted s db))),some (.ref p3)]/\Gm D.ah D.ap D.ar H3 H'/\H' D.ah=some (.dK (rows lh))/\gF H' lh (iK D.dh ((lI s db).take i))/\H' D.ap=some (.dK (rows lp))/\gF H' lp (iK D.dp ((lI s db).take i))/\H' D.ar=some (.dK (rows lr))/\gF H' lr ((iK D.dp ((lI s db).take i)).map λx=>(x.1,iF x.2))) ⟨_,D.lh,D.lp,D.lr,rfl,λ_ _ e _ _ _=>e,S3.h1,S3.t1,S3.h2,S3.t2,S3.h3,S3.t3⟩ (λi σ' H' _⟨_,_,_,_,_,b3,_⟩=>bZ.of (b3 _ _ hp3 p31 p32 p33)) ?_ ?_⟩
    ·rintro i x σ' H' hx⟨v,lh,lp,lr,rfl,b3,k1,t1,k2,t2,k3,t3⟩;obtain⟨n,hn,rfl⟩:=cD hx;have hn2:n∈placesOf db:=by have:=bA.mp (aP hn);rw[jR]at this;exact(bj.mp this).1
     have hnt:(lI s db)[i]?=some (n,(textAt db n).getD []):=by unfold lI;rw[a9,hn];rfl
     have hi2:i<(lI s db).length:=(aM.mp hnt).1;rcases B3.tb.get n with⟨c1,_⟩|⟨ad,t,c1,c2,c3,c4⟩
     ·exact absurd hn2 c1
     have et:textAt db n=some t:=(eg B.ok.nd).mpr c1;rw[et]at hnt;have hnt:(lI s db)[i]?=some (n,t):=hnt;have cm:∃am,dZ (rows lm) (Sum.inl (n:Int))=some (.ref am)/\H3 am=some (.lst (tx (iF t))):=by
      rcases M3.tm.get n with⟨c5,_⟩|⟨am,tm',c5,c6,c7,c8⟩
      ·exfalso;apply c5;rw[aK];exact hn2
      ·obtain⟨x,hx,ex⟩:=az.mp c5;have e1:x.1=n:=congrArg Prod.fst ex;have e2:iF x.2=tm':=congrArg Prod.snd ex;have e3:x.2=t:=yo B.ok.nd (p:=n) (by rw[<-e1];exact hx) c1;rw[e3]at e2;exact⟨am,c7,by rw[e2];exact c8⟩
     obtain⟨am,c7,c8⟩:=cm;have kl:∀{x:Addr}{xs:List V},H3 x=some (.lst xs)->H' x=some (.lst xs):=λe=>b3 _ _ e (cn e S3.h1 (λz=>nomatch z)) (cn e S3.h2 (λz=>nomatch z)) (cn e S3.h3 (λz=>nomatch z));have c4':=kl c4;have c8':=kl c8;have ob':=b3 _ _ S3.ob q1n q2n q3n;have hb':=b3 _ _ B3.hb B.n1 B.n2 B.n3;have hm'':=b3 _ _ M3.hm M1.n1 M1.n2 M1.n3;have z1:(rows lh).length<sizeLine:=by unfold rows;rw[ae,t1.len];refine bW (ay (o8 _ _) ?_);have:=S.vlen;have h2:((lI s db).take i).length<=(lI s db).length:=br ..;omega
     have z2:(rows lp).length<sizeLine:=by unfold rows;rw[ae,t2.len];refine bW (ay (o8 _ _) ?_);have:=S.plen;have h2:((lI s db).take i).length<=(lI s db).length:=br ..;omega
     have z3:(rows lr).length<sizeLine:=by unfold rows;rw[ae,t3.len,ae];refine bW (ay (o8 _ _) ?_);have:=S.plen;have h2:((lI s db).take i).length<=(lI s db).length:=br ..;omega
     have gb:lR H' b (V.int (n:Int)) (some (.ref ad)):=by have g:=cf (k:=Sum.inl (n:Int)) (.inl hb':Rd H' b (.dK (rows lb)));rw[c3]at g;exact g
     refine⟨_,rfl,_,rfl,b,V.ref ad,rfl,gb,_,rfl,q,C,D.dx,_,_,rfl,ob',T.cl,T.n2,fc ..,_,rfl,D.ah,_,rfl,kD.k (k:=Sum.inl (n:Int)) k1 z1,?_⟩;rw[gU];generalize hH4:upd H' D.ah (.dK (rows (dput lh n ad)))=H4;have w4:∀{x:Addr},x≠D.ah->H4 x=H' x:=λh=>by rw[<-hH4];exact aA h
     have gb4:lR H4 b (V.int (n:Int)) (some (.ref ad)):=by have g:=cf (k:=Sum.inl (n:Int)) (.inl ((w4 B.n1).trans hb'):Rd H4 b (.dK (rows lb)));rw[c3]at g;exact g
     refine⟨_,rfl,_,rfl,b,V.ref ad,rfl,gb4,_,rfl,q,C,D.dx,_,_,rfl,(w4 q1n).trans ob',T.cl,T.n3,o7 ..,_,rfl,D.ap,_,rfl,kD.k (k:=Sum.inl (n:Int)) ((w4 S.n12.symm).trans k2) z2,?_⟩;rw[gU];generalize hH5:upd H4 D.ap (.dK (rows (dput lp n ad)))=H5;have w5:∀{x:Addr},x≠D.ap->H5 x=H4 x:=λh=>by rw[<-hH5];exact aA h
     have gm5:lR H5 m (V.int (n:Int)) (some (.ref am)):=by have g:=cf (k:=Sum.inl (n:Int)) (.inl ((w5 M1.n2).trans ((w4 M1.n1).trans hm'')):Rd H5 m (.dK (rows lm)));rw[c7]at g;exact g
     refine⟨_,rfl,_,rfl,m,V.ref am,rfl,gm5,_,rfl,q,C,D.dx,_,_,rfl,(w5 q2n).trans ((w4 q1n).trans ob'),T.cl,T.n4,kY ..,_,rfl,D.ar,_,rfl,kD.k (k:=Sum.inl (n:Int)) ((w5 S.n23.symm).trans ((w4 S.n13.symm).trans k3)) z3,?_⟩;rw[gU];generalize hH6:upd H5 D.ar (.dK (rows (dput lr n am)))=H6;have w6:∀{x:Addr},x≠D.ar->H6 x=H5 x:=λh=>by rw[<-hH6];exact aA h
     have tu:∀{l:List (Nat×Addr)}{d:List (Nat×List Nat)},gF H' l d->gF H6 l d:=λh=>by
      rw[<-hH6,<-hH5,<-hH4];refine((h.upd λxs z=>?_).upd λxs z=>?_).upd λxs z=>?_
      ·rw[k1]at z;cases z
      ·rw[aA S.n12.symm,k2]at z;cases z
      ·rw[aA S.n23.symm,aA S.n13.symm,k3]at z;cases z
     refine⟨_,dput lh n ad,dput lp n ad,dput lr n am,rfl,λx o e h1 h2 h3=>?_,?_,?_,?_,?_,?_,?_⟩
     ·rw[w6 h3,w5 h2,w4 h1];exact b3 x o e h1 h2 h3
     ·rw[w6 S.n13,w5 S.n12,<-hH4,ao]
     ·rw[sG hnt];exact tu (t1.put c4')
     ·rw[w6 S.n23,<-hH5,ao]
     ·rw[sG hnt];exact tu (t2.put c4')
     ·rw[<-hH6,ao]
     ·rw[sG hnt,ER (λx=>(x.1,iF x.2)) (λ_=>rfl)];exact tu (t3.put c8')
    ·rintro σ' H'⟨v,lh,lp,lr,rfl,b3,k1,t1,k2,t2,k3,t3⟩;have el:(tx (placeSet (placesOf (eW s db)))).length=(lI s db).length:=by rw[ae,newl]
     rw[el,aZ]at t1 t2 t3;refine⟨(by show 1<=sizeLine;decide),λp6 hp6=>?_⟩;have hp3':=b3 _ _ hp3 p31 p32 p33;have n36:p3≠p6:=aB hp3' hp6;refine⟨_,rfl,p6,p3,_,_,rfl,rfl,ao,by rw[aA n36];exact hp3',?_,λp7 hp7=>?_⟩
     ·rw[ae,<-newl];show 1+(lI s db).length<=sizeLine;exact cB (bW (by omega))
     ·have sx:Same H' (upd (upd H' p6 (.lst [.int 0])) p7 (.lst ([.int 0]++tx (placeSet (placesOf (eW s db)))))):=(aC hp6).trans (aC hp7);have b3':Gm D.ah D.ap D.ar H H':=λx o e h1 h2 h3=>b3 x o (s13 _ _ e) h1 h2 h3;have np7:H p7=none:=by
       cases z:H p7 with
       |none=>rfl
       |some o=>
        exfalso
        have z6:(upd H' p6 (.lst [.int 0])) p7≠none:=by
         by_cases e1:p7=D.ah
         ·rw[e1,aC hp6 _ _ k1];simp
         ·by_cases e2:p7=D.ap
          ·rw[e2,aC hp6 _ _ k2];simp
          ·by_cases e3:p7=D.ar
           ·rw[e3,aC hp6 _ _ k3];simp
           ·rw[aC hp6 _ _ (b3' _ _ z e1 e2 e3)];simp
        exact z6 hp7
      have kl:∀{x:Addr}{xs:List V},H x=some (.lst xs)->H' x=some (.lst xs):=λe=>b3' _ _ e (cn e S.h1 (λz=>nomatch z)) (cn e S.h2 (λz=>nomatch z)) (cn e S.h3 (λz=>nomatch z));refine ko s' new hok _ p7 {D with lh:=lh,lp:=lp,lr:=lr,dh:=iK D.dh (lI s db),dp:=iK D.dp (lI s db)} ?_ rfl rfl rfl rfl rfl rfl (λx o e h1 h2 h3=>sx _ _ (b3' x o e h1 h2 h3)) np7 (by rw[ao,q5];rfl);refine fG.same ?_ sx;refine⟨?_,k1,k2,k3,b3' _ _ S.h4 S.n14.symm S.n24.symm S.n34.symm,t1,t2,t3,L2.Paired.mapP S.t4 (λ_ _ e=>⟨e.1,kl e.2⟩),?_,?_,?_,S.n12,S.n13,S.n14,S.n23,S.n24,S.n34,si'⟩
      ·rw[q2];exact b3' _ _ S.ob q1n q2n q3n
      ·rw[q3];exact S.r1.puts (j5 B.ok.nd) (sJ s B.ok.nd)
      ·rw[q4];exact S.r2.puts (j5 B.ok.nd) (sJ s B.ok.nd)
      ·rw[q1];exact S.r4
end
end Wk
namespace Wk
open PySem PySem.Spec PyProof.Rows L2 WkR
open Vastof (Held State load placesOf textAt has mentions placeSet admitted checkText Answer)
def FK(q:Addr)(H H':Hp):Prop:=∀b o,H b=some o->b≠q->(∀kvs,o≠.dK kvs)->H' b=some o
theorem FK.of_same{q:Addr}{H H':Hp}(s:Same H H'):FK q H H':=λb o e _ _=>s b o e
theorem FK.same{q:Addr}{H H1 H2:Hp}(a:FK q H H1)(s:Same H1 H2):FK q H H2:=λb o e n d=>s _ _ (a b o e n d)
theorem FK.after{q:Addr}{H H1 H2:Hp}(s:Same H H1)(a:FK q H1 H2):FK q H H2:=λb o e n d=>a b o (s _ _ e) n d
def Aa(a:Answer):List V:=(kG a).map V.int
theorem rj(v:Int)(l:List Nat):Aa {value:=v,list:=l}=.int v::tx l:=by unfold Aa kG;rw[bo,aK];rfl
def wk(C q:Addr)(H:Hp)(s':State)(a:Answer)(Q:VK):Prop:=∀H' r D',fG C H' q D' s'->FK q H H'->H' r=some (.lst (Aa a))->Q (.ref r) H'
theorem wk.same{C q:Addr}{H:Hp}{s:State}{a:Answer}{Q:VK}(h:wk C q H s a Q){D:SD}(S:fG C H q D s){H':Hp}(m:Same H H'){r:Addr}(hr:H' r=some (.lst (Aa a))):Q (.ref r) H':=h H' r D (S.same m) (.of_same m) hr
section
variable {P:Program}{w:World}{K:aj}{mg:Str->Option Value}{base:Heap}
def EU(C:Addr):Sp:=λvs H Q _=>∃(q:Addr)(D:SD)(s:State)(n:Int),vs=[.ref q,.int n]/\fG C H q D s/\wk C q H (aR s (.room n)).1 (aR s (.room n)).2 Q
theorem Gn{f C:Addr}{fd:FuncData}(F:eJ K "answer_room" "answer_room" k9 f fd)(T:gE K C)(g1:GI mg "ROOM_LIMIT" 65536)(g2:GI mg "LIMIT" (-9))(g3:GI mg "FULL" (-6))(C1:dc P w K mg base 1 "load_of" ["store"] (rg C)):ck P w K mg base eY 2 f fd ["store","n"] (EU C):=by
 refine F.ok vj ?_ ?_
 ·rintro vs H Q E⟨q,D,s,n,rfl,_⟩;rfl
 ·rintro cdv A outer s H vs Q E hr⟨q,D,s,n,rfl,S,k⟩;refine⟨_,aq (bH (GQ (bh uE (pv 1) bI (bC _)) (DQ (bh je (pv 1) (bw g1) (bC _)))).pt (aw (aL (bE (ai (bw g2) au)))) aX) (aq (bH (bh je (aS C1 hr (ai (pv 0) au)) (pv 1) (bC _)) (aw (aL (bE (ai (bw g3) au)))) aX) (aq (g9 (pv 0) (pv 1) rfl) (aw (aL (bE (ai bI au)))))),?_⟩;have si:=S.si.step (.room n);have e:aR s (.room n)=(if n<0\/65536<n then cX s Vastof.LIMIT else if n<(load s.valid:Nat)then cX s Vastof.FULL else({s with room:=n.toNat},{value:=0})):=rfl;rw[e]at k si;have one:(1:Nat)<=sizeLine:=by decide
  refine⟨_,rfl,_,_,rfl,rfl,_,rfl,?_⟩;refine qY (λh1=>?_) λh1=>?_
  ·rw[if_pos (.inl h1)]at k;exact iE ⟨one,λp hp=>k.same S (aC hp) (by rw[ao];rfl)⟩
  ·refine⟨_,rfl,_,_,rfl,rfl,_,rfl,?_⟩;refine qY (λh2=>?_) λh2=>?_
   ·rw[if_pos (.inr h2)]at k;exact⟨one,λp hp=>k.same S (aC hp) (by rw[ao];rfl)⟩
   ·rw[if_neg (λz=>by rcases z with z|z;exact h1 z;exact h2 z)]at k si;refine⟨_,rfl,q,D,s,rfl,S,λH1 s1=>⟨_,rfl,_,_,rfl,rfl,_,rfl,?_⟩⟩;refine qY (λh3=>?_) λh3=>?_
    ·rw[if_pos h3]at k;exact⟨one,λp hp=>k.same S (s1.trans (aC hp)) (by rw[ao];rfl)⟩
    ·rw[if_neg h3]at k si;have S1:=S.same s1;refine⟨_,rfl,_,rfl,q,C,D.dx,_,rfl,S1.ob,T.cl,T.n1,(by show 5<1000;decide),one,λp hp=>?_⟩;obtain⟨n',rfl⟩:∃n':Nat,n=(n':Int):=⟨n.toNat,by omega⟩;rw[zZ]at hp⊢;have q1n:D.ah≠q:=cn S.h1 S.ob (λz=>nomatch z);have q2n:D.ap≠q:=cn S.h2 S.ob (λz=>nomatch z);have q3n:D.ar≠q:=cn S.h3 S.ob (λz=>nomatch z);have q4n:D.ag≠q:=cn S.h4 S.ob (λz=>nomatch z);have no:∀xs,H1 q≠some (.lst xs):=λxs z=>by rw[S1.ob]at z;cases z
     have S2:fG C (upd H1 q (.ins C D.dx (sf n' D.ah D.ap D.ar D.ag))) q D {s with room:=n'}:=⟨ao,by rw[aA q1n];exact S1.h1,by rw[aA q2n];exact S1.h2,by rw[aA q3n];exact S1.h3,by rw[aA q4n];exact S1.h4,S1.t1.upd no,S1.t2.upd no,S1.t3.upd no,S1.t4.upd no,S.r1,S.r2,S.r4,S.n12,S.n13,S.n14,S.n23,S.n24,S.n34,si⟩;refine k _ p D (S2.same (aC hp)) (λb o e nb _=>?_) (by rw[ao];rfl);exact aC hp _ _ (by rw[aA nb];exact s1 _ _ e)
def lJ(K:aj):Sp:=λvs H Q _=>∃(z:Int)(a:Addr)(t:List Nat),vs=[.int z,.ref a]/\bZ K H a (tx t)/\Q (.int (EK (checkText z t))) H
theorem ue{f:Addr}{fd:FuncData}(F:eJ K "text_refusal" "text_refusal" j8 f fd)(b1:mg "len"=none)(g1:GI mg "PLACE" (-1))(g2:GI mg "LONG" (-2))(g3:GI mg "NO_REFUSAL" 0)(g4:GI mg "TEXT_LIMIT" 4096)(C1:dc P w K mg base 1 "is_place" ["number"] jV):ck P w K mg base eY 2 f fd ["p","text"] (lJ K):=by
 refine F.ok tZ ?_ ?_
 ·rintro vs H Q E⟨z,a,t,rfl,_⟩;rfl
 ·rintro cdv A outer s H vs Q E hr⟨z,a,t,rfl,hS,k⟩;refine⟨_,aq (bH (jj (fh (aS C1 hr (ai (pv 0) au)))) (aw (aL (bw g1))) aX) (aq (bH (bh je (bz (lE (K:=K) rfl) (by rfl) b1 bf (ai (pv 1) au)) (bw g4) (bC _)) (aw (aL (bw g2))) aX) (aw (aL (bw g3)))),?_⟩;unfold checkText me at k;refine⟨_,rfl,z,rfl,_,rfl,?_⟩;refine eP (λh1=>?_) λh1=>?_
  ·rw[if_neg h1]at k;exact k
  ·rw[if_pos h1]at k;refine⟨_,rfl,a,_,rfl,hS,_,_,rfl,rfl,_,rfl,?_⟩;have hl:(tx t).length=t.length:=ae ..;refine qY (λh2=>?_) λh2=>?_
   ·have:4096<t.length:=by rw[hl]at h2;omega
    simp only[this,if_true]at k;exact k
   ·have:¬4096<t.length:=by rw[hl]at h2;omega
    simp only[this,if_false]at k;exact k
end
end Wk
namespace Wk
open PySem PySem.Spec PyProof.Rows L2 WkR
open Vastof (Held State load placesOf textAt has mentions placeSet admitted checkText Answer)
theorem one_le:(1:Nat)<=sizeLine:=by decide
theorem FK.of3{q:Addr}{H H':Hp}{a b c:Addr}{k1 k2 k3:List (Key×V)}(h1:H a=some (.dK k1))(h2:H b=some (.dK k2))(h3:H c=some (.dK k3))(m:Gm a b c H H'):FK q H H':=λx o e _ nd=>
 m x o e (λz=>by rw[z,h1]at e;cases e;exact nd _ rfl) (λz=>by rw[z,h2]at e;cases e;exact nd _ rfl) (λz=>by rw[z,h3]at e;cases e;exact nd _ rfl)
section
variable {P:Program}{w:World}{K:aj}{mg:Str->Option Value}{base:Heap}
def Hb(C:Addr):Sp:=λvs H Q _=>∃(q ta:Addr)(D:SD)(s:State)(z:Int)(t:List Nat),vs=[.ref q,.int z,.ref ta]/\fG C H q D s/\H ta=some (.lst (tx t))/\wk C q H (aR s (.add z t)).1 (aR s (.add z t)).2 Q
theorem HP{f C:Addr}{fd:FuncData}(F:eJ K "answer_add" "answer_add" mF f fd)(T:gE K C)(b1:mg "len"=none)(g1:GI mg "NO_REFUSAL" 0)(C1:dc P w K mg base 2 "text_refusal" ["p","text"] (lJ K))(C2:dc P w K mg base 5 "admit" ["store","batch"] (uu C)):ck P w K mg base eY 6 f fd ["store","p","text"] (Hb C):=by
 refine F.ok pJ ?_ ?_
 ·rintro vs H Q E⟨q,ta,D,s,z,t,rfl,_⟩;rfl
 ·rintro cdv A outer s H vs Q E hr⟨q,ta,D,s,z,t,rfl,S,ht,k⟩;have nd:=pJ.nd;have hr2:cT 2 _:=hr.mono (by decide);refine⟨_,aq (ba (i:=3) nd rfl (Or.inl rfl) (aS C1 hr2 (ai (pv 1) (ai (pv 2) au)))) (aq (bH (bh gG (pv 3) (bw g1) (bC _)) (aw (aL (bE (ai (pv 3) au)))) aX) (aq (ba (i:=4) nd rfl (Or.inl rfl) (aS C2 hr (ai (pv 0) (ai (F9 (Eg (pv 1) (pv 2) F8) rfl rfl (by simp) (by decide)) au)))) (aq (bH (bh gG (gM ig (pv 4) bI (λ_ _=>rfl)) bI (bC _)) (aw (aL (pv 4))) aX) (aw (aL (bE (ai (cZ uD (bz (lE (K:=K) rfl) (by rfl) b1 bf (ai (pv 4) au)) bI) au))))))),?_⟩;have e0:aR s (.add z t)=qx s z t:=rfl;rw[e0]at k;unfold qx at k;refine⟨_,rfl,_,rfl,z,ta,t,rfl,bZ.of ht,?_⟩;refine⟨_,rfl,rfl,_,rfl,?_⟩;cases hc:checkText z t with
  |error e=>
   rw[hc]at k
   have hne:e≠0:=by
    unfold checkText at hc;split at hc
    ·cases hc;decide
    ·split at hc
     ·cases hc;decide
     ·cases hc
   refine eP (λ_=>⟨_,rfl,one_le,λp hp=>k.same S (aC hp) (by rw[ao];rfl)⟩) λh=>absurd (V.int.inj h) hne
  |ok x=>
   rw[hc]at k
   obtain⟨rfl,hx,htl⟩:=jN hc
   refine eP (λh=>absurd rfl h) λ_=>?_
   refine⟨_,rfl,λb hb=>?_⟩
   have hbt:ta≠b:=aB ht hb
   refine⟨_,rfl,_,rfl,ao,[(Sum.inl (x:Int),V.ref ta)],rfl,(by show 1<=15;decide),?_⟩
   rw[mh]
   have e1:iM [] [((Sum.inl (x:Int):Key),V.ref ta)]=rows [(x,ta)]:=rfl
   rw[e1]
   have s1:Same H (upd H b (.dK (rows [(x,ta)]))):=aC hb
   have S1:=S.same s1
   have B1:z9 (upd H b (.dK (rows [(x,ta)]))) D b [(x,ta)] [(x,t)]:=⟨ao,.cons ⟨rfl,s1 _ _ ht⟩ .nil,⟨by simp[placesOf],λy hy=>by rw[aE.mp hy];exact⟨hx,htl⟩⟩,(aB S.h1 hb).symm,(aB S.h2 hb).symm,(aB S.h3 hb).symm⟩
   refine⟨q,b,D,s,[(x,ta)],[(x,t)],rfl,S1,B1,λe he H2 r s2 nr hr2=>?_,λs' new hok H2 r D' S2 ea eb ec ed ee ef b3 nr hr2=>?_⟩
   ·simp only[he]at k;have hne:e≠0:=by
     rcases lH (s:=s) (db:=[(x,t)])with⟨e',h1,h2⟩|⟨y,h1⟩
     ·rw[he]at h1;cases h1;exact h2
     ·rw[he]at h1;cases h1
    refine⟨_,rfl,r,_,_,_,rfl,rfl,bZ.of hr2,at_of (j:=0) rfl rfl,rfl,_,rfl,?_⟩;refine eP (λ_=>⟨_,rfl,k.same S (s1.trans s2) (by rw[hr2];rfl)⟩) λh=>absurd (V.int.inj h) hne
   ·simp only[hok]at k;refine⟨_,rfl,r,_,_,_,rfl,rfl,bZ.of hr2,at_of (j:=0) rfl rfl,rfl,_,rfl,?_⟩;refine eP (λh=>absurd rfl h) λ_=>?_;refine⟨_,rfl,r,_,rfl,bZ.of hr2,_,_,rfl,rfl,one_le,λp hp=>?_⟩;refine k _ p D' (S2.same (aC hp)) ((FK.after s1 (FK.of3 S1.h1 S1.h2 S1.h3 b3)).same (aC hp)) ?_;rw[ao];have e2:(((V.int 0::tx new).length:Nat):Int)-1=(new.length:Nat):=by rw[bG,ae];omega
    show some (HO.lst [V.int ((((V.int 0::tx new).length:Nat):Int)-1)])=_;rw[e2];rfl
def Co(C:Addr):Sp:=λvs H Q _=>∃(q ta:Addr)(D:SD)(s:State)(z:Int)(t:List Nat),vs=[.ref q,.int z,.ref ta]/\fG C H q D s/\H ta=some (.lst (tx t))/\wk C q H (aR s (.stage z t)).1 (aR s (.stage z t)).2 Q
theorem EV{f C:Addr}{fd:FuncData}(F:eJ K "answer_stage" "answer_stage" j9 f fd)(T:gE K C)(b1:mg "len"=none)(g1:GI mg "NO_REFUSAL" 0)(g2:GI mg "TWICE" (-3))(g3:GI mg "LIMIT" (-9))(g4:GI mg "STAGE_LIMIT" 64)(C1:dc P w K mg base 2 "text_refusal" ["p","text"] (lJ K)):ck P w K mg base eY 3 f fd ["store","p","text"] (Co C):=by
 refine F.ok m6 ?_ ?_
 ·rintro vs H Q E⟨q,ta,D,s,z,t,rfl,_⟩;rfl
 ·rintro cdv A outer s H vs Q E hr⟨q,ta,D,s,z,t,rfl,S,ht,k⟩;have nd:=m6.nd;have hu:=eM hr;refine⟨_,aq (ba (i:=3) nd rfl (Or.inl rfl) (aS C1 hr (ai (pv 1) (ai (pv 2) au)))) (aq (bH (bh gG (pv 3) (bw g1) (bC _)) (aw (aL (bE (ai (pv 3) au)))) aX) (aq (bH (gI (nY hu (pv 1) (cI (pv 0) rfl))) (aw (aL (bE (ai (bw g2) au)))) aX) (aq (bH (bh GR (bz iN (by rfl) b1 bf (ai (cI (pv 0) rfl) au)) (bw g4) (bC _)) (aw (aL (bE (ai (bw g3) au)))) aX) (aq (d9 hu (cI (pv 0) rfl) (pv 1) (pv 2) rfl) (aw (aL (bE (ai (bz iN (by rfl) b1 bf (ai (cI (pv 0) rfl) au)) au)))))))),?_⟩;have si:=S.si.step (.stage z t);have e0:aR s (.stage z t)=ma s z t:=rfl;rw[e0]at k si;unfold ma at k si;refine⟨_,rfl,_,rfl,z,ta,t,rfl,bZ.of ht,?_⟩;refine⟨_,rfl,rfl,_,rfl,?_⟩;cases hc:checkText z t with
  |error e=>
   rw[hc]at k
   have hne:e≠0:=by
    unfold checkText at hc;split at hc
    ·cases hc;decide
    ·split at hc
     ·cases hc;decide
     ·cases hc
   refine eP (λ_=>⟨_,rfl,one_le,λp hp=>k.same S (aC hp) (by rw[ao];rfl)⟩) λh=>absurd (V.int.inj h) hne
  |ok x=>
   rw[hc]at k si
   simp only at k si
   obtain⟨rfl,hx,htl⟩:=jN hc
   refine eP (λh=>absurd rfl h) λ_=>?_
   have es:=vT S.t4 S.r4 x
   refine⟨_,rfl,_,rfl,q,C,D.dx,_,_,rfl,S.ob,T.cl,T.n5,iW ..,D.ag,_,rfl,cf (k:=Sum.inl (x:Int)) (.inl S.h4),_,rfl,?_⟩
   rw[es]
   have hlen:(rows D.lg).length=s.staged.length:=by unfold rows;rw[ae,S.t4.len,S.r4.perm.length_eq]
   refine ED (λh1=>?_) λh1=>?_
   ·rw[if_pos h1]at k;exact⟨one_le,λp hp=>k.same S (aC hp) (by rw[ao];rfl)⟩
   ·rw[if_neg (by rw[h1];exact aI)]at k si;refine⟨_,rfl,q,C,D.dx,_,_,rfl,S.ob,T.cl,T.n5,iW ..,D.ag,_,rfl,S.h4,_,_,rfl,rfl,_,rfl,?_⟩;refine qY (λh2=>?_) λh2=>?_
    ·have h2:64<=s.staged.length:=by rw[hlen]at h2;omega
     rw[if_pos h2]at k;exact⟨one_le,λp hp=>k.same S (aC hp) (by rw[ao];rfl)⟩
    ·have h2:¬64<=s.staged.length:=by rw[hlen]at h2;omega
     rw[if_neg h2]at k si;refine⟨_,rfl,_,rfl,q,C,D.dx,_,_,rfl,S.ob,T.cl,T.n5,iW ..,_,rfl,D.ag,_,rfl,kD.k (k:=Sum.inl (x:Int)) S.h4 (by rw[hlen];exact bW (by omega)),?_⟩;rw[gU];have qn:q≠D.ag:=cn S.ob S.h4 (λz=>nomatch z);have nt:ta≠D.ag:=cn ht S.h4 (λz=>nomatch z);have no:∀xs,H D.ag≠some (.lst xs):=λxs z=>by rw[S.h4]at z;cases z
     have hnot:x∉D.lg.map λy=>y.1:=by rw[S.t4.keys];intro m;have:=S.r4.places.mp m;rw[e_.mpr this]at h1;cases h1
     have S2:fG C (upd H D.ag (.dK (rows (dput D.lg x ta)))) q {D with lg:=dput D.lg x ta,dg:=dput D.dg x t} {s with staged:=Vastof.putAt (x,t) s.staged}:=⟨by rw[aA qn];exact S.ob,by rw[aA S.n14];exact S.h1,by rw[aA S.n24];exact S.h2,by rw[aA S.n34];exact S.h3,ao,S.t1.upd no,S.t2.upd no,S.t3.upd no,(S.t4.put ht).upd no,S.r1,S.r2,S.r4.put x t,S.n12,S.n13,S.n14,S.n23,S.n24,S.n34,si⟩;refine⟨_,rfl,q,C,D.dx,_,_,rfl,S2.ob,T.cl,T.n5,iW ..,D.ag,_,rfl,ao,one_le,λp hp=>?_⟩;refine k _ p _ (S2.same (aC hp)) (λb o e nb nk=>?_) ?_
     ·exact aC hp _ _ (by rw[aA (λz=>by rw[z,S.h4]at e;cases e;exact nk _ rfl)];exact e)
     ·rw[ao];have e3:(rows (dput D.lg x ta)).length=s.staged.length+1:=by rw[<-hlen];unfold dput;rw[if_neg hnot];unfold rows;simp
      rw[e3];rfl
end
end Wk
namespace Wk
open PySem PySem.Spec PyProof.Rows L2 WkR
open Vastof (Held State load placesOf textAt has mentions placeSet admitted checkText Answer validPlace)
theorem fG.batch{C:Addr}{H:Hp}{q:Addr}{D:SD}{s:State}(S:fG C H q D s):z9 H D D.ag D.lg D.dg:=⟨S.h4,S.t4,⟨S.r4.nd,λx hx=>S.si.sk x (S.r4.mem.mp hx)⟩,S.n14.symm,S.n24.symm,S.n34.symm⟩
theorem fG.unstage{C:Addr}{H:Hp}{q d:Addr}{D:SD}{s:State}(S:fG C H q D s)(hd:H d=none)(si:SI {s with staged:=[]}):fG C (upd (upd H d (.dK [])) q (.ins C D.dx (sf s.room D.ah D.ap D.ar d))) q {D with ag:=d,lg:=[],dg:=[]} {s with staged:=[]}:=by
 have q1n:D.ah≠q:=cn S.h1 S.ob (λz=>nomatch z);have q2n:D.ap≠q:=cn S.h2 S.ob (λz=>nomatch z);have q3n:D.ar≠q:=cn S.h3 S.ob (λz=>nomatch z);have dq:d≠q:=(aB S.ob hd).symm;have d1:D.ah≠d:=aB S.h1 hd;have d2:D.ap≠d:=aB S.h2 hd;have d3:D.ar≠d:=aB S.h3 hd;have no:∀xs,(upd H d (.dK [])) q≠some (.lst xs):=λxs z=>by rw[aA dq.symm,S.ob]at z;cases z
 have s1:Same H (upd H d (.dK [])):=aC hd;exact⟨ao,by rw[aA q1n];exact s1 _ _ S.h1,by rw[aA q2n];exact s1 _ _ S.h2,by rw[aA q3n];exact s1 _ _ S.h3,by rw[aA dq,ao];rfl,(S.t1.same s1).upd no,(S.t2.same s1).upd no,(S.t3.same s1).upd no,.nil,S.r1,S.r2,DR.nil,S.n12,S.n13,d1,S.n23,d2,d3,si⟩
theorem vU{C q d:Addr}{H:Hp}{o:HO}(hd:H d=none):FK q H (upd (upd H d (.dK [])) q o):=λb u e nb _=>by rw[aA nb,aA (aB e hd)];exact e
section
variable {P:Program}{w:World}{K:aj}{mg:Str->Option Value}{base:Heap}
def i9(C:Addr)(c:bQ):Sp:=λvs H Q _=>∃(q:Addr)(D:SD)(s:State),vs=[.ref q]/\fG C H q D s/\wk C q H (aR s c).1 (aR s c).2 Q
def i_(C:Addr)(c:Int->bQ):Sp:=λvs H Q _=>∃(q:Addr)(D:SD)(s:State)(z:Int),vs=[.ref q,.int z]/\fG C H q D s/\wk C q H (aR s (c z)).1 (aR s (c z)).2 Q
theorem Dl{f C:Addr}{fd:FuncData}(F:eJ K "answer_commit" "answer_commit" jr f fd)(T:gE K C)(C2:dc P w K mg base 5 "admit" ["store","batch"] (uu C)):ck P w K mg base eY 6 f fd ["store"] (i9 C .commit):=by
 refine F.ok lW ?_ ?_
 ·rintro vs H Q E⟨q,D,s,rfl,_⟩;rfl
 ·rintro cdv A outer s H vs Q E hr⟨q,D,s,rfl,S,k⟩;have nd:=lW.nd;refine⟨_,aq (ba (i:=1) nd rfl (Or.inl rfl) (aS C2 hr (ai (pv 0) (ai (cI (pv 0) rfl) au)))) (aq (bH (bh fA (gM ig (pv 1) bI (λ_ _=>rfl)) bI (bC _)) (aw (g9 (pv 0) cW rfl)) aX) (aw (aL (pv 1)))),?_⟩;have si:=S.si.step .commit;have e0:aR s .commit=kC s:=rfl;rw[e0]at k si;unfold kC at k si;have ea:=wz S.si.va S.si.pa S.r4.perm (cq S.si.sa);refine⟨_,rfl,_,rfl,q,C,D.dx,_,_,rfl,S.ob,T.cl,T.n5,iW ..,q,D.ag,D,s,D.lg,D.dg,rfl,S,S.batch,λe he H2 r s2 nr hr2=>?_,λs' new hok H2 r D' S2 e1 e2 e3 e4 e5 e6 b3 nr hr2=>?_⟩
  ·have hne:e≠0:=by
    rcases lH (s:=s) (db:=D.dg)with⟨e',h1,h2⟩|⟨y,h1⟩
    ·rw[he]at h1;cases h1;exact h2
    ·rw[he]at h1;cases h1
   rw[ea]at he;simp only[he]at k;refine⟨_,rfl,r,_,_,_,rfl,rfl,bZ.of hr2,at_of (j:=0) rfl rfl,rfl,_,rfl,?_⟩;refine i8 (λh=>hne (V.int.inj h)) ⟨_,rfl,k.same S s2 (by rw[hr2];rfl)⟩
  ·rw[ea]at hok;simp only[hok]at k si;refine⟨_,rfl,r,_,_,_,rfl,rfl,bZ.of hr2,at_of (j:=0) rfl rfl,rfl,_,rfl,?_⟩;refine wQ rfl ?_;intro d hd;have dq:q≠d:=aB S2.ob hd;refine⟨_,rfl,q,C,D'.dx,_,rfl,(by rw[aA dq];exact S2.ob),T.cl,T.n5,(by show 5<1000;decide),?_⟩;rw[pQ];have rq:r≠q:=cn hr2 S2.ob (λz=>nomatch z);have rd:r≠d:=aB hr2 hd;refine⟨_,rfl,k _ r _ (S2.unstage hd si) (λb o e nb nk=>?_) ?_⟩
   ·exact(vU (C:=C) hd) b o (FK.of3 S.h1 S.h2 S.h3 b3 b o e nb nk) nb nk
   ·show upd (upd H2 d (.dK [])) q _ r=_;rw[aA rq,aA rd,hr2];exact congrArg (λl=>some (HO.lst l)) (rj 0 new).symm
theorem Gp{f C:Addr}{fd:FuncData}(F:eJ K "answer_drop" "answer_drop" k_ f fd)(T:gE K C)(b1:mg "len"=none):ck P w K mg base eY 1 f fd ["store"] (i9 C .drop):=by
 refine F.ok oh ?_ ?_
 ·rintro vs H Q E⟨q,D,s,rfl,_⟩;rfl
 ·rintro cdv A outer s H vs Q E hr⟨q,D,s,rfl,S,k⟩;have nd:=oh.nd;refine⟨_,aq (ba (i:=1) nd rfl (Or.inl rfl) (bz iN (by rfl) b1 bf (ai (cI (pv 0) rfl) au))) (aq (g9 (pv 0) cW rfl) (aw (aL (bE (ai (pv 1) au))))),?_⟩;have si:=S.si.step .drop;refine⟨_,rfl,q,C,D.dx,_,_,rfl,S.ob,T.cl,T.n5,iW ..,D.ag,_,rfl,S.h4,?_⟩;intro d hd;have dq:q≠d:=aB S.ob hd;refine⟨_,rfl,q,C,D.dx,_,rfl,(by rw[aA dq];exact S.ob),T.cl,T.n5,(by show 5<1000;decide),?_⟩;rw[pQ];refine⟨_,rfl,one_le,λp hp=>k _ p _ ((S.unstage hd si).same (aC hp)) ((vU (C:=C) hd).same (aC hp)) ?_⟩;have hlen:(rows D.lg).length=s.staged.length:=by unfold rows;rw[ae,S.t4.len,S.r4.perm.length_eq]
  rw[ao,hlen];rfl
theorem HQ{f C:Addr}{fd:FuncData}(F:eJ K "answer_get" "answer_get" mG f fd)(T:gE K C)(g1:GI mg "NO_REFUSAL" 0)(C1:dc P w K mg base 2 "place_refusal" ["store","p"] (fH C)):ck P w K mg base eY 3 f fd ["store","p"] (i_ C .get):=by
 refine F.ok pK ?_ ?_
 ·rintro vs H Q E⟨q,D,s,z,rfl,_⟩;rfl
 ·rintro cdv A outer s H vs Q E hr⟨q,D,s,z,rfl,S,k⟩;have nd:=pK.nd;have hu:=eM hr;refine⟨_,aq (ba (i:=2) nd rfl (Or.inl rfl) (aS C1 hr (ai (pv 0) (ai (pv 1) au)))) (aq (bH (bh gG (pv 2) (bw g1) (bC _)) (aw (aL (bE (ai (pv 2) au)))) aX) (aw (aL (cZ fB (bE (ai bI au)) (cp hu (cI (pv 0) rfl) (pv 1) (λ_ _=>rfl)))))),?_⟩;have e0:aR s (.get z)=f9 s z λx=>cJ ((textAt s.valid x).getD []):=rfl;rw[e0]at k;unfold f9 at k;refine⟨_,rfl,_,rfl,q,z,D,s,rfl,S,?_⟩;refine⟨_,rfl,rfl,_,rfl,?_⟩;rcases gD s z with⟨h1,h2⟩|⟨x,rfl,h1,⟨h3,h2⟩|⟨h3,h2⟩⟩
  ·rw[h2]at k⊢;exact eP (λ_=>⟨_,rfl,one_le,λp hp=>k.same S (aC hp) (by rw[ao];rfl)⟩) λh=>absurd (V.int.inj h) (by decide)
  ·rw[h2]at k⊢;exact eP (λ_=>⟨_,rfl,one_le,λp hp=>k.same S (aC hp) (by rw[ao];rfl)⟩) λh=>absurd (V.int.inj h) (by decide)
  ·rw[h2]at k⊢;refine eP (λh=>absurd rfl h) λ_=>⟨one_le,λp hp=>?_⟩;have S1:=S.same (aC (o:=.lst [.int 0]) hp);rcases oG S1.t1 S1.r1 x with⟨a1,a2,a3⟩|⟨ad,t,a1,a2,a3,a4,a5⟩
   ·exact absurd h3 a2
   ·refine⟨_,rfl,q,C,D.dx,_,_,rfl,S1.ob,T.cl,T.n2,fc ..,_,rfl,D.ah,V.ref ad,rfl,?_,p,ad,_,_,rfl,rfl,ao,a5,?_,λp2 hp2=>?_⟩
    ·have g:=cf (k:=Sum.inl (x:Int)) (.inl S1.h1:Rd _ D.ah (.dK (rows D.lh)));rw[a4]at g;exact g
    ·have:=(S.si.pk _ (S.si.vp _ a2)).2.1;show 1+(tx t).length<=sizeLine;rw[ae];exact cB (bW (by simp at this;omega))
    ·refine k.same S ((aC hp).trans (aC hp2)) ?_;rw[ao];show some (HO.lst ([V.int 0]++tx t))=some (HO.lst (Aa (cJ ((textAt s.valid x).getD []))));rw[a1];exact congrArg (λl=>some (HO.lst l)) (rj 0 t).symm
theorem Dm{f C:Addr}{fd:FuncData}(F:eJ K "answer_pinned" "answer_pinned" js f fd)(T:gE K C)(g1:GI mg "PLACE" (-1))(g2:GI mg "ABSENT" (-7))(C1:dc P w K mg base 1 "is_place" ["number"] jV):ck P w K mg base eY 2 f fd ["store","p"] (i_ C .pinned):=by
 refine F.ok rX ?_ ?_
 ·rintro vs H Q E⟨q,D,s,z,rfl,_⟩;rfl
 ·rintro cdv A outer s H vs Q E hr⟨q,D,s,z,rfl,S,k⟩;have hu:=eM hr;refine⟨_,aq (bH (jj (fh (aS C1 hr (ai (pv 1) au)))) (aw (aL (bE (ai (bw g1) au)))) aX) (aq (bH (gI (gw hu (pv 1) (cI (pv 0) rfl))) (aw (aL (bE (ai (bw g2) au)))) aX) (aw (aL (cZ fB (bE (ai bI au)) (cp hu (cI (pv 0) rfl) (pv 1) (λ_ _=>rfl)))))),?_⟩;have e0:aR s (.pinned z)=match me z with
   |none=>cX s Fy
   |some x=>match textAt s.pins x with
    |some t=>(s,cJ t)
    |none=>cX s Vastof.ABSENT:=rfl
  rw[e0]at k;refine⟨_,rfl,z,rfl,_,rfl,?_⟩;refine eP (λh1=>?_) λh1=>?_
  ·have e:me z=none:=p9.mpr h1;rw[e]at k;exact⟨one_le,λp hp=>k.same S (aC hp) (by rw[ao];rfl)⟩
  ·obtain⟨x,rfl⟩:∃x:Nat,z=(x:Int):=⟨z.toNat,by omega⟩;have e:me (x:Int)=some x:=C7 (by omega);rw[e]at k;simp only at k;refine⟨_,rfl,_,rfl,q,C,D.dx,_,_,rfl,S.ob,T.cl,T.n3,o7 ..,D.ap,_,rfl,cf (k:=Sum.inl (x:Int)) (.inl S.h2),_,rfl,?_⟩;rcases oG S.t2 S.r2 x with⟨a1,a2,a3⟩|⟨ad,t,a1,a2,a3,a4,a5⟩
   ·rw[a3];rw[a1]at k;exact iE ⟨one_le,λp hp=>k.same S (aC hp) (by rw[ao];rfl)⟩
   ·rw[a4];rw[a1]at k;refine gx ⟨one_le,λp hp=>?_⟩;have s1:=aC (o:=.lst [.int 0]) hp;have S1:=S.same s1;refine⟨_,rfl,q,C,D.dx,_,_,rfl,S1.ob,T.cl,T.n3,o7 ..,_,rfl,D.ap,V.ref ad,rfl,?_,p,ad,_,_,rfl,rfl,ao,s1 _ _ a5,?_,λp2 hp2=>?_⟩
    ·have g:=cf (k:=Sum.inl (x:Int)) (.inl S1.h2:Rd _ D.ap (.dK (rows D.lp)));rw[a4]at g;exact g
    ·have:=(S.si.pk _ a2).2.1;show 1+(tx t).length<=sizeLine;rw[ae];exact cB (bW (by simp at this;omega))
    ·refine k.same S (s1.trans (aC hp2)) ?_;rw[ao];exact congrArg (λl=>some (HO.lst l)) (rj 0 t).symm
theorem Dn{f C:Addr}{fd:FuncData}(F:eJ K "answer_counts" "answer_counts" jt f fd)(T:gE K C)(b1:mg "len"=none)(C1:dc P w K mg base 1 "load_of" ["store"] (rg C)):ck P w K mg base eY 2 f fd ["store"] (i9 C .counts):=by
 refine F.ok rY ?_ ?_
 ·rintro vs H Q E⟨q,D,s,rfl,_⟩;rfl
 ·rintro cdv A outer s H vs Q E hr⟨q,D,s,rfl,S,k⟩;refine⟨_,aw (aL (bE (ai (bz iN (by rfl) b1 bf (ai (cI (pv 0) rfl) au)) (ai (aS C1 hr (ai (pv 0) au)) (ai (bz iN (by rfl) b1 bf (ai (cI (pv 0) rfl) au)) (ai (bz iN (by rfl) b1 bf (ai (cI (pv 0) rfl) au)) au)))))),?_⟩;refine⟨_,rfl,q,C,D.dx,_,_,rfl,S.ob,T.cl,T.n2,fc ..,D.ah,_,rfl,S.h1,_,rfl,q,D,s,rfl,S,λH1 s1=>?_⟩;have S1:=S.same s1;refine⟨_,rfl,q,C,D.dx,_,_,rfl,S1.ob,T.cl,T.n5,iW ..,D.ag,_,rfl,S1.h4,_,rfl,q,C,D.dx,_,_,rfl,S1.ob,T.cl,T.n3,o7 ..,D.ap,_,rfl,S1.h2,(by show 4<=sizeLine;decide),λp hp=>k.same S (s1.trans (aC hp)) ?_⟩;have h1:(rows D.lh).length=s.valid.length:=by unfold rows;rw[ae,S.t1.len,S.r1.perm.length_eq]
  have h2:(rows D.lp).length=s.pins.length:=by unfold rows;rw[ae,S.t2.len,S.r2.perm.length_eq]
  have h3:(rows D.lg).length=s.staged.length:=by unfold rows;rw[ae,S.t4.len,S.r4.perm.length_eq]
  rw[ao,h1,h2,h3];exact congrArg (λl=>some (HO.lst l)) (rj _ [load s.valid,s.staged.length,s.pins.length]).symm
end
end Wk
namespace Wk
open PySem PySem.Spec PyProof.Rows L2 WkR
open Vastof (Held State load placesOf textAt has mentions placeSet Graph listAt)
inductive RA(g:Graph)(av:List Nat):Nat->Nat->Prop
 |refl {p:Nat}:p∉av->RA g av p p
 |step {p q r:Nat}:RA g av p q->r∈listAt g q->r∉av->RA g av p r
theorem dD{g:Graph}(hn:(g.map λx=>x.1).Nodup){p:Nat}{l:List Nat}(h:(p,l)∈g):listAt g p=l:=by unfold aG;rw[h_ hn h]
structure Cp(g:Graph)(U starts av f wt:List Nat):Prop where
 nd:f.Nodup
 dj:∀x∈f,x∉av
 so:∀x∈f,∃p∈starts,RA g av p x
 ws:∀x∈wt,x∈starts\/∃y∈f,x∈listAt g y
 st:∀p∈starts,p∈av\/p∈f\/p∈wt
 cl:∀y∈f,∀x∈listAt g y,x∈av\/x∈f\/x∈wt
 fu:∀x∈f,x∈U
 wu:∀x∈wt,x∈U
 ln:wt.length<=starts.length+1024*f.length
theorem Cp.start{g:Graph}{U starts av:List Nat}(h:∀p∈starts,p∈U):Cp g U starts av [] starts:=⟨cA,by simp,by simp,λx hx=>.inl hx,λp hp=>.inr (.inr hp),by simp,by simp,h,by simp⟩
theorem Cp.old{g:Graph}{U starts av f wt:List Nat}{p:Nat}(I:Cp g U starts av f (wt++[p]))(hp:p∈av++f):Cp g U starts av f wt:=by
 have sp:∀x,x∈av\/x∈f\/x∈wt++[p]->x∈av\/x∈f\/x∈wt:=by
  rintro x(h|h|h)
  ·exact .inl h
  ·exact .inr (.inl h)
  ·rcases aD.mp h with h|h
   ·exact .inr (.inr h)
   ·rw[aE.mp h];rcases aD.mp hp with h|h
    ·exact .inl h
    ·exact .inr (.inl h)
 exact⟨I.nd,I.dj,I.so,λx hx=>I.ws x (aQ _ hx),λq hq=>sp q (I.st q hq),λy hy x hx=>sp x (I.cl y hy x hx),I.fu,λx hx=>I.wu x (aQ _ hx),by have:=I.ln;simp at this;omega⟩
theorem Cp.new{g:Graph}{U starts av f wt:List Nat}{p:Nat}(hU:∀p∈U,(listAt g p).length<=1024/\∀q∈listAt g p,q∈U)(I:Cp g U starts av f (wt++[p]))(hp:p∉av++f):Cp g U starts av (f++[p]) (wt++listAt g p):=by
 have hpa:p∉av:=λh=>hp (aQ _ h);have hpf:p∉f:=λh=>hp (bN _ h);have pu:p∈U:=I.wu p (by simp);have sp:∀x,x∈av\/x∈f\/x∈wt++[p]->x∈av\/x∈f++[p]\/x∈wt++listAt g p:=by
  rintro x(h|h|h)
  ·exact .inl h
  ·exact .inr (.inl (aQ _ h))
  ·rcases aD.mp h with h|h
   ·exact .inr (.inr (aQ _ h))
   ·exact .inr (.inl (bN _ h))
 refine⟨gz I.nd hpf,λx hx=>?_,λx hx=>?_,λx hx=>?_,λq hq=>sp q (I.st q hq),λy hy x hx=>?_,λx hx=>?_,λx hx=>?_,?_⟩
 ·rcases aD.mp hx with h|h
  ·exact I.dj x h
  ·rw[aE.mp h];exact hpa
 ·rcases aD.mp hx with h|h
  ·exact I.so x h
  ·rw[aE.mp h];rcases I.ws p (by simp)with h1|⟨y,hy,h1⟩
   ·exact⟨p,h1,.refl hpa⟩
   ·obtain⟨q,hq,r⟩:=I.so y hy;exact⟨q,hq,.step r h1 hpa⟩
 ·rcases aD.mp hx with h|h
  ·rcases I.ws x (aQ _ h)with h1|⟨y,hy,h1⟩
   ·exact .inl h1
   ·exact .inr ⟨y,aQ _ hy,h1⟩
  ·exact .inr ⟨p,by simp,h⟩
 ·rcases aD.mp hy with h|h
  ·exact sp x (I.cl y h x hx)
  ·rw[aE.mp h]at hx;exact .inr (.inr (bN _ hx))
 ·rcases aD.mp hx with h|h
  ·exact I.fu x h
  ·rw[aE.mp h];exact pu
 ·rcases aD.mp hx with h|h
  ·exact I.wu x (aQ _ h)
  ·exact(hU p pu).2 x h
 ·have h1:=I.ln;have h2:=(hU p pu).1;simp at h1⊢;omega
theorem Cp.done{g:Graph}{U starts av f:List Nat}(I:Cp g U starts av f [])(x:Nat):x∈f↔∃p∈starts,RA g av p x:=by
 constructor
 ·exact I.so x
 ·rintro⟨p,hp,r⟩;induction r with
  |refl h=>
   rcases I.st _ hp with z|z|z
   ·exact absurd z h
   ·exact z
   ·cases z
  |step _ h1 h2 ih=>
   rcases I.cl _ (ih) _ h1 with z|z|z
   ·exact absurd z h2
   ·exact z
   ·cases z
theorem Cp.flen{g:Graph}{U starts av f wt:List Nat}(I:Cp g U starts av f wt):f.length<=U.length:=aO I.nd I.fu
theorem lK{n:Nat}(h:n<=2000000):n<sizeLine:=bX h (by decide)
section
variable {P:Program}{w:World}{K:aj}{mg:Str->Option Value}{base:Heap}
def ro(K:aj):Sp:=λvs H Q _=>∃(ad ast am:Addr)(g:Graph)(ll:List (Nat×Addr))(U starts av:List Nat),vs=[.ref ad,.ref ast,.ref am]/\H ad=some (.dK (rows ll))/\gF H ll g/\(g.map λx=>x.1).Nodup/\bZ K H ast (tx starts)/\H am=some (.dK (kt av))/\ad≠am/\U.length<=1024/\(∀p∈starts,p∈U)/\(∀p∈U,p∈g.map λx=>x.1)/\(∀p∈U,(listAt g p).length<=1024/\∀q∈listAt g p,q∈U)/\starts.length<=1024/\av.length<=1024/\∀H' r f,g8 am H H'->H' am=some (.dK (kt (av++f)))->f.Nodup->(∀x∈f,x∉av)->(∀x,x∈f↔∃p∈starts,RA g av p x)->f.length<=1024->H r=none->r≠am->H' r=some (.lst (tx (placeSet f)))->Q (.ref r) H'
theorem Dq{f:Addr}{fd:FuncData}(F:eJ K "spread" "spread" vn f fd)(b1:mg "len"=none)(b2:mg "list"=none)(b3:mg "sorted"=none):ck P w K mg base eY 1 f fd ["links","starts","met"] (ro K):=by
 refine F.ok xN ?_ ?_
 ·rintro vs H Q E⟨ad,ast,am,g,ll,U,starts,av,rfl,_⟩;rfl
 ·rintro cdv A outer s H vs Q E hr⟨ad,ast,am,g,ll,U,starts,av,rfl,hd,tl,gn,hS,hm,nam,hU,hsU,hUk,hUc,hsl,hav,k⟩;have nd:=xN.nd;have hu:=eM hr;refine⟨_,aq (ba (i:=3) nd rfl (Or.inl rfl) (bE au)) (aq (ba (i:=4) nd rfl (Or.inl rfl) (iL yf (by rfl) b2 Ce (ai (pv 1) au))) (aq (jd PassesOwn.never (bh je (bz (lE (K:=K) rfl) (by rfl) b1 bf (ai (pv 4) au)) bI (bC _)) (aq (ba (i:=5) nd rfl (Or.inl rfl) (AS aU rE rF AV (pv 4))) (aw (bH (gI (gw hu (pv 5) (pv 2))) (aq (d9 hu (pv 2) (pv 5) iI rfl) (aq (dr (gH aU bR bS eX (pv 3) (ai (pv 5) au))) (aw (dr (gH aU cu cv fU (pv 4) (ai (cp hu (pv 0) (pv 5) (λ_ _=>rfl)) au)))))) aX)))) (aw (aL (bz mD (by rfl) b3 ib (ai (pv 3) au)))))),?_⟩;refine⟨aV _,λa3 n3=>⟨_,rfl,ast,_,rfl,.inl ((aC n3).seq hS),λa4 n4=>?_⟩⟩;have s1:Same H (upd (upd H a3 (.lst [])) a4 (.lst (tx starts))):=(aC n3).trans (aC n4);have n34:a3≠a4:=aB ao n4;have n4':H a4=none:=(aC n3).free n4;have hm3:am≠a3:=aB hm n3;have hm4:am≠a4:=aB hm n4';refine⟨λm σ' H'=>∃(f' wt:List Nat)(v:Option V),σ'=[some (.ref ad),some (.ref ast),some (.ref am),some (.ref a3),some (.ref a4),v]/\g8 am H H'/\H' a3=some (.lst (tx f'))/\H' a4=some (.lst (tx wt))/\H' am=some (.dK (kt (av++f')))/\Cp g U starts av f' wt/\m=(U.length-f'.length)*1025+wt.length,⟨_,[],starts,none,rfl,λb o e _=>s1 b o e,by rw[aA n34,ao];rfl,ao,by rw[aA hm4,aA hm3,hm,cP],Cp.start hsU,rfl⟩,?_⟩;rintro m σ' H'⟨f',wt,v,rfl,bt,h3,h4,hm',I,rfl⟩;refine⟨_,rfl,a4,_,rfl,bZ.of h4,_,_,rfl,rfl,_,rfl,?_⟩;have hl:(tx wt).length=wt.length:=ae ..;refine qY (λhpos=>?_) λhpos=>?_
  ·have hpos:0<wt.length:=by rw[hl]at hpos;omega
   obtain⟨w0,p,rfl⟩:∃w0 p,wt=w0++[p]:=by
    rcases rG wt with h|⟨w0,p,h⟩
    ·rw[h]at hpos;simp at hpos
    ·exact⟨w0,p,by simpa using h⟩
   refine⟨_,λ_ _ h=>h,?_⟩;refine⟨_,rfl,.inl ⟨rfl,_,bZ.of h4⟩,a4,_,V.int (p:Nat),rfl,rfl,h4,?_,?_⟩
   ·rw[hl];simp[tx]
   ·have e1:(tx (w0++[p])).dropLast=tx w0:=by simp[tx]
    rw[e1];have m4:am≠a4:=hm4;have hk:=lG p (av++f');refine⟨_,rfl,_,rfl,am,_,rfl,cf (k:=Sum.inl (p:Int)) (.inl (by rw[aA m4];exact hm')),_,rfl,?_⟩;rw[hk];by_cases hin:p∈av++f'
    ·rw[if_pos hin];refine gx ⟨_,?_,f',w0,_,rfl,λb o e nb=>?_,?_,ao,?_,I.old hin,rfl⟩
     ·simp
     ·rw[aA (aB e n4')];exact bt b o e nb
     ·rw[aA n34];exact h3
     ·rw[aA m4];exact hm'
    ·rw[if_neg hin];refine iE ?_;have pu:p∈U:=I.wu p (by simp);have I2:=I.new hUc hin;have fl:=I2.flen;simp at fl;refine⟨_,rfl,_,rfl,am,_,rfl,kD.k (k:=Sum.inl (p:Int)) (by rw[aA m4];exact hm') ?_,?_⟩
     ·unfold kt;rw[ae,bD];exact bW (by omega)
     ·rw[ku hin];generalize hH5:upd (upd H' a4 (.lst (tx w0))) am (.dK (kt (av++f'++[p])))=H5;have w5:∀{x:Addr},x≠am->x≠a4->H5 x=H' x:=λh1 h2=>by rw[<-hH5,aA h1,aA h2]
      have h35:H5 a3=some (.lst (tx f')):=(w5 hm3.symm n34).trans h3;refine⟨_,rfl,.inl ⟨rfl,_,bZ.of h35⟩,_,rfl,a3,_,_,rfl,rfl,h35,?_,?_⟩
      ·rw[ae];exact bW (by omega)
      ·generalize hH6:upd H5 a3 (.lst (tx f'++[V.int (p:Nat)]))=H6;have w6:∀{x:Addr},x≠a3->H6 x=H5 x:=λh1=>by rw[<-hH6,aA h1]
       have h46:H6 a4=some (.lst (tx w0)):=by rw[w6 n34.symm,<-hH5,aA m4.symm,ao]
       have hd6:H6 ad=some (.dK (rows ll)):=by have:ad≠a3:=aB hd n3;rw[w6 this,w5 nam (aB hd n4')];exact bt _ _ hd nam
       rcases tl.get p with⟨c1,c2⟩|⟨aa,t,c1,c2,c3,c4⟩
       ·exact absurd (hUk p pu) c1
       ·have et:listAt g p=t:=dD gn c1;have a3n:aa≠a3:=aB c4 n3;have a4n:aa≠a4:=aB c4 n4';have amn:aa≠am:=cn c4 hm (λz=>nomatch z);have c46:H6 aa=some (.lst (tx t)):=by rw[w6 a3n,w5 amn a4n];exact bt _ _ c4 amn
        refine⟨_,rfl,.inl ⟨rfl,_,bZ.of h46⟩,_,rfl,_,rfl,ad,V.ref aa,rfl,?_,a4,aa,_,_,rfl,rfl,h46,c46,?_,?_⟩
        ·have gg:=cf (k:=Sum.inl (p:Int)) (.inl hd6:Rd H6 ad (.dK (rows ll)));rw[c3]at gg;exact gg
        ·have h1:=I2.ln;rw[bD,et]at h1;rw[ae,ae];simp at h1;exact cB (lK (by omega))
        ·refine⟨_,?_,f'++[p],w0++listAt g p,_,rfl,λb o e nb=>?_,?_,?_,?_,I2,rfl⟩
         ·have h1:=(hUc p pu).1;simp;have h3:(U.length-f'.length)*1025=(U.length-(f'.length+1))*1025+1025:=by
           have:U.length-f'.length=(U.length-(f'.length+1))+1:=by omega
           rw[this];omega
          omega
         ·rw[aA (aB e n4'),w6 (aB e n3),w5 nb (aB e n4')];exact bt b o e nb
         ·rw[aA n34,<-hH6,ao];simp[tx]
         ·rw[ao,et];simp[tx]
         ·rw[aA m4,w6 hm3,<-hH5,ao,nJ]
  ·have hpos:wt=[]:=bP (by rw[hl]at hpos;omega);subst hpos;refine⟨_,rfl,a3,f'.map λ(n:Nat)=>(n:Int),rfl,bZ.of (by rw[h3,de]),λzs r hp hs hr'=>?_⟩;have ez:=ic hp hs I.nd;have nr:H r=none:=by
    cases z:H r with
    |none=>rfl
    |some o=>
     by_cases zz:r=am
     ·rw[zz,hm']at hr';cases hr'
     ·rw[bt _ _ z zz]at hr';cases hr'
   have ram:r≠am:=λz=>by rw[z,hm']at hr';cases hr'
   refine k _ r f' (λb o e nb=>?_) ?_ I.nd I.dj I.done (ay I.flen hU) nr ram ?_
   ·rw[aA (aB e nr)];exact bt b o e nb
   ·rw[aA ram.symm];exact hm'
   ·rw[ao,ez,de]
end
end Wk
namespace Wk
open PySem PySem.Spec PyProof.Rows L2 WkR
open Vastof (Held State load placesOf textAt has mentions placeSet Graph)
theorem Cq{H H1:Hp}{d:Addr}{od:Obj}{kvs:List (Key×V)}(s:Same H H1):Same (lk H d od kvs) (lk H1 d od kvs):=λb o e=>by
 by_cases z:b=d
 ·subst z;have e:upd H b _ b=some o:=e;rw[ao]at e;show upd H1 b _ b=some o;rw[ao];exact e
 ·have e:upd H d _ b=some o:=e;rw[aA z]at e;show upd H1 d _ b=some o;rw[aA z];exact s _ _ e
structure RT(H0 H':Hp)(R:Addr)(lr:List (Nat×Addr))(ps:List Nat)(cont:Nat->List Nat):Prop where
 hR:H' R=some (.dK (rows lr))
 ks:lr.map (λx=>x.1)=ps
 an:(lr.map λx=>x.2).Nodup
 nw:∀x∈lr,H0 x.2=none/\x.2≠R
 at_:∀x∈lr,H' x.2=some (.lst (tx (cont x.1)))
theorem RT.tat{H0 H':Hp}{R:Addr}{lr:List (Nat×Addr)}{ps:List Nat}{cont:Nat->List Nat}(h:RT H0 H' R lr ps cont):gF H' lr (ps.map λp=>(p,cont p)):=by
 rw[<-h.ks,aK];have key:∀l:List (Nat×Addr),(∀x∈l,H' x.2=some (.lst (tx (cont x.1))))->gF H' l (l.map λx=>(x.1,cont x.1)):=by
  intro l;induction l with
  |nil=>intro _;exact .nil
  |cons x l ih=>intro hx;exact .cons ⟨rfl,hx x (aY ..)⟩ (ih λy hy=>hx y (aJ _ hy))
 exact key lr h.at_
theorem oK{α β:Type}:∀{l:List (α×β)},(l.map λx=>x.2).Nodup->∀{x y:α×β},x∈l->y∈l->x.2=y.2->x=y
 |[],_,_,_,hx,_,_=>by cases hx
 |z::l,hn,x,y,hx,hy,e=>by
  have hn:(z.2::l.map λx=>x.2).Nodup:=hn;obtain⟨h1,h2⟩:=bO.mp hn;rcases aF.mp hx with hx2|hx2
  ·rcases aF.mp hy with hy2|hy2
   ·rw[hx2,hy2]
   ·exact absurd (by rw[<-hx2,e];exact az.mpr ⟨y,hy2,rfl⟩) h1
  ·rcases aF.mp hy with hy2|hy2
   ·exact absurd (by rw[<-hy2,<-e];exact az.mpr ⟨x,hx2,rfl⟩) h1
   ·exact oK h2 hx2 hy2 e
def iX(g:Graph)(l:List Nat)(p:Nat):List Nat:=l.filter λy=>(aG g y).contains p
def tb1:TS:=B9 (fg 2) (fg 3) (D5 nv)
def tb2(K:aj):TS:=FQ (BS K (xD (FV K (fg 0) "references") (fg 3))) (kJ 4) (xq (Iq K "list" qE (xD (fg 2) (fg 4)) (jX (fg 3) nv)))
def Jq(q a R:Addr)(ps:List Nat)(H0:Hp)(i:Nat)(σ:L2.St)(H':Hp):Prop:=∃(v:Option V)(lr:List (Nat×Addr)),σ=[some (.ref q),some (.ref a),some (.ref R),v,none]/\Same H0 H'/\RT H0 H' R lr (ps.take i) λ_=>[]
theorem Hc{q a R:Addr}{ps:List Nat}{H0:Hp}{i p:Nat}{σ:L2.St}{H':Hp}{E:Ends}(hps:ps.Nodup)(hsz:ps.length<=2000)(hR0:H0 R=none)(hp:ps[i]?=some p)(I:Jq q a R ps H0 i σ H')(hE:∀σ H,Jq q a R ps H0 (i+1) σ H->E.nx σ H):tb1 E (σ.set 3 (some (.int (p:Nat)))) H':=by
 obtain⟨v,lr,rfl,sm,I⟩:=I;have hi:i<ps.length:=(aM.mp hp).1;have e:ps.take (i+1)=ps.take i++[p]:=by rw[aT,hp];rfl
 have hnew:p∉lr.map λx=>x.1:=by rw[I.ks];have h5:(ps.take i++[p]).Nodup:=e▸hps.sublist (b_ _ _);intro z;exact(be.mp h5).2.2 p z p (by simp) rfl
 refine⟨aV _,λx hx=>?_⟩;have xR:R≠x:=aB I.hR hx;have x0:H0 x=none:=sm.free hx;have hl:(rows lr).length<sizeLine:=by
  have:lr.length=(ps.take i).length:=by rw[<-I.ks,ae]
  unfold rows;rw[ae,this];exact bW (ay (br ..) (by omega))
 refine⟨_,rfl,_,rfl,R,_,rfl,kD.k (k:=Sum.inl (p:Int)) (by rw[aA xR];exact I.hR) hl,hE _ _ ?_⟩;refine⟨_,lr++[(p,x)],rfl,(sm.new x0).new hR0,?_,?_,?_,?_,?_⟩
 ·rw[ao,gU];unfold dput;rw[if_neg hnew]
 ·rw[aW,I.ks,e];rfl
 ·rw[aW];refine gz I.an λm=>?_;obtain⟨y,hy,ey⟩:=az.mp m;have:=I.at_ y hy;rw[show y.2=x from ey,hx]at this;cases this
 ·intro y hy;rcases aD.mp hy with h|h
  ·exact I.nw y h
  ·rw[aE.mp h];exact⟨x0,xR.symm⟩
 ·intro y hy;rcases aD.mp hy with h|h
  ·have h1:=I.at_ y h;rw[aA (I.nw y h).2,aA (aB h1 hx)];exact h1
  ·rw[aE.mp h];show upd (upd H' x _) R _ x=_;rw[aA xR.symm,ao];rfl
def Jr(q a R:Addr)(ps:List Nat)(g:Graph)(H0:Hp)(i:Nat)(σ:L2.St)(H':Hp):Prop:=∃(v v':Option V)(lr:List (Nat×Addr)),σ=[some (.ref q),some (.ref a),some (.ref R),v,v']/\Same H0 H'/\RT H0 H' R lr ps (iX g (ps.take i))
theorem Hd{K:aj}{C:Addr}(T:gE K C){q a R:Addr}{D:SD}{rm:Nat}{ps:List Nat}{g:Graph}{H0:Hp}{i p:Nat}{σ:L2.St}{H':Hp}{E:Ends}(hps:ps.Nodup)(hsz:ps.length<=2000)(hR0:H0 R=none)(ob:H0 q=some (.ins C D.dx (sf rm D.ah D.ap D.ar D.ag)))(hr:H0 D.ar=some (.dK (rows D.lr)))(tr:gF H0 D.lr g)(gn:(g.map λx=>x.1).Nodup)(hk:p∈g.map λx=>x.1)(hcl:(aG g p).Nodup/\∀x∈aG g p,x∈ps)(hp:ps[i]?=some p)(I:Jr q a R ps g H0 i σ H')(hE:∀σ H,Jr q a R ps g H0 (i+1) σ H->E.nx σ H):tb2 K E (σ.set 3 (some (.int (p:Nat)))) H':=by
 obtain⟨v,v',lr,rfl,sm,I⟩:=I;have e:ps.take (i+1)=ps.take i++[p]:=by rw[aT,hp];rfl
 rcases tr.get p with⟨c1,_⟩|⟨la,t,c1,c2,c3,c4⟩
 ·exact absurd hk c1
 have et:aG g p=t:=dD gn c1;rw[et]at hcl;refine⟨_,rfl,q,C,D.dx,_,_,rfl,sm _ _ ob,T.cl,T.n4,kY ..,_,rfl,D.ar,V.ref la,rfl,?_,la,rfl,⟨_,bZ.of (sm _ _ c4)⟩,?_⟩
 ·have gg:=cf (k:=Sum.inl (p:Int)) (.inl (sm _ _ hr):Rd H' D.ar (.dK (rows D.lr)));rw[c3]at gg;exact gg
 ·refine eK (K:=K) (a:=la) (xs:=tx t) (λj σ' H2=>∃(v':Option V),σ'=[some (.ref q),some (.ref a),some (.ref R),some (.int (p:Nat)),v']/\Same H0 H2/\RT H0 H2 R lr ps λx=>iX g (ps.take i) x++if x∈t.take j then[p]else[]) ⟨v',rfl,sm,⟨I.hR,I.ks,I.an,I.nw,λx hx=>by simp only[BK,Jk,if_false,cP];exact I.at_ x hx⟩⟩ (λj σ' H2 _⟨_,_,s2,_⟩=>bZ.of (s2 _ _ c4)) ?_ ?_
  ·rintro j x σ' H2 hx⟨v',rfl,s2,I2⟩;obtain⟨n,hn,rfl⟩:=cD hx;have hnp:n∈ps:=hcl.2 n (aP hn);have et2:t.take (j+1)=t.take j++[n]:=by rw[aT,hn];rfl
   have hnt:n∉t.take j:=by have h5:(t.take j++[n]).Nodup:=et2▸hcl.1.sublist (b_ _ _);intro z;exact(be.mp h5).2.2 n z n (by simp) rfl
   have hn2:n∈lr.map λx=>x.1:=by rw[I2.ks];exact hnp
   obtain⟨y,hy,ey⟩:=az.mp hn2;obtain⟨jy,hjy⟩:=kH hy;have lnd:(lr.map λx=>x.1).Nodup:=by rw[I2.ks];exact hps
   have hv:=fF lnd hjy;rw[ey]at hv;have hat:=I2.at_ y hy;rw[ey]at hat;simp only[if_neg hnt,cP]at hat;refine⟨_,rfl,_,rfl,R,V.ref y.2,rfl,?_,.inl ⟨rfl,_,bZ.of hat⟩,_,rfl,y.2,_,_,rfl,rfl,hat,?_,?_⟩
   ·have gg:=cf (k:=Sum.inl (n:Int)) (.inl I2.hR:Rd H2 R (.dK (rows lr)));rw[hv]at gg;exact gg
   ·rw[ae];unfold iX;exact bW (ay (bp ..) (ay (br ..) (by omega)))
   ·refine⟨_,rfl,s2.new (I2.nw y hy).1,⟨by rw[aA (I2.nw y hy).2.symm];exact I2.hR,I2.ks,I2.an,I2.nw,λz hz=>?_⟩⟩;by_cases hzy:z=y
    ·subst hzy;rw[ao,ey,et2];simp[tx]
    ·have ne:z.2≠y.2:=λq=>hzy (oK I2.an hz hy q);have nk:z.1≠n:=λq=>hzy (by
      obtain⟨jz,hjz⟩:=kH hz;have:=fF lnd hjz;rw[q,hv]at this;have:y.2=z.2:=by injection this with h;injection h
      exact oK I2.an hz hy this.symm)
     rw[aA ne,I2.at_ z hz,et2];simp[nk]
  ·rintro σ' H2⟨v',rfl,s2,I2⟩;refine hE _ _ ⟨_,_,lr,rfl,s2,⟨I2.hR,I2.ks,I2.an,I2.nw,λx hx=>?_⟩⟩;rw[I2.at_ x hx,ae,aZ,e];unfold iX;rw[dC,cw,et];by_cases z:x.1∈t
   ·simp[z]
   ·simp[z]
end Wk
namespace Wk
open PySem PySem.Spec PyProof.Rows L2 WkR
open Vastof (Held State load placesOf textAt has mentions placeSet Graph graph)
def gW(D:SD):Graph:=D.dp.map λx=>(x.1,iF x.2)
section
variable {C:Addr}{H:Hp}{q:Addr}{D:SD}{s:State}
theorem fG.gn(S:fG C H q D s):((gW D).map λx=>x.1).Nodup:=by unfold gW;rw[aK];exact S.r2.nd
theorem fG.gk(S:fG C H q D s){p:Nat}(hp:p∈placesOf s.valid):p∈(gW D).map λx=>x.1:=by obtain⟨t,ht⟩:=b0.mp hp;unfold gW;rw[aK];exact az.mpr ⟨(p,t),S.r2.mem.mpr (S.si.vp _ ht),rfl⟩
theorem fG.ref(S:fG C H q D s){p:Nat}(hp:p∈placesOf s.valid):aG (gW D) p=aG (graph s) p:=by obtain⟨t,ht⟩:=b0.mp hp;have h1:(p,iF t)∈gW D:=az.mpr ⟨(p,t),S.r2.mem.mpr (S.si.vp _ ht),rfl⟩;rw[dD S.gn h1,S.si.listAt ht];exact Bs (S.si.pk _ (S.si.vp _ ht)).2.2
theorem fG.refv(S:fG C H q D s){p:Nat}(hp:p∈placesOf s.valid){x:Nat}(hx:x∈aG (graph s) p):x∈placesOf s.valid:=by have:=kP S.si.graph hx;rw[b9]at this;exact this
theorem fG.refn(S:fG C H q D s)(p:Nat):(aG (graph s) p).Nodup:=(uV S.si.graph p).nodup
theorem fG.refl(S:fG C H q D s)(p:Nat):(aG (graph s) p).length<=1024:=by
 have:=uX S.si.graph p;have h2:(graph s).length=s.valid.length:=by unfold eB;rw[ae]
 have h3:=S.si.valid_len;omega
theorem fG.pv(S:fG C H q D s):(placesOf s.valid).length<=1024:=by unfold placesOf;rw[ae];exact S.si.valid_len
theorem fG.dhv(S:fG C H q D s)(p:Nat):p∈placesOf D.dh↔p∈placesOf s.valid:=S.r1.places
end
def Places(K:aj)(H:Hp)(D:SD)(a:Addr)(ps:List Nat):Prop:=bZ K H a (tx ps)\/(a=D.ah/\ps=placesOf D.dh)
section
variable {P:Program}{w:World}{K:aj}{mg:Str->Option Value}{base:Heap}
def qm(K:aj)(C:Addr):Sp:=λvs H Q _=>∃(q a:Addr)(D:SD)(s:State)(ps:List Nat),vs=[.ref q,.ref a]/\fG C H q D s/\Places K H D a ps/\ps.Nodup/\(∀p∈ps,p∈placesOf s.valid)/\(∀p∈ps,∀x∈aG (graph s) p,x∈ps)/\∀H' R lr,Same H H'->H R=none->H' R=some (.dK (rows lr))->gF H' lr (ps.map λp=>(p,iX (graph s) ps p))->Q (.ref R) H'
theorem yS{f C:Addr}{fd:FuncData}(F:eJ K "referrers_among" "referrers_among" iw f fd)(T:gE K C):ck P w K mg base eY 1 f fd ["store","places"] (qm K C):=by
 refine F.ok j_ ?_ ?_
 ·rintro vs H Q E⟨q,a,D,s,ps,rfl,_⟩;rfl
 ·rintro cdv A outer s H vs Q E hr⟨q,a,D,s,ps,rfl,S,hw,hn,hv,hc,k⟩;have nd:=j_.nd;have hu:=eM hr;have pl:ps.length<=1024:=ay (aO hn hv) S.pv;have hcl:∀p∈ps,(aG (gW D) p).Nodup/\∀x∈aG (gW D) p,x∈ps:=λp hp=>by rw[S.ref (hv p hp)];exact⟨S.refn p,hc p hp⟩
  have er:∀p,iX (gW D) ps p=iX (graph s) ps p:=λp=>by unfold iX;refine fL λy hy=>?_;rw[S.ref (hv y hy)]
  rcases hw with hS|⟨rfl,rfl⟩
  ·refine⟨_,aq (ba (i:=2) nd rfl (Or.inl rfl) cW) (aq (dI PassesOwn.never rfl (cK (pv 1)) (bJ (i:=3) nd rfl (Or.inl rfl)) (aw (d9 hu (pv 2) (pv 3) (bE au) rfl))) (aq (dI PassesOwn.never rfl (cK (pv 1)) (bJ (i:=3) nd rfl (Or.inl rfl)) (aw (dI PassesOwn.never rfl (cK (cp hu (cI (pv 0) rfl) (pv 3) (λ_ _=>rfl))) (bJ (i:=4) nd rfl (Or.inl rfl)) (aw (dr (gH aU bR bS eX (cp hu (pv 2) (pv 4) (λ_ _=>rfl)) (ai (pv 3) au))))))) (aw (aL (pv 2))))),?_⟩;intro R hR;refine⟨_,rfl,a,rfl,⟨_,(aC hR).seq hS⟩,eK (K:=K) (a:=a) (xs:=tx ps) (Jq q a R ps H) ⟨none,[],rfl,aC hR,⟨ao,rfl,cA,by simp,by simp⟩⟩ (λi σ' H' _⟨_,_,_,sm,_⟩=>sm.seq hS) ?_ ?_⟩
   ·rintro i x σ' H' hx I;obtain⟨p,hp,rfl⟩:=cD hx;exact Hc hn (by omega) hR hp I λ_ _ h=>h
   ·rintro σ' H'⟨v,lr,rfl,sm,I⟩;rw[ae,aZ]at I;refine⟨_,rfl,a,rfl,⟨_,sm.seq hS⟩,eK (K:=K) (a:=a) (xs:=tx ps) (Jr q a R ps (gW D) H) ⟨v,none,lr,rfl,sm,⟨I.hR,I.ks,I.an,I.nw,I.at_⟩⟩ (λi σ' H' _⟨_,_,_,_,sm,_⟩=>sm.seq hS) ?_ ?_⟩
    ·rintro i x σ' H2 hx I2;obtain⟨p,hp,rfl⟩:=cD hx;have hpm:=aP hp;exact Hd T hn (by omega) hR S.ob S.h3 S.t3 S.gn (S.gk (hv p hpm)) (hcl p hpm) hp I2 λ_ _ h=>h
    ·rintro σ' H2⟨v,v',lr,rfl,s2,I2⟩;rw[ae,aZ]at I2;refine⟨_,rfl,k H2 R lr s2 hR I2.hR ?_⟩;have:=I2.tat;rw[bK λp _=>by rw[er p]]at this;exact this
  ·refine⟨_,aq (ba (i:=2) nd rfl (Or.inl rfl) cW) (aq (il (dI PassesOwn.never rfl (e9 (pv 1)) (bJ (i:=3) nd rfl (Or.inl rfl)) (aw (d9 hu (pv 2) (pv 3) (bE au) rfl)))) (aq (il (dI PassesOwn.never rfl (e9 (pv 1)) (bJ (i:=3) nd rfl (Or.inl rfl)) (aw (dI PassesOwn.never rfl (cK (cp hu (cI (pv 0) rfl) (pv 3) (λ_ _=>rfl))) (bJ (i:=4) nd rfl (Or.inl rfl)) (aw (dr (gH aU bR bS eX (cp hu (pv 2) (pv 4) (λ_ _=>rfl)) (ai (pv 3) au)))))))) (aw (aL (pv 2))))),?_⟩;intro R hR;have Ra:R≠D.ah:=(aB S.h1 hR).symm;have qa:q≠D.ah:=cn S.ob S.h1 (λz=>nomatch z);have rl:(rows D.lh).length=(placesOf D.dh).length:=by unfold rows placesOf;rw[ae,ae];exact S.t1.len
   have rp:∀{i:Nat}{x:Nat×Addr},D.lh[i]?=some x->(placesOf D.dh)[i]?=some x.1:=λ{i x}h=>by rw[<-show D.lh.map (λx=>x.1)=placesOf D.dh from S.t1.keys,a9,h];rfl
   refine gT (d:=D.ah) (kvs:=rows D.lh) (by rw[aA Ra.symm];exact S.h1) (λod X h=>⟨_,rfl,h⟩) (λod i σ' H'=>Jq q D.ah R (placesOf D.dh) (lk H D.ah od (rows D.lh)) i σ' H') (λod=>⟨none,[],rfl,ql S.h1 hR,⟨by show upd (upd H R _) D.ah _ R=_;rw[aA Ra,ao];rfl,rfl,cA,by simp,by simp⟩⟩) (λod i σ' H'⟨_,_,_,sm,_⟩=>sm _ _ ao) ?_ ?_
   ·rintro od i k' v σ' H' hi I;obtain⟨x,hx,rfl,rfl⟩:=fz hi;exact Hc hn (by omega) (fP S.h1 hR) (rp hx) I λ_ _ h=>h
   ·rintro od σ' H'⟨v,lr,rfl,sm,I⟩;rw[rl,aZ]at I;have s1:=sm.unlock S.h1;have nd2:∀x∈lr,x.2≠D.ah:=λx hx z=>by have:=(I.nw x hx).1;rw[z]at this;have e:lk H D.ah od (rows D.lh) D.ah=some _:=ao;rw[this]at e;cases e
    refine gT (d:=D.ah) (kvs:=rows D.lh) ao (λod X h=>⟨_,rfl,h⟩) (λod i σ' H'=>Jr q D.ah R (placesOf D.dh) (gW D) (lk H D.ah od (rows D.lh)) i σ' H') ?_ (λod i σ' H'⟨_,_,_,_,sm,_⟩=>sm _ _ ao) ?_ ?_
    ·intro od2;refine⟨v,none,lr,rfl,Cq s1,⟨?_,I.ks,I.an,λx hx=>⟨?_,(I.nw x hx).2⟩,λx hx=>?_⟩⟩
     ·show upd (upd H' D.ah _) D.ah _ R=_;rw[aA Ra,aA Ra];exact I.hR
     ·have:=(I.nw x hx).1;have e:upd H D.ah _ x.2=none:=this;rw[aA (nd2 x hx)]at e;exact fP S.h1 e
     ·show upd (upd H' D.ah _) D.ah _ x.2=_;rw[aA (nd2 x hx),aA (nd2 x hx)];exact I.at_ x hx
    ·rintro od2 i k' v σ' H2 hi I2;obtain⟨x,hx,rfl,rfl⟩:=fz hi;have hpx:=rp hx;have hpm:=aP hpx;have tr:gF (lk H D.ah od2 (rows D.lh)) D.lr (gW D):=S.t3.upd λxs z=>by rw[S.h1]at z;cases z
     exact Hd T hn (by omega) (fP S.h1 hR) (by show upd H D.ah _ q=_;rw[aA qa];exact S.ob) (by show upd H D.ah _ D.ar=_;rw[aA S.n13.symm];exact S.h3) tr S.gn (S.gk (hv _ hpm)) (hcl _ hpm) hpx I2 λ_ _ h=>h
    ·rintro od2 σ' H2⟨v,v',lr,rfl,s2,I2⟩;rw[rl,aZ]at I2;have nd3:∀x∈lr,x.2≠D.ah:=λx hx z=>by have:=(I2.nw x hx).1;rw[z]at this;have e:lk H D.ah od2 (rows D.lh) D.ah=some _:=ao;rw[this]at e;cases e
     refine⟨_,rfl,k _ R lr (s2.unlock S.h1) hR (by rw[aA Ra];exact I2.hR) ?_⟩;have h2:=I2.tat;rw[bK λp _=>by rw[er p]]at h2;refine gF.upd h2 λxs z=>?_;rw[s2 _ _ ao]at z;cases z
end
end Wk
namespace Wk
open PySem PySem.Spec PyProof.Rows L2 WkR
open Vastof (Held State load placesOf textAt has mentions placeSet Graph graph closure above reaching)
theorem Ab{C:Addr}{H:Hp}{q:Addr}{D:SD}{s:State}(S:fG C H q D s){p x:Nat}(hp:p∈placesOf s.valid):RA (gW D) [] p x↔Reach (graph s) p x:=by
 have key:∀{x},Reach (graph s) p x->x∈placesOf s.valid:=λh=>by have:=h.keys S.si.graph (by rw[b9];exact hp);rw[b9]at this;exact this
 constructor
 ·intro h;induction h with
  |refl _=>exact .refl _
  |step _ h1 _ ih=>
   rw[S.ref (key ih)]at h1
   exact .step ih h1
 ·intro h;induction h with
  |refl=>exact .refl (by simp)
  |step h0 h1 ih=>
   refine .step ih ?_ (by simp)
   rw[S.ref (key h0)]
   exact h1
def Dr(s:State)(ps:List Nat):Graph:=ps.map λp=>(p,iX (graph s) ps p)
theorem oM(s:State)(ps:List Nat):(Dr s ps).map (λx=>x.1)=ps:=by unfold Dr;rw[aK];exact(bK λ_ _=>rfl).trans (nN ps)
theorem sL{s:State}{ps:List Nat}(hn:ps.Nodup){p:Nat}(hp:p∈ps):aG (Dr s ps) p=iX (graph s) ps p:=dD (by rw[oM];exact hn) (az.mpr ⟨p,hp,rfl⟩)
theorem gp{g:Graph}{ps:List Nat}{p y:Nat}:y∈iX g ps p↔y∈ps/\p∈aG g y:=by unfold iX;rw[bj];simp
theorem RA.trans{g:Graph}{av:List Nat}{p q r:Nat}(a:RA g av p q)(b:RA g av q r):RA g av p r:=by
 induction b with
 |refl _=>exact a
 |step _ h1 h2 ih=>exact .step ih h1 h2
theorem Reach.head{g:Graph}{p q r:Nat}(h:q∈aG g p)(a:Reach g q r):Reach g p r:=(Reach.step (.refl _) h).trans a
theorem Cr{s:State}{ps:List Nat}(hn:ps.Nodup)(hc:∀p∈ps,∀x∈aG (graph s) p,x∈ps){p x:Nat}(hp:p∈ps):RA (Dr s ps) [] p x↔x∈ps/\Reach (graph s) x p:=by
 constructor
 ·intro h;induction h with
  |refl _=>exact⟨hp,.refl _⟩
  |step _ h1 _ ih=>
   rw[sL hn ih.1]at h1
   obtain⟨a,b⟩:=gp.mp h1
   exact⟨a,ih.2.head b⟩
 ·rintro⟨hx,h⟩;have key:∀{a b:Nat},Reach (graph s) a b->a∈ps->b∈ps->RA (Dr s ps) [] b a:=by
   intro a b h;induction h with
   |refl=>intro _ _;exact .refl (by simp)
   |@step b' c h0 h1 ih=>
    intro ha hc'
    have hb:b'∈ps:=h0.closed (S:=λy=>y∈ps) (λp q hp hq=>hc p hp q hq) ha
    have i1:=ih ha hb
    have i2:RA (Dr s ps) [] c b':=.step (.refl (by simp)) (by rw[sL hn hc'];exact gp.mpr ⟨hb,h1⟩) (by simp)
    exact i2.trans i1
  exact key h hx hp
theorem sM{s:State}(h:SI s)(goals:List Nat):n6 (above (reaching (graph s)) goals):=by unfold above reaching eB;have:n6 (s.valid.map λx=>x.1):=h.va;rw[aK,cF,aK];have e:∀l:Held,n6 (l.map λx=>x.1)->∀(f:Nat×List Nat->Bool),n6 ((l.filter f).map λx=>x.1):=λl hl f=>hl.sublist (cS.map _);exact e _ this _
section
variable {P:Program}{w:World}{K:aj}{mg:Str->Option Value}{base:Heap}
def gq(K:aj)(C:Addr):Sp:=λvs H Q _=>∃(q a:Addr)(D:SD)(s:State)(gs:List Nat),vs=[.ref q,.ref a]/\fG C H q D s/\bZ K H a (tx gs)/\(∀p∈gs,p∈placesOf s.valid)/\gs.length<=1024/\∀H' r,Same H H'->H r=none->H' r=some (.lst (tx (closure (graph s) gs)))->Q (.ref r) H'
theorem wW{f C:Addr}{fd:FuncData}(F:eJ K "closure_of" "closure_of" mH f fd)(T:gE K C)(C1:dc P w K mg base 1 "spread" ["links","starts","met"] (ro K)):ck P w K mg base eY 2 f fd ["store","goals"] (gq K C):=by
 refine F.ok wG ?_ ?_
 ·rintro vs H Q E⟨q,a,D,s,gs,rfl,_⟩;rfl
 ·rintro cdv A outer s H vs Q E hr⟨q,a,D,s,gs,rfl,S,hS,hv,hl,k⟩;refine⟨_,aw (aL (aS C1 hr (ai (cI (pv 0) rfl) (ai (pv 1) (ai cW au))))),?_⟩;refine⟨_,rfl,q,C,D.dx,_,_,rfl,S.ob,T.cl,T.n4,kY ..,_,rfl,λd hd=>?_⟩;have s1:=aC (o:=.dK []) hd;have S1:=S.same s1;refine⟨D.ar,a,d,gW D,D.lr,placesOf s.valid,gs,[],rfl,S1.h3,S1.t3,S.gn,s1.seq hS,ao,aB S.h3 hd,S.pv,hv,λp hp=>S.gk hp,λp hp=>?_,hl,by simp,λH' r f' bt _ hn _ hm _ nr _ hr'=>?_⟩
  ·rw[S.ref hp];exact⟨S.refl p,λx hx=>S.refv hp hx⟩
  ·refine k H' r (g8.of hd s1 bt) (s1.free nr) ?_;rw[hr'];congr 3;obtain⟨c1,c2⟩:=eE S.si.graph (goals:=gs) (λx hx=>by rw[b9];exact hv x hx);refine(cb f').ext c1 λx=>?_;rw[bA,hm x,c2 x];constructor
   ·rintro⟨p,hp,h⟩;exact⟨p,hp,(Ab S (hv p hp)).mp h⟩
   ·rintro⟨p,hp,h⟩;exact⟨p,hp,(Ab S (hv p hp)).mpr h⟩
def o9(K:aj)(C:Addr):Sp:=λvs H Q _=>∃(q a:Addr)(D:SD)(s:State)(gs:List Nat),vs=[.ref q,.ref a]/\fG C H q D s/\bZ K H a (tx gs)/\(∀p∈gs,p∈placesOf s.valid)/\gs.length<=1024/\∀H' r,Same H H'->H r=none->H' r=some (.lst (tx (above (reaching (graph s)) gs)))->Q (.ref r) H'
theorem Ac{f C:Addr}{fd:FuncData}(F:eJ K "above_of" "above_of" qd f fd)(T:gE K C)(C1:dc P w K mg base 1 "spread" ["links","starts","met"] (ro K))(C2:dc P w K mg base 1 "referrers_among" ["store","places"] (qm K C)):ck P w K mg base eY 2 f fd ["store","goals"] (o9 K C):=by
 refine F.ok zR ?_ ?_
 ·rintro vs H Q E⟨q,a,D,s,gs,rfl,_⟩;rfl
 ·rintro cdv A outer s H vs Q E hr⟨q,a,D,s,gs,rfl,S,hS,hv,hl,k⟩;refine⟨_,aw (aL (aS C1 hr (ai (aS C2 hr (ai (pv 0) (ai (cI (pv 0) rfl) au))) (ai (pv 1) (ai cW au))))),?_⟩;have hcv:∀p∈placesOf D.dh,∀x∈aG (graph s) p,x∈placesOf D.dh:=λp hp x hx=>(S.dhv x).mpr (S.refv ((S.dhv p).mp hp) hx);refine⟨_,rfl,_,rfl,q,C,D.dx,_,_,rfl,S.ob,T.cl,T.n2,fc ..,q,D.ah,D,s,placesOf D.dh,rfl,S,.inr ⟨rfl,rfl⟩,S.r1.nd,λp hp=>(S.dhv p).mp hp,hcv,λH1 R lr s1 nR hR tR=>?_⟩;refine⟨_,rfl,λd hd=>?_⟩;have s2:=aC (o:=.dK []) hd;have dl:(placesOf D.dh).length<=1024:=by unfold placesOf;rw[ae];exact S.vlen
  refine⟨R,a,d,Dr s (placesOf D.dh),lr,placesOf D.dh,gs,[],rfl,s2 _ _ hR,tR.same s2,by rw[oM];exact S.r1.nd,(s1.trans s2).seq hS,ao,aB hR hd,dl,λp hp=>(S.dhv p).mpr (hv p hp),λp hp=>by rw[oM];exact hp,λp hp=>?_,hl,by simp,λH' r f' bt _ hn _ hm _ nr _ hr'=>?_⟩
  ·rw[sL S.r1.nd hp];refine⟨?_,λx hx=>(gp.mp hx).1⟩;unfold iX;exact ay (bp ..) dl
  ·refine k H' r (s1.trans (g8.of hd s2 bt)) ((s1.trans s2).free nr) ?_;rw[hr'];congr 3;refine(cb f').ext (sM S.si gs) λx=>?_;rw[bA,hm x,ia S.si.graph,b9];constructor
   ·rintro⟨p,hp,h⟩;obtain⟨h1,h2⟩:=(Cr S.r1.nd hcv ((S.dhv p).mpr (hv p hp))).mp h;exact⟨(S.dhv x).mp h1,p,hp,h2⟩
   ·rintro⟨hx,p,hp,h⟩;exact⟨p,hp,(Cr S.r1.nd hcv ((S.dhv p).mpr (hv p hp))).mpr ⟨(S.dhv x).mpr hx,h⟩⟩
end
end Wk
namespace Wk
open PySem PySem.Spec PyProof.Rows L2 WkR
open Vastof (Held State load placesOf textAt has mentions placeSet Graph graph closure above reaching validPlace looked knot)
theorem wX{te:TE}{σ:L2.St}{H:Hp}{Q:VK}(l:List Nat)(hl:l.length<=100000)(h:∀p,H p=none->∀R:V->Hp->Prop,(∀H' r,Same (upd H p (.lst [.int 0])) H'->H' r=some (.lst (tx l))->R (.ref r) H')->te σ (upd H p (.lst [.int 0])) R)(hq:∀H' r,Same H H'->H' r=some (.lst (.int 0::tx l))->Q (.ref r) H'):BU Hw (D5 (jX (tC (.int 0)) nv)) te σ H Q:=by refine⟨one_le,λp hp=>h p hp _ λH' r sm hr=>?_⟩;refine⟨p,r,_,_,rfl,rfl,sm _ _ ao,hr,?_,λp2 hp2=>hq _ p2 (((aC hp).trans sm).trans (aC hp2)) (by rw[ao];rfl)⟩;show 1+(tx l).length<=sizeLine;rw[ae];exact cB (lK (by omega))
theorem sN{l:List Nat}:HO.lst (.int 0::tx l)=HO.lst (Aa (cJ l)):=congrArg HO.lst (rj 0 l).symm
theorem fW{s:State}{zs:List Int}{e:Int}(h:looked s zs=.error e):e≠0:=by rcases mC s zs with⟨_,h2⟩|⟨_,_,h2⟩|⟨_,x,_,_,⟨_,h2⟩|⟨_,h2⟩⟩<;>rw[h]at h2<;>cases h2<;>decide
theorem o_{s:State}{z:Int}{e:Int}(h:validPlace s z=.error e):e≠0:=by rcases gD s z with⟨_,h2⟩|⟨x,_,_,⟨_,h2⟩|⟨_,h2⟩⟩<;>rw[h]at h2<;>cases h2<;>decide
theorem jW{s:State}{z:Int}{x:Nat}(h:validPlace s z=.ok x):z=(x:Int)/\x∈placesOf s.valid:=by
 rcases gD s z with⟨_,h2⟩|⟨y,rfl,_,⟨_,h2⟩|⟨h3,h2⟩⟩
 ·rw[h]at h2;cases h2
 ·rw[h]at h2;cases h2
 ·rw[h]at h2;cases h2;exact⟨rfl,h3⟩
theorem c_{s:State}(h:SI s){gs:List Nat}(hg:∀p∈gs,p∈placesOf s.valid):(closure (graph s) gs).length<=1024:=by
 have hk:∀x∈gs,x∈keys (graph s):=λx hx=>by rw[b9];exact hg x hx
 have:=aO (eE h.graph hk).1.nodup (m:=placesOf s.valid) λx hx=>by have:=jK h.graph hk hx;rw[b9]at this;exact this
 have h2:(placesOf s.valid).length=s.valid.length:=ae ..;have h3:=h.valid_len;omega
theorem pb{s:State}(h:SI s)(gs:List Nat):(above (reaching (graph s)) gs).length<=1024:=by
 have:=aO (sM h gs).nodup (m:=placesOf s.valid) λx hx=>by have:=((ia h.graph).mp hx).1;rw[b9]at this;exact this
 have h2:(placesOf s.valid).length=s.valid.length:=ae ..;have h3:=h.valid_len;omega
section
variable {P:Program}{w:World}{K:aj}{mg:Str->Option Value}{base:Heap}
theorem EW{f C:Addr}{fd:FuncData}(F:eJ K "answer_valid" "answer_valid" kb f fd)(T:gE K C)(b1:mg "sorted"=none):ck P w K mg base eY 1 f fd ["store"] (i9 C .valid):=by
 refine F.ok t9 ?_ ?_
 ·rintro vs H Q E⟨q,D,s,rfl,_⟩;rfl
 ·rintro cdv A outer s H vs Q E hr⟨q,D,s,rfl,S,k⟩;refine⟨_,aw (aL (cZ fB (bE (ai bI au)) (bz (vd rfl) (by rfl) b1 ib (ai (cI (pv 0) rfl) au)))),?_⟩;refine wX (placesOf s.valid) (ay S.pv (by decide)) (λp hp R hR=>?_) λH' r sm hr'=>k.same S sm (by rw[hr',sN];rfl);have s1:=aC (o:=.lst [.int 0]) hp;have S1:=S.same s1;refine⟨_,rfl,q,C,D.dx,_,_,rfl,S1.ob,T.cl,T.n2,fc ..,D.ah,_,_,rfl,.inl S1.h1,Cm _,λzs r hz hs nr=>?_⟩;have e1:(D.lh.map λx=>(x.1:Int))=(placesOf D.dh).map λ(n:Nat)=>(n:Int):=by rw[<-show D.lh.map (λx=>x.1)=placesOf D.dh from S.t1.keys,aK];rfl
  rw[e1]at hz;have ez:=ic hz hs S.r1.nd;refine hR _ r (aC nr) ?_;have e2:placeSet (placesOf D.dh)=placesOf s.valid:=(cb _).ext S.si.va λx=>by rw[bA];exact S.r1.places
  rw[ao,ez,e2,de]
theorem Gq{f C:Addr}{fd:FuncData}(F:eJ K "answer_refs" "answer_refs" lx f fd)(T:gE K C)(g1:GI mg "NO_REFUSAL" 0)(C1:dc P w K mg base 2 "place_refusal" ["store","p"] (fH C)):ck P w K mg base eY 3 f fd ["store","p"] (i_ C .refs):=by
 refine F.ok oq ?_ ?_
 ·rintro vs H Q E⟨q,D,s,z,rfl,_⟩;rfl
 ·rintro cdv A outer s H vs Q E hr⟨q,D,s,z,rfl,S,k⟩;have nd:=oq.nd;have hu:=eM hr;refine⟨_,aq (ba (i:=2) nd rfl (Or.inl rfl) (aS C1 hr (ai (pv 0) (ai (pv 1) au)))) (aq (bH (bh gG (pv 2) (bw g1) (bC _)) (aw (aL (bE (ai (pv 2) au)))) aX) (aw (aL (cZ fB (bE (ai bI au)) (cp hu (cI (pv 0) rfl) (pv 1) (λ_ _=>rfl)))))),?_⟩;have e0:aR s (.refs z)=f9 s z λx=>cJ (aG (graph s) x):=rfl;rw[e0]at k;unfold f9 at k;refine⟨_,rfl,_,rfl,q,z,D,s,rfl,S,_,rfl,rfl,_,rfl,?_⟩;cases hc:validPlace s z with
  |error e=>
   rw[hc]at k
   exact eP (λ_=>⟨_,rfl,one_le,λp hp=>k.same S (aC hp) (by rw[ao];rfl)⟩) λh=>absurd (V.int.inj h) (o_ hc)
  |ok x=>
   rw[hc]at k
   obtain⟨rfl,hx⟩:=jW hc
   refine eP (λh=>absurd rfl h) λ_=>?_
   refine wX (aG (graph s) x) (ay (S.refl x) (by decide)) (λp hp R hR=>?_) λH' r sm hr'=>k.same S sm (by rw[hr',sN])
   have S1:=S.same (aC (o:=.lst [.int 0]) hp)
   rcases S1.t3.get x with⟨c1,_⟩|⟨la,t,c1,c2,c3,c4⟩
   ·exact absurd (S.gk hx) c1
   ·have et:aG (gW D) x=t:=dD S.gn c1;rw[S.ref hx]at et;refine⟨_,rfl,q,C,D.dx,_,_,rfl,S1.ob,T.cl,T.n4,kY ..,_,rfl,D.ar,V.ref la,rfl,?_,hR _ la (Same.refl _) (by rw[et];exact c4)⟩;have gg:=cf (k:=Sum.inl (x:Int)) (.inl S1.h3:Rd _ D.ar (.dK (rows D.lr)));rw[c3]at gg;exact gg
theorem inL{X:Cx}{K:aj}(h:X.K=K):tU X (compareOp .In) (λx y H Q=>∃(n:Nat)(p:Addr)(l:List Nat),x=.int n/\y=.ref p/\bZ K H p (tx l)/\Q (.bl (l.contains n)) H):=by
 subst h;intro pins s σ H x y v u Q I rx ry q;obtain⟨n,p,l,rfl,rfl,hs,q⟩:=q;refine jU pins s σ H _ _ v u Q I rx ry ⟨p,_,rfl,.inl hs,rfl,?_,?_⟩
 ·rw[bU];intro z hz;obtain⟨m,_,rfl⟩:=az.mp hz;rfl
 ·have e:Ip (.int (n:Int)) (tx l)=l.contains n:=by
   unfold Ip;rw[dX,bY];simp only[cU];constructor
   ·rintro⟨z,hz,e⟩;obtain⟨m,hm,rfl⟩:=az.mp hz;have:(m:Int)=n:=by simpa[FA]using e
    have:m=n:=by omega
    exact this▸hm
   ·intro h;exact⟨V.int (n:Nat),az.mpr ⟨n,h,rfl⟩,by simp[FA]⟩
  show Q (.bl (Ip (.int (n:Int)) (tx l))) H;rw[e];exact q
theorem yT{f C:Addr}{fd:FuncData}(F:eJ K "answer_referrers" "answer_referrers" fN f fd)(T:gE K C)(g1:GI mg "NO_REFUSAL" 0)(b1:mg "sorted"=none)(C1:dc P w K mg base 2 "place_refusal" ["store","p"] (fH C)):ck P w K mg base eY 3 f fd ["store","p"] (i_ C .referrers):=by
 refine F.ok jE ?_ ?_
 ·rintro vs H Q E⟨q,D,s,z,rfl,_⟩;rfl
 ·rintro cdv A outer s H vs Q E hr⟨q,D,s,z,rfl,S,k⟩;have nd:=jE.nd;have hu:=eM hr;refine⟨_,aq (ba (i:=2) nd rfl (Or.inl rfl) (aS C1 hr (ai (pv 0) (ai (pv 1) au)))) (aq (bH (bh gG (pv 2) (bw g1) (bC _)) (aw (aL (bE (ai (pv 2) au)))) aX) (aw (aL (cZ fB (bE (ai bI au)) (bz mD (by rfl) b1 ib (ai (mn (gN (own:=[("place",3)]) rfl nd (e9 (sA (K:=K) rfl (pv 0) rfl)) (ei kf (aH fN) rfl rfl (by decide+kernel)) (λs H C cl fp=>bJ (i:=3) nd rfl (Or.inl rfl)) (λs H C cl fp=>oU (x_ (bh gG (pv 3) (pv 1) (bC _)) (uk (bh (inL (K:=K) rfl) (pv 1) (cp hu (sA (K:=K) rfl (pv 0) rfl) (pv 3) (λ_ _=>rfl)) rfl))).pt) (λs H C cl fp=>pv 3))) au)))))),?_⟩;have e0:aR s (.referrers z)=f9 s z λx=>cJ (((graph s).filter λy=>y.1 !=x&&y.2.contains x).map λy=>y.1):=rfl;rw[e0]at k;unfold f9 at k;refine⟨_,rfl,_,rfl,q,z,D,s,rfl,S,_,rfl,rfl,_,rfl,?_⟩;cases hc:validPlace s z with
  |error e=>
   rw[hc]at k
   exact eP (λ_=>⟨_,rfl,one_le,λp hp=>k.same S (aC hp) (by rw[ao];rfl)⟩) λh=>absurd (V.int.inj h) (o_ hc)
  |ok x=>
   rw[hc]at k
   obtain⟨rfl,hx⟩:=jW hc
   refine eP (λh=>absurd rfl h) λ_=>?_
   have qa:q≠D.ah:=cn S.ob S.h1 (λz=>nomatch z)
   let kp:Nat->Bool:=λn=>n !=x&&(aG (graph s) n).contains x
   have kpe:(((graph s).filter λy=>y.1 !=x&&y.2.contains x).map λy=>y.1)=(placesOf s.valid).filter kp:=by rw[<-b9];unfold keys;rw[cF];congr 1;refine fL λy hy=>?_;show _=(y.1 !=x&&(aG (graph s) y.1).contains x);rw[iO S.si.graph hy]
   refine wX (((graph s).filter λy=>y.1 !=x&&y.2.contains x).map λy=>y.1) ?_ (λp hp R hR=>?_) λH' r sm hr'=>k.same S sm (by rw[hr',sN])
   ·rw[kpe];exact ay (bp ..) (ay S.pv (by decide))
   ·have s1:=aC (o:=.lst [.int 0]) hp;have S1:=S.same s1;refine mN (d:=D.ah) (kvs:=rows D.lh) (λk=>match k with|.inl z=>kp z.toNat|_=>false) (by show 3<4;decide) (λx=>rfl) (by unfold rows;rw[ae,S.t1.len];have:=S.vlen;omega) S1.h1 (λod R h=>⟨_,rfl,q,C,D.dx,_,_,rfl,by show upd _ D.ah _ q=_;rw[aA qa];exact S1.ob,T.cl,T.n2,fc ..,h⟩) (λod i k' v H' R hi sm cont=>?_) λH' L sm hL hq=>?_
    ·obtain⟨y,hy,rfl,rfl⟩:=fz hi;have hyv:y.1∈placesOf s.valid:=(S.dhv y.1).mp (by rw[<-show D.lh.map (λx=>x.1)=placesOf D.dh from S.t1.keys];exact az.mpr ⟨y,aP hy,rfl⟩);have bt:=g8.lock sm;refine⟨_,rfl,_,rfl,rfl,_,rfl,?_⟩;refine eP (λhne=>?_) λheq=>?_
     ·have hne:y.1≠x:=λz=>hne (by rw[z];rfl);rcases S1.t3.get y.1 with⟨c1,_⟩|⟨la,t,c1,c2,c3,c4⟩
      ·exact absurd (S.gk hyv) c1
      ·have et:aG (gW D) y.1=t:=dD S.gn c1;rw[S.ref hyv]at et;have la1:la≠D.ah:=cn c4 S1.h1 (λz=>nomatch z);refine⟨_,rfl,_,rfl,q,C,D.dx,_,_,rfl,bt _ _ S1.ob qa,T.cl,T.n4,kY ..,_,rfl,D.ar,V.ref la,rfl,?_,x,la,t,rfl,rfl,bZ.of (bt _ _ c4 la1),_,rfl,?_⟩
       ·have gg:=cf (k:=Sum.inl (y.1:Int)) (.inl (bt _ _ S1.h3 S.n13.symm):Rd H' D.ar (.dK (rows D.lr)));rw[c3]at gg;exact gg
       ·have e1:kp y.1=t.contains x:=by show(y.1 !=x&&(aG (graph s) y.1).contains x)=_;rw[et];simp[hne]
        have c0:R (kp y.1) H':=cont H' (Same.refl _);rw[e1]at c0;exact c0
     ·have heq:y.1=x:=by have:=V.int.inj heq;omega
      have e1:kp y.1=false:=by show(y.1 !=x&&_)=false;simp[heq]
      have c0:R (kp y.1) H':=cont H' (Same.refl _);rw[e1]at c0;exact c0
    ·have e1:(((rows D.lh).map (·.1)).filter λk=>match k with|.inl z=>kp z.toNat|_=>false).map kV=(((placesOf D.dh).filter kp).map λ(n:Nat)=>(n:Int)).map V.int:=by rw[<-show D.lh.map (λx=>x.1)=placesOf D.dh from S.t1.keys];unfold rows;rw[aK,cF,aK,cF,aK,aK];rfl
     rw[e1]at hq;refine⟨L,_,rfl,bZ.of hq,λzs r hz hs nr=>?_⟩;have ez:=ic hz hs (S.r1.nd.sublist cS);refine hR _ r (sm.trans (aC nr)) ?_;have e2:placeSet ((placesOf D.dh).filter kp)=(placesOf s.valid).filter kp:=(cb _).ext (S.si.va.sublist cS) λx=>by rw[bA,bj,bj,S.dhv]
     rw[ao,ez,e2,de,kpe]
end
end Wk
namespace Wk
open PySem PySem.Spec PyProof.Rows L2 WkR
open Vastof (Held State load placesOf textAt has mentions placeSet Graph graph closure above reaching validPlace looked knot)
theorem pf{s:State}(h:SI s){p:Nat}(hp:p∈placesOf s.valid):knot (reaching (graph s)) p=(closure (graph s) [p]).filter λx=>(above (reaching (graph s)) [p]).contains x:=by
 have hk:p∈keys (graph s):=by rw[b9];exact hp
 unfold Vastof.knot;rw[mW h.graph hk];refine fL λx hx=>?_;have hxk:x∈keys (graph s):=jK h.graph (by simpa using hk) hx;rw[mW h.graph hxk,dX];simp only[cU];rw[jM h.graph hxk,ia h.graph];simp[hxk]
section
variable {P:Program}{w:World}{K:aj}{mg:Str->Option Value}{base:Heap}
def fZ(K:aj)(C:Addr)(c:List Int->bQ):Sp:=λvs H Q _=>∃(q a:Addr)(D:SD)(s:State)(zs:List Int),vs=[.ref q,.ref a]/\fG C H q D s/\bZ K H a (zs.map V.int)/\zs.length<=100000/\wk C q H (aR s (c zs)).1 (aR s (c zs)).2 Q
theorem Bt{f C:Addr}{fd:FuncData}(F:eJ K "answer_closure" "answer_closure" iS f fd)(g1:GI mg "NO_REFUSAL" 0)(C1:dc P w K mg base 2 "list_refusal" ["store","places"] (dA K C))(C2:dc P w K mg base 2 "closure_of" ["store","goals"] (gq K C)):ck P w K mg base eY 3 f fd ["store","goals"] (fZ K C .closure):=by
 refine F.ok kU ?_ ?_
 ·rintro vs H Q E⟨q,a,D,s,zs,rfl,_⟩;rfl
 ·rintro cdv A outer s H vs Q E hr⟨q,a,D,s,zs,rfl,S,hS,hz,k⟩;have nd:=kU.nd;refine⟨_,aq (ba (i:=2) nd rfl (Or.inl rfl) (aS C1 hr (ai (pv 0) (ai (pv 1) au)))) (aq (bH (bh gG (pv 2) (bw g1) (bC _)) (aw (aL (bE (ai (pv 2) au)))) aX) (aw (aL (cZ fB (bE (ai bI au)) (aS C2 hr (ai (pv 0) (ai (pv 1) au))))))),?_⟩;have e0:aR s (.closure zs)=dz s zs λx=>cJ (closure (graph s) x):=rfl;rw[e0]at k;unfold dz at k;refine⟨_,rfl,_,rfl,q,a,zs,D,s,rfl,S,hS,hz,λH1 s1=>⟨_,rfl,rfl,_,rfl,?_⟩⟩;cases hc:looked s zs with
  |error e=>
   rw[hc]at k
   exact eP (λ_=>⟨_,rfl,one_le,λp hp=>k.same S (s1.trans (aC hp)) (by rw[ao];rfl)⟩) λh=>absurd (V.int.inj h) (fW hc)
  |ok x=>
   rw[hc]at k
   obtain⟨rfl,hx,hl⟩:=d_ hc
   rw[ae]at hl
   rw[<-de]at hS
   refine eP (λh=>absurd rfl h) λ_=>?_
   refine wX (closure (graph s) x) (ay (c_ S.si hx) (by decide)) (λp hp R hR=>?_) λH' r sm hr'=>k.same S (s1.trans sm) (by rw[hr',sN])
   have s2:=s1.trans (aC (o:=.lst [.int 0]) hp)
   exact⟨_,rfl,_,rfl,q,a,D,s,x,rfl,S.same s2,s2.seq hS,hx,by omega,λH' r sm nr hr'=>hR H' r sm hr'⟩
theorem EX{f C:Addr}{fd:FuncData}(F:eJ K "answer_above" "answer_above" kg f fd)(g1:GI mg "NO_REFUSAL" 0)(C1:dc P w K mg base 2 "list_refusal" ["store","places"] (dA K C))(C2:dc P w K mg base 2 "above_of" ["store","goals"] (o9 K C)):ck P w K mg base eY 3 f fd ["store","goals"] (fZ K C .above):=by
 refine F.ok m_ ?_ ?_
 ·rintro vs H Q E⟨q,a,D,s,zs,rfl,_⟩;rfl
 ·rintro cdv A outer s H vs Q E hr⟨q,a,D,s,zs,rfl,S,hS,hz,k⟩;have nd:=m_.nd;refine⟨_,aq (ba (i:=2) nd rfl (Or.inl rfl) (aS C1 hr (ai (pv 0) (ai (pv 1) au)))) (aq (bH (bh gG (pv 2) (bw g1) (bC _)) (aw (aL (bE (ai (pv 2) au)))) aX) (aw (aL (cZ fB (bE (ai bI au)) (aS C2 hr (ai (pv 0) (ai (pv 1) au))))))),?_⟩;have e0:aR s (.above zs)=dz s zs λx=>cJ (above (reaching (graph s)) x):=rfl;rw[e0]at k;unfold dz at k;refine⟨_,rfl,_,rfl,q,a,zs,D,s,rfl,S,hS,hz,λH1 s1=>⟨_,rfl,rfl,_,rfl,?_⟩⟩;cases hc:looked s zs with
  |error e=>
   rw[hc]at k
   exact eP (λ_=>⟨_,rfl,one_le,λp hp=>k.same S (s1.trans (aC hp)) (by rw[ao];rfl)⟩) λh=>absurd (V.int.inj h) (fW hc)
  |ok x=>
   rw[hc]at k
   obtain⟨rfl,hx,hl⟩:=d_ hc
   rw[ae]at hl
   rw[<-de]at hS
   refine eP (λh=>absurd rfl h) λ_=>?_
   refine wX (above (reaching (graph s)) x) (ay (pb S.si x) (by decide)) (λp hp R hR=>?_) λH' r sm hr'=>k.same S (s1.trans sm) (by rw[hr',sN])
   have s2:=s1.trans (aC (o:=.lst [.int 0]) hp)
   exact⟨_,rfl,_,rfl,q,a,D,s,x,rfl,S.same s2,s2.seq hS,hx,by omega,λH' r sm nr hr'=>hR H' r sm hr'⟩
def Ad(C:Addr):Sp:=λvs H Q _=>∃(q:Addr)(D:SD)(s:State)(x:Nat),vs=[.ref q,.int x]/\fG C H q D s/\x∈placesOf s.valid/\∀H' r,Same H H'->H r=none->H' r=some (.lst (tx (knot (reaching (graph s)) x)))->Q (.ref r) H'
theorem Bu{f C:Addr}{fd:FuncData}(F:eJ K "knot_of" "knot_of" o4 f fd)(C1:dc P w K mg base 1 "keys_of" ["places"] (oF K))(C2:dc P w K mg base 2 "closure_of" ["store","goals"] (gq K C))(C3:dc P w K mg base 2 "above_of" ["store","goals"] (o9 K C)):ck P w K mg base eY 3 f fd ["store","p"] (Ad C):=by
 refine F.ok vv ?_ ?_
 ·rintro vs H Q E⟨q,D,s,x,rfl,_⟩;rfl
 ·rintro cdv A outer s H vs Q E hr⟨q,D,s,x,rfl,S,hx,k⟩;have nd:=vv.nd;have hu:=eM hr;have hr1:cT 1 _:=hr.mono (by decide);refine⟨_,aq (ba (i:=2) nd rfl (Or.inr rfl) (aS C1 hr1 (ai (aS C3 hr (ai (pv 0) (ai (bE (ai (pv 1) au)) au))) au))) (aw (aL (gN (own:=[("place",3)]) rfl nd (cK (aS C2 hr (ai (pv 0) (ai (bE (ai (pv 1) au)) au)))) (ei xP (aH o4) rfl rfl (by decide+kernel)) (λs H C cl fp=>bJ (i:=3) nd rfl (Or.inl rfl)) (λs H C cl fp=>oU (gI (nY hu (pv 3) (pv 2)))) (λs H C cl fp=>pv 3)))),?_⟩;have hx1:∀p∈[x],p∈placesOf s.valid:=λp hp=>by rw[aE.mp hp];exact hx
  refine⟨_,rfl,_,rfl,one_le,λa hna=>?_⟩;have s1:=aC (o:=.lst (tx [x])) hna;refine⟨q,a,D,s,[x],rfl,S.same s1,bZ.of ao,hx1,by simp,λH2 r2 s2 nr2 hr2=>?_⟩;refine⟨r2,above (reaching (graph s)) [x],rfl,bZ.of hr2,ay (pb S.si _) (by decide),λH3 d l' s3 nd3 hd3 hn3 hm3=>?_⟩;have s13:=(s1.trans s2).trans s3;refine⟨_,rfl,_,rfl,one_le,λa4 hna4=>?_⟩;have s4:=aC (o:=.lst (tx [x])) hna4;refine⟨q,a4,D,s,[x],rfl,(S.same s13).same s4,bZ.of ao,hx1,by simp,λH5 r5 s5 nr5 hr5=>?_⟩;have s15:=(s13.trans s4).trans s5;have cl:=c_ S.si hx1;refine⟨r5,rfl,⟨_,bZ.of hr5⟩,λL hL=>xT (xs:=tx (closure (graph s) [x])) (λv=>match v with|.int z=>(above (reaching (graph s)) [x]).contains z.toNat|_=>false) (by show 3<4;decide) (λx=>rfl) (by rw[ae];omega) hL (bZ.of hr5) (λi y H' R hy sm cont=>?_) λH' sm hq=>?_⟩
  ·obtain⟨n,hn,rfl⟩:=cD hy;refine⟨_,rfl,_,rfl,d,_,rfl,cf (k:=Sum.inl (n:Int)) (.inl (sm _ _ ((s4.trans s5) _ _ hd3))),_,rfl,?_⟩;have e:(dZ (kt l') (Sum.inl (n:Int))).isSome=(above (reaching (graph s)) [x]).contains n:=by
    rw[lG];by_cases z:n∈l'
    ·have:=(hm3 n).mp z;simp[z,this]
    ·have:n∉above (reaching (graph s)) [x]:=λq=>z ((hm3 n).mpr q);simp[z,this]
   rw[e];exact cont H' (Same.refl _)
  ·refine k H' L (s15.trans sm) (s15.free hL) ?_;rw[hq,pf S.si hx];congr 2;rw[cF];rfl
theorem Gr{f C:Addr}{fd:FuncData}(F:eJ K "answer_knot" "answer_knot" ly f fd)(g1:GI mg "NO_REFUSAL" 0)(C1:dc P w K mg base 2 "place_refusal" ["store","p"] (fH C))(C2:dc P w K mg base 3 "knot_of" ["store","p"] (Ad C)):ck P w K mg base eY 4 f fd ["store","p"] (i_ C .knot):=by
 refine F.ok ot ?_ ?_
 ·rintro vs H Q E⟨q,D,s,z,rfl,_⟩;rfl
 ·rintro cdv A outer s H vs Q E hr⟨q,D,s,z,rfl,S,k⟩;have nd:=ot.nd;have hr2:cT 2 _:=hr.mono (by decide);refine⟨_,aq (ba (i:=2) nd rfl (Or.inl rfl) (aS C1 hr2 (ai (pv 0) (ai (pv 1) au)))) (aq (bH (bh gG (pv 2) (bw g1) (bC _)) (aw (aL (bE (ai (pv 2) au)))) aX) (aw (aL (cZ fB (bE (ai bI au)) (aS C2 hr (ai (pv 0) (ai (pv 1) au))))))),?_⟩;have e0:aR s (.knot z)=f9 s z λx=>cJ (knot (reaching (graph s)) x):=rfl;rw[e0]at k;unfold f9 at k;refine⟨_,rfl,_,rfl,q,z,D,s,rfl,S,_,rfl,rfl,_,rfl,?_⟩;cases hc:validPlace s z with
  |error e=>
   rw[hc]at k
   exact eP (λ_=>⟨_,rfl,one_le,λp hp=>k.same S (aC hp) (by rw[ao];rfl)⟩) λh=>absurd (V.int.inj h) (o_ hc)
  |ok x=>
   rw[hc]at k
   obtain⟨rfl,hx⟩:=jW hc
   refine eP (λh=>absurd rfl h) λ_=>?_
   have hx1:∀p∈[x],p∈placesOf s.valid:=λp hp=>by rw[aE.mp hp];exact hx
   refine wX (knot (reaching (graph s)) x) ?_ (λp hp R hR=>?_) λH' r sm hr'=>k.same S sm (by rw[hr',sN])
   ·rw[pf S.si hx];exact ay (bp ..) (ay (c_ S.si hx1) (by decide))
   ·have s1:=aC (o:=.lst [.int 0]) hp;exact⟨_,rfl,_,rfl,q,D,s,x,rfl,S.same s1,hx,λH' r sm nr hr'=>hR H' r sm hr'⟩
def Ae(K:aj)(C:Addr)(c:Int->List Int->bQ):Sp:=λvs H Q _=>∃(q a:Addr)(D:SD)(s:State)(z:Int)(zs:List Int),vs=[.ref q,.int z,.ref a]/\fG C H q D s/\bZ K H a (zs.map V.int)/\zs.length<=100000/\wk C q H (aR s (c z zs)).1 (aR s (c z zs)).2 Q
theorem EY{f C:Addr}{fd:FuncData}(F:eJ K "answer_freed" "answer_freed" kj f fd)(g1:GI mg "NO_REFUSAL" 0)(C0:dc P w K mg base 2 "place_refusal" ["store","p"] (fH C))(C1:dc P w K mg base 2 "list_refusal" ["store","places"] (dA K C))(C2:dc P w K mg base 2 "closure_of" ["store","goals"] (gq K C))(C3:dc P w K mg base 2 "without" ["places","others"] (l4 K)):ck P w K mg base eY 3 f fd ["store","p","roots"] (Ae K C .freed):=by
 refine F.ok ng ?_ ?_
 ·rintro vs H Q E⟨q,a,D,s,z,zs,rfl,_⟩;rfl
 ·rintro cdv A outer s H vs Q E hr⟨q,a,D,s,z,zs,rfl,S,hS,hz,k⟩;have nd:=ng.nd;refine⟨_,aq (ba (i:=3) nd rfl (Or.inl rfl) (aS C0 hr (ai (pv 0) (ai (pv 1) au)))) (aq (bH (bh gG (pv 3) (bw g1) (bC _)) (aw (aL (bE (ai (pv 3) au)))) aX) (aq (ba (i:=3) nd rfl (Or.inl rfl) (aS C1 hr (ai (pv 0) (ai (pv 2) au)))) (aq (bH (bh gG (pv 3) (bw g1) (bC _)) (aw (aL (bE (ai (pv 3) au)))) aX) (aw (aL (cZ fB (bE (ai bI au)) (aS C3 hr (ai (aS C2 hr (ai (pv 0) (ai (bE (ai (pv 1) au)) au))) (ai (aS C2 hr (ai (pv 0) (ai (pv 2) au))) au))))))))),?_⟩;have e0:aR s (.freed z zs)=match validPlace s z with
   |.error k=>cX s k
   |.ok x=>dz s zs λy=>cJ ((closure (graph s) [x]).filter λz=>!(closure (graph s) y).contains z):=rfl
  rw[e0]at k;unfold dz at k;refine⟨_,rfl,_,rfl,q,z,D,s,rfl,S,_,rfl,rfl,_,rfl,?_⟩;cases hc:validPlace s z with
  |error e=>
   rw[hc]at k
   exact eP (λ_=>⟨_,rfl,one_le,λp hp=>k.same S (aC hp) (by rw[ao];rfl)⟩) λh=>absurd (V.int.inj h) (o_ hc)
  |ok x=>
   rw[hc]at k
   simp only at k
   obtain⟨rfl,hx⟩:=jW hc
   refine eP (λh=>absurd rfl h) λ_=>?_
   have hx1:∀p∈[x],p∈placesOf s.valid:=λp hp=>by rw[aE.mp hp];exact hx
   refine⟨_,rfl,_,rfl,q,a,zs,D,s,rfl,S,hS,hz,λH1 s1=>⟨_,rfl,rfl,_,rfl,?_⟩⟩
   cases hc2:looked s zs with
   |error e=>
    rw[hc2]at k
    exact eP (λ_=>⟨_,rfl,one_le,λp hp=>k.same S (s1.trans (aC hp)) (by rw[ao];rfl)⟩) λh=>absurd (V.int.inj h) (fW hc2)
   |ok y=>
    rw[hc2]at k
    obtain⟨rfl,hy,hl⟩:=d_ hc2
    rw[ae]at hl
    rw[<-de]at hS
    refine eP (λh=>absurd rfl h) λ_=>?_
    refine wX ((closure (graph s) [x]).filter λz=>!(closure (graph s) y).contains z) (ay (bp ..) (ay (c_ S.si hx1) (by decide))) (λp hp R hR=>?_) λH' r sm hr'=>k.same S (s1.trans sm) (by rw[hr',sN])
    have s2:=s1.trans (aC (o:=.lst [.int 0]) hp)
    refine⟨_,rfl,_,rfl,one_le,λa3 hn3=>?_⟩
    have s3:=aC (o:=.lst (tx [x])) hn3
    refine⟨q,a3,D,s,[x],rfl,(S.same s2).same s3,bZ.of ao,hx1,by simp,λH4 r4 s4 nr4 hr4=>?_⟩
    have s24:=(s2.trans s3).trans s4
    refine⟨_,rfl,_,rfl,q,a,D,s,y,rfl,S.same s24,s24.seq hS,hy,by omega,λH5 r5 s5 nr5 hr5=>?_⟩
    refine⟨r4,r5,closure (graph s) [x],closure (graph s) y,rfl,.inl (bZ.of (s5 _ _ hr4)),bZ.of hr5,ay (c_ S.si hx1) (by decide),ay (c_ S.si hy) (by decide),λH6 r6 s6 nr6 hr6=>hR H6 r6 ((s3.trans s4).trans (s5.trans s6)) hr6⟩
end
end Wk
namespace Wk
open PySem PySem.Spec PyProof.Rows L2 WkR
open Vastof (Held State load placesOf textAt has mentions placeSet Graph graph closure above reaching validPlace looked knot gone)
theorem Ds(n:Nat)(l:List (Nat×Addr)):pE (rows l) (Sum.inl (n:Int))=rows (l.filter λx=>x.1 !=n):=by
 unfold pE rows;rw[cF];congr 1;refine fL λx _=>?_;show decide ((Sum.inl (x.1:Int):Key)≠Sum.inl (n:Int))=_;by_cases z:x.1=n
 ·simp[z]
 ·have:¬(x.1:Int)=n:=by omega
  simp[z,this]
theorem gF.filter{H:Hp}(f:Nat->Bool):∀{l:List (Nat×Addr)}{d:List (Nat×List Nat)},gF H l d->gF H (l.filter λx=>f x.1) (d.filter λx=>f x.1)
 |_,_,.nil=>.nil
 |x::l,r::d,.cons h t=>by
  rw[cw,cw,h.1];split
  ·exact .cons h (gF.filter f t)
  ·exact gF.filter f t
section
variable {P:Program}{w:World}{K:aj}{mg:Str->Option Value}{base:Heap}
def uv(C:Addr):Sp:=λvs H Q _=>∃(q a:Addr)(D:SD)(s:State)(l:List Nat),vs=[.ref q,.ref a]/\fG C H q D s/\H a=some (.lst (tx l))/\l.Nodup/\(∀p∈l,p∈placesOf s.valid)/\SI (gone s l).1/\wk C q H (gone s l).1 (gone s l).2 Q
theorem Dt{f C:Addr}{fd:FuncData}(F:eJ K "let_go" "let_go" vr f fd)(T:gE K C):ck P w K mg base eY 1 f fd ["store","places"] (uv C):=by
 refine F.ok xO ?_ ?_
 ·rintro vs H Q E⟨q,a,D,s,l,rfl,_⟩;rfl
 ·rintro cdv A outer s H vs Q E hr⟨q,a,D,s,l,rfl,S,ha,hn,hv,si,k⟩;have nd:=xO.nd;have hu:=eM hr;refine⟨_,aq (dI PassesOwn.never rfl (cK (pv 1)) (bJ (i:=2) nd rfl (Or.inl rfl)) (aw (dr (zC (cI (pv 0) rfl) (pv 2) ⟨rfl,rfl,rfl,rfl⟩)))) (aw (aL (cZ fB (bE (ai bI au)) (pv 1)))),?_⟩;have qa:q≠D.ah:=cn S.ob S.h1 (λz=>nomatch z);have aa:a≠D.ah:=cn ha S.h1 (λz=>nomatch z);have ll:l.length<=1024:=ay (aO hn hv) S.pv;refine⟨_,rfl,a,rfl,⟨_,bZ.of ha⟩,eK (K:=K) (a:=a) (xs:=tx l) (λi σ' H'=>∃(v:Option V),σ'=[some (.ref q),some (.ref a),v]/\g8 D.ah H H'/\H' D.ah=some (.dK (rows (D.lh.filter λx=>!(l.take i).contains x.1)))) ⟨none,rfl,g8.refl _ _,by rw[S.h1];congr 3;exact(Hg.mpr λx _=>by simp).symm⟩ (λi σ' H' _⟨_,_,bt,_⟩=>bZ.of (bt _ _ ha aa)) ?_ ?_⟩
  ·rintro i x σ' H' hx⟨v,rfl,bt,hd⟩;obtain⟨n,hn',rfl⟩:=cD hx;have et:l.take (i+1)=l.take i++[n]:=by rw[aT,hn'];rfl
   have hnt:n∉l.take i:=by have h5:(l.take i++[n]).Nodup:=et▸hn.sublist (b_ _ _);intro z;exact(be.mp h5).2.2 n z n (by simp) rfl
   have tf:gF H (D.lh.filter λx=>!(l.take i).contains x.1) (D.dh.filter λx=>!(l.take i).contains x.1):=S.t1.filter λn=>!(l.take i).contains n;rcases tf.get n with⟨c1,_⟩|⟨ad,t,c1,c2,c3,c4⟩
   ·exfalso;apply c1;obtain⟨t,ht⟩:=b0.mp ((S.dhv n).mpr (hv n (aP hn')));exact az.mpr ⟨(n,t),bj.mpr ⟨ht,by simpa using hnt⟩,rfl⟩
   ·refine⟨_,rfl,q,C,D.dx,_,_,rfl,bt _ _ S.ob qa,T.cl,T.n2,fc ..,D.ah,rfl,.inl ⟨_,.inl hd⟩,_,rfl,_,Sum.inl (n:Int),V.ref ad,hd,rfl,c3,?_⟩;refine⟨_,rfl,bt.put,?_⟩;rw[ao,Ds,Ik];congr 3;refine fL λx _=>?_;rw[et];by_cases z:x.1=n
    ·simp[z]
    ·simp[z]
  ·rintro σ' H'⟨v,rfl,bt,hd⟩;rw[ae,aZ]at hd;have no:∀xs,H D.ah≠some (.lst xs):=λxs z=>by rw[S.h1]at z;cases z
   have kt':∀{l:List (Nat×Addr)}{d:List (Nat×List Nat)},gF H l d->gF H' l d:=λh=>L2.Paired.mapP h λx r e=>⟨e.1,bt _ _ e.2 (λz=>no _ (z▸e.2))⟩;have S2:fG C H' q {D with lh:=D.lh.filter λx=>!l.contains x.1,dh:=D.dh.filter λx=>!l.contains x.1} (gone s l).1:=⟨bt _ _ S.ob qa,hd,bt _ _ S.h2 S.n12.symm,bt _ _ S.h3 S.n13.symm,bt _ _ S.h4 S.n14.symm,kt' (S.t1.filter λn=>!l.contains n),kt' S.t2,kt' S.t3,kt' S.t4,S.r1.filter λn=>!l.contains n,S.r2,S.r4,S.n12,S.n13,S.n14,S.n23,S.n24,S.n34,si⟩;have fk:FK q H H':=λb o e nb nk=>bt b o e (λz=>by rw[z,S.h1]at e;cases e;exact nk _ rfl);refine wX l (by omega) (λp hp R hR=>⟨_,rfl,hR _ a (Same.refl _) ?_⟩) λH2 r sm hr'=>k H2 r _ (S2.same sm) (fk.same sm) (by rw[hr',sN];rfl);exact aC hp _ _ (bt _ _ ha aa)
def tO(K:aj)(C:Addr):Sp:=λvs H Q _=>∃(q a:Addr)(D:SD)(s:State)(x:List Nat),vs=[.ref q,.ref a]/\fG C H q D s/\bZ K H a (tx x)/\x.length<=1024/\∀H',Same H H'->Q (.bl ((graph s).any λy=>!x.contains y.1&&y.2.any λn=>x.contains n)) H'
theorem wY{f C:Addr}{fd:FuncData}(F:eJ K "are_needed" "are_needed" jP f fd)(T:gE K C)(b1:mg "any"=none)(C1:dc P w K mg base 1 "keys_of" ["places"] (oF K))(C2:dc P w K mg base 2 "without" ["places","others"] (l4 K)):ck P w K mg base eY 3 f fd ["store","places"] (tO K C):=by
 refine F.ok pL ?_ ?_
 ·rintro vs H Q E⟨q,a,D,s,x,rfl,_⟩;rfl
 ·rintro cdv A outer s H vs Q E hr⟨q,a,D,s,x,rfl,S,hS,hx,k⟩;have nd:=pL.nd;have hu:=eM hr;have hr1:cT 1 _:=hr.mono (by decide);refine⟨_,aq (ba (i:=2) nd rfl (Or.inr rfl) (aS C1 hr1 (ai (pv 1) au))) (aq (dI PassesOwn.never rfl (cK (aS C2 hr (ai (cI (pv 0) rfl) (ai (pv 1) au)))) (bJ (i:=3) nd rfl (Or.inl rfl)) (aw (bH (fh (bz (yg rfl) (by rfl) b1 yH (ai (gN (own:=[("reference",4)]) rfl nd (cK (cp hu (sA (K:=K) rfl (pv 0) rfl) (pv 3) (λ_ _=>rfl))) (ei qT (aH jP) rfl rfl (by decide+kernel)) (λs H C cl fp=>bJ (i:=4) nd rfl (Or.inl rfl)) (λs H C cl fp=>eD) (λs H C cl fp=>uA (nY hu (pv 4) (pv 2)))) au))) (aw (aL iI)) aX))) (aw (aL iI))),?_⟩;have hdl:(placesOf D.dh).length<=1024:=by unfold placesOf;rw[ae];exact S.vlen
  refine⟨_,rfl,a,x,rfl,hS,by omega,λH1 d l' s1 nd1 hd1 hn1 hm1=>?_⟩;have S1:=S.same s1;refine⟨_,rfl,q,C,D.dx,_,_,rfl,S1.ob,T.cl,T.n2,fc ..,_,rfl,D.ah,a,placesOf D.dh,x,rfl,.inr ⟨D.lh,S1.h1,S.t1.keys⟩,s1.seq hS,by omega,by omega,λH2 r2 s2 nr2 hr2=>?_⟩;have s12:=s1.trans s2;have hd2:=s2 _ _ hd1;let rest:=(placesOf D.dh).filter λn=>!x.contains n;have go:((graph s).any λy=>!x.contains y.1&&y.2.any λn=>x.contains n)=rest.any λp=>(aG (graph s) p).any λn=>x.contains n:=by
   rw[dX,bY,bY];constructor
   ·rintro⟨y,hy,h⟩;rw[dG]at h;refine⟨y.1,bj.mpr ⟨(S.dhv y.1).mpr ?_,h.1⟩,?_⟩
    ·rw[<-b9];exact az.mpr ⟨y,hy,rfl⟩
    ·rw[iO S.si.graph hy];exact h.2
   ·rintro⟨p,hp,h⟩;obtain⟨h1,h2⟩:=bj.mp hp;have hk:p∈keys (graph s):=by rw[b9];exact(S.dhv p).mp h1
    obtain⟨y,hy,rfl⟩:=az.mp hk;rw[iO S.si.graph hy]at h;exact⟨y,hy,by rw[dG];exact⟨h2,h⟩⟩
  refine⟨r2,rfl,⟨_,bZ.of hr2⟩,eK (K:=K) (a:=r2) (xs:=tx rest) (λi σ' H'=>∃v:Option V,σ'=[some (.ref q),some (.ref a),some (.ref d),v,none]/\Same H2 H'/\∀p∈rest.take i,((aG (graph s) p).any λn=>x.contains n)=false) ⟨none,rfl,Same.refl _,by simp⟩ (λi σ' H' _⟨_,_,sm,_⟩=>bZ.of (sm _ _ hr2)) ?_ ?_⟩
  ·rintro i y σ' H' hy⟨v,rfl,sm,hno⟩;obtain⟨p,hp,rfl⟩:=cD hy;have hpv:p∈placesOf s.valid:=(S.dhv p).mp (bj.mp (aP hp)).1;have S3:=(S.same s12).same sm;have e:rest.take (i+1)=rest.take i++[p]:=by rw[aT,hp];rfl
   rcases S3.t3.get p with⟨c1,_⟩|⟨la,t,c1,c2,c3,c4⟩
   ·exact absurd (S.gk hpv) c1
   ·have et:aG (gW D) p=t:=dD S.gn c1;rw[S.ref hpv]at et;have htl:t.length<=1024:=et▸S.refl p;refine⟨_,rfl,q,C,D.dx,_,_,rfl,S3.ob,T.cl,T.n4,kY ..,_,rfl,D.ar,V.ref la,rfl,?_,la,rfl,⟨_,bZ.of c4⟩,λL hL=>lF (t.map λn=>V.bl (x.contains n)) (by simp) (by rw[ae];omega) hL (bZ.of c4) (λj z y' H4 R hz hy' sm4 cont=>?_) iA λH4 sm4 hq=>?_⟩
    ·have gg:=cf (k:=Sum.inl (p:Int)) (.inl S3.h3:Rd H' D.ar (.dK (rows D.lr)));rw[c3]at gg;exact gg
    ·obtain⟨n,hn,rfl⟩:=cD hz;obtain⟨n',hn',rfl⟩:=cD hy';rw[hn]at hn';cases hn';refine⟨rfl,_,rfl,_,rfl,d,_,rfl,cf (k:=Sum.inl (n:Int)) (.inl (sm4 _ _ (sm _ _ hd2))),?_⟩;have e2:(dZ (kt l') (Sum.inl (n:Int))).isSome=x.contains n:=by
      rw[lG];by_cases z:n∈l'
      ·have:=(hm1 n).mp z;simp[z,this]
      ·have:n∉x:=λq=>z ((hm1 n).mpr q);simp[z,this]
     rw[e2];exact cont H4 (Same.refl _)
    ·refine⟨L,t.map λn=>x.contains n,rfl,bZ.of (by rw[hq,aK];rfl),_,rfl,?_⟩;have e3:(t.map λn=>x.contains n).any id=(aG (graph s) p).any λn=>x.contains n:=by rw[xg,et];rfl
     rw[e3];refine ED (λhb=>?_) λhb=>?_
     ·have:=k H4 ((s12.trans sm).trans sm4);have e4:(rest.any λp=>(aG (graph s) p).any λn=>x.contains n)=true:=bY.mpr ⟨p,aP hp,hb⟩;rw[go,e4]at this;exact this
     ·refine⟨_,rfl,sm.trans sm4,λz hz=>?_⟩;rw[e]at hz;rcases aD.mp hz with hz|hz
      ·exact hno z hz
      ·rw[aE.mp hz];exact hb
  ·rintro σ' H'⟨v,rfl,sm,hno⟩;rw[ae,aZ]at hno;have:=k H' (s12.trans sm);have e4:(rest.any λp=>(aG (graph s) p).any λn=>x.contains n)=false:=by rw[dQ];intro z;obtain⟨p,hp,h⟩:=bY.mp z;rw[hno p hp]at h;cases h
   rw[go,e4]at this;exact this
theorem Gs{f C:Addr}{fd:FuncData}(F:eJ K "answer_take" "answer_take" lj f fd)(b1:mg "sorted"=none)(b2:mg "set"=none)(g1:GI mg "NO_REFUSAL" 0)(g2:GI mg "HELD" (-8))(C1:dc P w K mg base 2 "list_refusal" ["store","places"] (dA K C))(C2:dc P w K mg base 3 "are_needed" ["store","places"] (tO K C))(C3:dc P w K mg base 1 "let_go" ["store","places"] (uv C)):ck P w K mg base eY 4 f fd ["store","places"] (fZ K C .take):=by
 refine F.ok oj ?_ ?_
 ·rintro vs H Q E⟨q,a,D,s,zs,rfl,_⟩;rfl
 ·rintro cdv A outer s H vs Q E hr⟨q,a,D,s,zs,rfl,S,hS,hz,k⟩;have nd:=oj.nd;have hr2:cT 2 _:=hr.mono (by decide);have hr1:cT 1 _:=hr.mono (by decide);refine⟨_,aq (ba (i:=2) nd rfl (Or.inl rfl) (aS C1 hr2 (ai (pv 0) (ai (pv 1) au)))) (aq (bH (bh gG (pv 2) (bw g1) (bC _)) (aw (aL (bE (ai (pv 2) au)))) aX) (aq (bH (fh (aS C2 hr (ai (pv 0) (ai (pv 1) au)))) (aw (aL (bE (ai (bw g2) au)))) aX) (aw (aL (aS C3 hr1 (ai (pv 0) (ai (bz (qP rfl) (by rfl) b1 ib (ai (iL (yw rfl) (by rfl) b2 yF (ai (pv 1) au)) au)) au))))))),?_⟩;have si:=S.si.step (.take zs);have e0:aR s (.take zs)=nE s zs:=rfl;rw[e0]at k si;unfold nE at k si;refine⟨_,rfl,_,rfl,q,a,zs,D,s,rfl,S,hS,hz,λH1 s1=>⟨_,rfl,rfl,_,rfl,?_⟩⟩;cases hc:looked s zs with
  |error e=>
   rw[hc]at k
   exact eP (λ_=>⟨_,rfl,one_le,λp hp=>k.same S (s1.trans (aC hp)) (by rw[ao];rfl)⟩) λh=>absurd (V.int.inj h) (fW hc)
  |ok x=>
   rw[hc]at k si
   simp only at k si
   obtain⟨rfl,hx,hl⟩:=d_ hc
   rw[ae]at hl
   have hS':=hS
   rw[<-de]at hS
   refine eP (λh=>absurd rfl h) λ_=>?_
   refine⟨_,rfl,_,rfl,q,a,D,s,x,rfl,S.same s1,s1.seq hS,by omega,λH2 s2=>⟨_,rfl,?_⟩⟩
   have s12:=s1.trans s2
   refine ED (λhb=>?_) λhb=>?_
   ·rw[if_pos hb]at k;exact⟨one_le,λp hp=>k.same S (s12.trans (aC hp)) (by rw[ao];rfl)⟩
   ·rw[if_neg (by rw[hb];exact aI)]at k si;refine⟨_,rfl,_,rfl,a,_,rfl,s12.seq hS',?_,λd hd=>⟨d,_,rfl,ao,λws p asc mem hp=>?_⟩⟩
    ·rw[ae];show _<4096;omega
    ·have ew:=vK asc mem;have s3:=(aC (o:=Be P w d (x.map λ(n:Nat)=>(n:Int))) hd).trans (aC (o:=.lst (ws.map V.int)) hp);refine⟨q,p,D,s,placeSet x,rfl,(S.same s12).same s3,by rw[ao,ew,de],(cb x).nodup,λy hy=>hx y (bA.mp hy),si,λH' r D' S' fk hr'=>?_⟩;exact k H' r D' S' (FK.after (s12.trans s3) fk) hr'
theorem EZ{f C:Addr}{fd:FuncData}(F:eJ K "answer_sweep" "answer_sweep" ka f fd)(T:gE K C)(b1:mg "sorted"=none)(g1:GI mg "NO_REFUSAL" 0)(C1:dc P w K mg base 2 "list_refusal" ["store","places"] (dA K C))(C2:dc P w K mg base 2 "closure_of" ["store","goals"] (gq K C))(C3:dc P w K mg base 1 "let_go" ["store","places"] (uv C))(C4:dc P w K mg base 2 "without" ["places","others"] (l4 K)):ck P w K mg base eY 3 f fd ["store","roots"] (fZ K C .sweep):=by
 refine F.ok m7 ?_ ?_
 ·rintro vs H Q E⟨q,a,D,s,zs,rfl,_⟩;rfl
 ·rintro cdv A outer s H vs Q E hr⟨q,a,D,s,zs,rfl,S,hS,hz,k⟩;have nd:=m7.nd;have hr1:cT 1 _:=hr.mono (by decide);refine⟨_,aq (ba (i:=2) nd rfl (Or.inl rfl) (aS C1 hr (ai (pv 0) (ai (pv 1) au)))) (aq (bH (bh gG (pv 2) (bw g1) (bC _)) (aw (aL (bE (ai (pv 2) au)))) aX) (aw (aL (aS C3 hr1 (ai (pv 0) (ai (aS C4 hr (ai (bz (vd rfl) (by rfl) b1 ib (ai (cI (pv 0) rfl) au)) (ai (aS C2 hr (ai (pv 0) (ai (pv 1) au))) au))) au)))))),?_⟩;have si:=S.si.step (.sweep zs);have e0:aR s (.sweep zs)=md s zs:=rfl;rw[e0]at k si;unfold md at k si;refine⟨_,rfl,_,rfl,q,a,zs,D,s,rfl,S,hS,hz,λH1 s1=>⟨_,rfl,rfl,_,rfl,?_⟩⟩;cases hc:looked s zs with
  |error e=>
   rw[hc]at k
   exact eP (λ_=>⟨_,rfl,one_le,λp hp=>k.same S (s1.trans (aC hp)) (by rw[ao];rfl)⟩) λh=>absurd (V.int.inj h) (fW hc)
  |ok x=>
   rw[hc]at k si
   simp only at k si
   obtain⟨rfl,hx,hl⟩:=d_ hc
   rw[ae]at hl
   rw[<-de]at hS
   refine eP (λh=>absurd rfl h) λ_=>?_
   have S1:=S.same s1
   refine⟨_,rfl,_,rfl,q,C,D.dx,_,_,rfl,S1.ob,T.cl,T.n2,fc ..,D.ah,_,_,rfl,.inl S1.h1,Cm _,λws p hp1 hs1 np=>?_⟩
   have e1:(D.lh.map λx=>(x.1:Int))=(placesOf D.dh).map λ(n:Nat)=>(n:Int):=by rw[<-show D.lh.map (λx=>x.1)=placesOf D.dh from S.t1.keys,aK];rfl
   rw[e1]at hp1
   have ez:=ic hp1 hs1 S.r1.nd
   have e2:placeSet (placesOf D.dh)=placesOf s.valid:=(cb _).ext S.si.va λx=>by rw[bA];exact S.r1.places
   have hp2:upd H1 p (.lst (ws.map V.int)) p=some (.lst (tx (placesOf s.valid))):=by rw[ao,ez,e2,de]
   have s2:=s1.trans (aC (o:=.lst (ws.map V.int)) np)
   refine⟨_,rfl,_,rfl,q,a,D,s,x,rfl,S.same s2,s2.seq hS,hx,by omega,λH3 r3 s3 nr3 hr3=>?_⟩
   have s23:=s2.trans s3
   refine⟨p,r3,placesOf s.valid,closure (graph s) x,rfl,.inl (bZ.of (s3 _ _ hp2)),bZ.of hr3,ay S.pv (by decide),ay (c_ S.si hx) (by decide),λH4 r4 s4 nr4 hr4=>?_⟩
   have s24:=s23.trans s4
   refine⟨q,r4,D,s,_,rfl,S.same s24,hr4,(cq S.si.va).sublist cS,λy hy=>(bj.mp hy).1,si,λH' r D' S' fk hr'=>?_⟩
   exact k H' r D' S' (FK.after s24 fk) hr'
theorem Gu{f C:Addr}{fd:FuncData}(F:eJ K "answer_lose" "answer_lose" lq f fd)(g1:GI mg "NO_REFUSAL" 0)(C1:dc P w K mg base 2 "list_refusal" ["store","places"] (dA K C))(C2:dc P w K mg base 2 "above_of" ["store","goals"] (o9 K C))(C3:dc P w K mg base 1 "let_go" ["store","places"] (uv C)):ck P w K mg base eY 3 f fd ["store","places"] (fZ K C .lose):=by
 refine F.ok om ?_ ?_
 ·rintro vs H Q E⟨q,a,D,s,zs,rfl,_⟩;rfl
 ·rintro cdv A outer s H vs Q E hr⟨q,a,D,s,zs,rfl,S,hS,hz,k⟩;have nd:=om.nd;have hr1:cT 1 _:=hr.mono (by decide);refine⟨_,aq (ba (i:=2) nd rfl (Or.inl rfl) (aS C1 hr (ai (pv 0) (ai (pv 1) au)))) (aq (bH (bh gG (pv 2) (bw g1) (bC _)) (aw (aL (bE (ai (pv 2) au)))) aX) (aw (aL (aS C3 hr1 (ai (pv 0) (ai (aS C2 hr (ai (pv 0) (ai (pv 1) au))) au)))))),?_⟩;have si:=S.si.step (.lose zs);have e0:aR s (.lose zs)=nF s zs:=rfl;rw[e0]at k si;unfold nF at k si;refine⟨_,rfl,_,rfl,q,a,zs,D,s,rfl,S,hS,hz,λH1 s1=>⟨_,rfl,rfl,_,rfl,?_⟩⟩;cases hc:looked s zs with
  |error e=>
   rw[hc]at k
   exact eP (λ_=>⟨_,rfl,one_le,λp hp=>k.same S (s1.trans (aC hp)) (by rw[ao];rfl)⟩) λh=>absurd (V.int.inj h) (fW hc)
  |ok x=>
   rw[hc]at k si
   simp only at k si
   obtain⟨rfl,hx,hl⟩:=d_ hc
   rw[ae]at hl
   rw[<-de]at hS
   refine eP (λh=>absurd rfl h) λ_=>?_
   refine⟨_,rfl,_,rfl,_,rfl,q,a,D,s,x,rfl,S.same s1,s1.seq hS,hx,by omega,λH3 r3 s3 nr3 hr3=>?_⟩
   have s13:=s1.trans s3
   refine⟨q,r3,D,s,_,rfl,S.same s13,hr3,(sM S.si x).nodup,λy hy=>?_,si,λH' r D' S' fk hr'=>?_⟩
   ·have:=((ia S.si.graph).mp hy).1;rw[b9]at this;exact this
   ·exact k H' r D' S' (FK.after s13 fk) hr'
end
end Wk
namespace Wk
open PySem PySem.Spec PyProof.Rows L2 WkR
open Vastof (Held State)
structure Bv(K:aj)(C:Addr):Prop where
 cl:CK K C
 n1:gf K C "calls"
 n2:gf K C "taken"
def tf(a:Addr)(n:Nat):List (Str×V):=[("calls",.ref a),("taken",.int n)]
theorem E1:¬("calls":Str)="taken":=by decide+kernel
theorem uw(a:Addr)(n:Nat):dw "taken" (.int n) (dw "calls" (.ref a) [])=tf a n:=by simp only[dw,tf,if_neg E1]
theorem E2(a:Addr)(n m:Nat):dw "taken" (.int m) (tf a n)=tf a m:=by simp only[dw,tf,if_neg E1,if_true]
theorem vV(a:Addr)(n:Nat):(tf a n).lookup ("calls":Str)=some (.ref a):=by rw[<-uw,bL,if_neg E1,bL,if_pos rfl]
theorem oN(a:Addr)(n:Nat):(tf a n).lookup ("taken":Str)=some (.int n):=by rw[<-uw,bL,if_pos rfl]
theorem rA(a:Addr)(n:Nat){m:Str}(h1:¬m="calls")(h2:¬m="taken"):(tf a n).lookup m=none:=by rw[<-uw,bL,if_neg h2,bL,if_neg h1];rfl
section
variable {P:Program}{w:World}{K:aj}{mg:Str->Option Value}{base:Heap}
def oO(C:Addr):Sp:=λvs H Q _=>∃(x dx:Addr),vs=[.ref x]/\H x=some (.ins C dx [])/\∀H' D,fG C H' x D xk->g8 x H H'->Q .non H'
theorem wZ{f C:Addr}{fd:FuncData}(F:eJ K "__init__" "Store.__init__" jo f fd)(T:gE K C)(g1:GI mg "ROOM_LIMIT" 65536):ck P w K mg base eY 1 f fd ["self"] (oO C):=by
 refine F.ok rV ?_ ?_
 ·rintro vs H Q E⟨x,dx,rfl,_⟩;rfl
 ·rintro cdv A outer s H vs Q E hr⟨x,dx,rfl,hx,k⟩;refine⟨_,aq (g9 (pv 0) (bw g1) rfl) (aq (g9 (pv 0) cW rfl) (aq (g9 (pv 0) cW rfl) (aq (g9 (pv 0) cW rfl) (aw (g9 (pv 0) cW rfl))))),?_⟩;have l1:∀{f:Str}{v:V}{fs:List (Str×V)}{n:Nat},fs.length<=n->(dw f v fs).length<=n+1:=λh=>ay (q_ _ _ _) (by omega);refine⟨_,rfl,x,C,dx,_,rfl,hx,T.cl,T.n1,(by show 0<1000;decide),?_⟩;generalize h1:upd H x (.ins C dx (dw "room" (.int 65536) []))=H1;have x1:H1 x=some (.ins C dx (dw "room" (.int 65536) [])):=by rw[<-h1,ao]
  have b1:g8 x H H1:=by rw[<-h1];exact(g8.refl _ _).put
  intro a ha;have ax:x≠a:=aB x1 ha;refine⟨_,rfl,x,C,dx,_,rfl,(by rw[aA ax];exact x1),T.cl,T.n2,bX (l1 (n:=0) (by simp)) (by decide),?_⟩;generalize h2:upd (upd H1 a (.dK [])) x (.ins C dx (dw "held" (.ref a) (dw "room" (.int 65536) [])))=H2;have x2:H2 x=some (.ins C dx (dw "held" (.ref a) (dw "room" (.int 65536) []))):=by rw[<-h2,ao]
  have a2:H2 a=some (.dK []):=by rw[<-h2,aA ax.symm,ao]
  have w2:∀c o,H1 c=some o->c≠x->H2 c=some o:=λc o e n=>by rw[<-h2,aA n,aA (aB e ha)];exact e
  intro b hb;have bx:x≠b:=aB x2 hb;have ab:a≠b:=aB a2 hb;refine⟨_,rfl,x,C,dx,_,rfl,(by rw[aA bx];exact x2),T.cl,T.n3,bX (l1 (l1 (n:=0) (by simp))) (by decide),?_⟩;generalize h3:upd (upd H2 b (.dK [])) x (.ins C dx (dw "pins" (.ref b) (dw "held" (.ref a) (dw "room" (.int 65536) []))))=H3;have x3:H3 x=some (.ins C dx (dw "pins" (.ref b) (dw "held" (.ref a) (dw "room" (.int 65536) [])))):=by rw[<-h3,ao]
  have b3:H3 b=some (.dK []):=by rw[<-h3,aA bx.symm,ao]
  have w3:∀c o,H2 c=some o->c≠x->H3 c=some o:=λc o e n=>by rw[<-h3,aA n,aA (aB e hb)];exact e
  have a3:=w3 _ _ a2 ax.symm;intro c hc;have cx:x≠c:=aB x3 hc;have ac:a≠c:=aB a3 hc;have bc:b≠c:=aB b3 hc;refine⟨_,rfl,x,C,dx,_,rfl,(by rw[aA cx];exact x3),T.cl,T.n4,bX (l1 (l1 (l1 (n:=0) (by simp)))) (by decide),?_⟩;generalize h4:upd (upd H3 c (.dK [])) x (.ins C dx (dw "references" (.ref c) (dw "pins" (.ref b) (dw "held" (.ref a) (dw "room" (.int 65536) [])))))=H4;have x4:H4 x=some (.ins C dx (dw "references" (.ref c) (dw "pins" (.ref b) (dw "held" (.ref a) (dw "room" (.int 65536) []))))):=by rw[<-h4,ao]
  have c4:H4 c=some (.dK []):=by rw[<-h4,aA cx.symm,ao]
  have w4:∀c o,H3 c=some o->c≠x->H4 c=some o:=λd o e n=>by rw[<-h4,aA n,aA (aB e hc)];exact e
  have a4:=w4 _ _ a3 ax.symm;have b4:=w4 _ _ b3 bx.symm;intro d hd;have dx':x≠d:=aB x4 hd;have ad:a≠d:=aB a4 hd;have bd:b≠d:=aB b4 hd;have cd:c≠d:=aB c4 hd;refine⟨_,rfl,x,C,dx,_,rfl,(by rw[aA dx'];exact x4),T.cl,T.n5,bX (l1 (l1 (l1 (l1 (n:=0) (by simp))))) (by decide),?_⟩;have em:=o6 65536 a b c d;refine k _ ⟨dx,a,b,c,d,[],[],[],[],[],[],[]⟩ ?_ ?_
  ·refine⟨?_,?_,?_,?_,?_,.nil,.nil,.nil,.nil,DR.nil,DR.nil,DR.nil,ab,ac,ad,bc,bd,cd,SI.start⟩
   ·rw[ao];exact congrArg (λl=>some (HO.ins C dx l)) em
   ·rw[aA ax.symm,aA ad];exact a4
   ·rw[aA bx.symm,aA bd];exact b4
   ·rw[aA cx.symm,aA cd];exact c4
   ·show upd (upd H4 d (.dK [])) x _ d=_;rw[aA dx'.symm,ao];rfl
  ·intro y o e n;rw[aA n];have e4:=w4 _ _ (w3 _ _ (w2 _ _ (b1 y o e n) n) n) n;rw[aA (aB e4 hd)];exact e4
def qo(C:Addr):Sp:=λvs H Q _=>∃(x dx a:Addr),vs=[.ref x,.ref a]/\H x=some (.ins C dx [])/\∀H',H' x=some (.ins C dx (tf a 0))->g8 x H H'->Q .non H'
theorem yU{f C:Addr}{fd:FuncData}(F:eJ K "__init__" "Tape.__init__" kq f fd)(T:Bv K C):ck P w K mg base eY 1 f fd ["self","calls"] (qo C):=by
 refine F.ok t_ ?_ ?_
 ·rintro vs H Q E⟨x,dx,a,rfl,_⟩;rfl
 ·rintro cdv A outer s H vs Q E hr⟨x,dx,a,rfl,hx,k⟩;refine⟨_,aq (g9 (pv 0) (pv 1) rfl) (aw (g9 (pv 0) bI rfl)),?_⟩;refine⟨_,rfl,_,rfl,x,C,dx,_,rfl,hx,T.cl,T.n1,(by show 0<1000;decide),?_⟩;refine⟨_,rfl,x,C,dx,_,rfl,ao,T.cl,T.n2,(by show 1<1000;decide),?_⟩;rw[mh];have e:=uw a 0;refine k _ ?_ (g8.refl _ _).put;rw[ao];exact congrArg (λl=>some (HO.ins C dx l)) e
def sP(K:aj)(C:Addr):Sp:=λvs H Q _=>∃(y dx a:Addr)(zs:List Int)(n:Nat),vs=[.ref y]/\H y=some (.ins C dx (tf a n))/\bZ K H a (zs.map V.int)/\Q (.bl (decide (zs.length<=n))) H
theorem Af{f C:Addr}{fd:FuncData}(F:eJ K "is_ended" "Tape.is_ended" ju f fd)(T:Bv K C)(b1:mg "len"=none):ck P w K mg base eY 1 f fd ["self"] (sP K C):=by
 refine F.ok sr ?_ ?_
 ·rintro vs H Q E⟨y,dx,a,zs,n,rfl,_⟩;rfl
 ·rintro cdv A outer s H vs Q E hr⟨y,dx,a,zs,n,rfl,hy,hS,k⟩;refine⟨_,aw (aL (mi GR (cI (pv 0) rfl) (bz (lE (K:=K) rfl) (by rfl) b1 bf (ai (cI (pv 0) rfl) au)) (bC _))),?_⟩;refine⟨_,rfl,y,C,dx,_,_,rfl,hy,T.cl,T.n2,oN ..,_,rfl,y,C,dx,_,_,rfl,hy,T.cl,T.n1,vV ..,a,_,rfl,hS,_,_,rfl,rfl,?_⟩;have e:decide (((zs.map V.int).length:Int)<=(n:Int))=decide (zs.length<=n):=by rw[ae];by_cases h:zs.length<=n<;>simp[h]<;>omega
  show Q (.bl (decide (((zs.map V.int).length:Int)<=(n:Int)))) H;rw[e];exact k
def jS(K:aj)(C:Addr):Sp:=λvs H Q _=>∃(y dx a:Addr)(zs:List Int)(n:Nat)(z:Int),vs=[.ref y]/\H y=some (.ins C dx (tf a n))/\bZ K H a (zs.map V.int)/\zs[n]?=some z/\∀H',H' y=some (.ins C dx (tf a (n+1)))->g8 y H H'->Q (.int z) H'
theorem vW{f C:Addr}{fd:FuncData}(F:eJ K "take_number" "Tape.take_number" g_ f fd)(T:Bv K C):ck P w K mg base eY 1 f fd ["self"] (jS K C):=by
 refine F.ok jF ?_ ?_
 ·rintro vs H Q E⟨y,dx,a,zs,n,z,rfl,_⟩;rfl
 ·rintro cdv A outer s H vs Q E hr⟨y,dx,a,zs,n,z,rfl,hy,hS,hz,k⟩;have nd:=jF.nd;refine⟨_,aq (ba (i:=1) nd rfl (Or.inl rfl) (gM ig (cI (pv 0) rfl) (cI (pv 0) rfl) (λ_ _=>rfl))) (aq (g9 (pv 0) (cZ gc (cI (pv 0) rfl) bI) rfl) (aw (aL (pv 1)))),?_⟩;refine⟨_,rfl,y,C,dx,_,_,rfl,hy,T.cl,T.n1,vV ..,_,rfl,y,C,dx,_,_,rfl,hy,T.cl,T.n2,oN ..,a,_,_,_,rfl,rfl,hS,at_of (j:=n) rfl (by rw[a9,hz];rfl),?_⟩;refine⟨_,rfl,y,C,dx,_,_,rfl,hy,T.cl,T.n2,oN ..,_,_,rfl,rfl,_,rfl,y,C,dx,_,rfl,hy,T.cl,T.n2,(by show 2<1000;decide),?_⟩;have e:=E2 a n (n+1);refine⟨_,rfl,k _ ?_ (g8.refl _ _).put⟩;rw[ao];exact congrArg (λl=>some (HO.ins C dx l)) e
structure Ag(P:Program)(w:World)(K:aj)(mg:Str->Option Value)(base:Heap)(k:Nat)(C:Addr)(m:Str)(ps:List Str)(sp:Sp):Prop where
 ex:∃f fd,zj K C m f/\ck P w K mg base eY k f fd ps sp/\Binds K fd ps []
theorem jT{X:Cx}{k:Nat}{C:Addr}{m:Str}{ps:List Str}{sp:Sp}{o:Expr}{ta:TE}{apos pos:Pos}{pl:Sem Bool}(M:Ag X.prog X.w X.K X.mg X.base k C m ps sp)(c:CK X.K C)(hr:cT k X.A)(he:PE X o ta)(ht:eval (.Call (.Attribute o m apos) [] [] pos) X.env=(do
   let ov <-eval o X.env
   standAt apos.atName
   let(f,first) <-holding [ov] (getMethod ov m pl)
   callWith pos f first (backTo pos (starEach [] X.env)) (backToKw pos (keywordEach [] X.env))):=by rfl):PE X (.Call (.Attribute o m apos) [] [] pos) (GV C m sp [] E0 ta nv):=by
 obtain⟨f,fd,M,F,b⟩:=M.ex;exact D8 he c M F hr b .nil B_ ht
def sQ(K:aj)(C:Addr):Sp:=λvs H Q _=>∃(y dx a:Addr)(zs:List Int)(n l:Nat),vs=[.ref y]/\H y=some (.ins C dx (tf a n))/\bZ K H a (zs.map V.int)/\zs[n]?=some (l:Int)/\n+1+l<=zs.length/\∀H' r,H' y=some (.ins C dx (tf a (n+1+l)))->g8 y H H'->H r=none->r≠y->H' r=some (.lst (((zs.drop (n+1)).take l).map V.int))->Q (.ref r) H'
theorem Ah{f C:Addr}{fd:FuncData}(F:eJ K "take_row" "Tape.take_row" jv f fd)(T:Bv K C)(M:Ag P w K mg base 1 C "take_number" ["self"] (jS K C)):ck P w K mg base eY 2 f fd ["self"] (sQ K C):=by
 refine F.ok lZ ?_ ?_
 ·rintro vs H Q E⟨y,dx,a,zs,n,l,rfl,_⟩;rfl
 ·rintro cdv A outer s H vs Q E hr⟨y,dx,a,zs,n,l,rfl,hy,hS,hz,hl,k⟩;have nd:=lZ.nd;refine⟨_,aq (ba (i:=1) nd rfl (Or.inl rfl) (jT M T.cl hr (pv 0))) (aq (ba (i:=2) nd rfl (Or.inl rfl) (cI (pv 0) rfl)) (aq (g9 (pv 0) (cZ gc (pv 2) (pv 1)) rfl) (aw (aL (nU qD (cI (pv 0) rfl) (jI (pv 2)) (jI (cI (pv 0) rfl))))))),?_⟩;refine⟨_,rfl,y,dx,_,rfl,hy,rA _ _ (by decide+kernel) (by decide+kernel),y,dx,a,zs,n,(l:Int),rfl,hy,hS,hz,λH1 hy1 b1=>?_⟩;have sq:∀{H':Hp},g8 y H H'->bZ K H' a (zs.map V.int):=λ{H'}b=>by
   rcases hS with(h|⟨o,h⟩)|h
   ·exact .inl (.inl (b _ _ h (cn h hy (λz=>nomatch z))))
   ·exact .inl (.inr ⟨o,b _ _ h (cn h hy (λz=>nomatch z))⟩)
   ·exact .inr h
  refine⟨_,rfl,y,C,dx,_,_,rfl,hy1,T.cl,T.n2,oN ..,?_⟩;refine⟨_,rfl,_,rfl,_,_,rfl,rfl,_,rfl,y,C,dx,_,rfl,hy1,T.cl,T.n2,(by show 2<1000;decide),?_⟩;have e:=E2 a (n+1) (n+1+l);have hy2:upd H1 y (.ins C dx (dw "taken" (.int (((n+1:Nat):Int)+(l:Int))) (tf a (n+1)))) y=some (.ins C dx (tf a (n+1+l))):=by rw[ao];exact congrArg (λl=>some (HO.ins C dx l)) e
  have b2:g8 y H (upd H1 y (.ins C dx (dw "taken" (.int (((n+1:Nat):Int)+(l:Int))) (tf a (n+1))))):=b1.put;refine⟨_,rfl,y,C,dx,_,_,rfl,hy2,T.cl,T.n1,vV ..,_,rfl,_,rfl,_,rfl,y,C,dx,_,_,rfl,hy2,T.cl,T.n2,oN ..,_,rfl,a,_,rfl,sq b2,λr nr=>?_⟩;have ry:r≠y:=λz=>by rw[z,hy2]at nr;cases nr
  have nr0:H r=none:=by
   cases z:H r with
   |none=>rfl
   |some o=>rw[b2 _ _ z ry]at nr;cases nr
  refine k _ r (by rw[aA ry.symm];exact hy2) (λb o e nb=>?_) nr0 ry ?_
  ·rw[aA (aB e nr0)];exact b2 b o e nb
  ·rw[ao,Ci (by rw[ae];exact hl) (by omega),pD,iH,DE]
end
end Wk
namespace Wk
open Vastof
structure DF(g:Graph)(ps:List Nat)(W:List (Nat×Bool))(M Fi:List Nat):Prop where
 mm:∀x,x∈M↔x∈Fi\/(x,true)∈W
 fn:Fi.Nodup
 dj:∀x∈Fi,(x,true)∉W
 gn:((W.filter λe=>e.2).map λe=>e.1).Nodup
 anc:∀pre e post,W=pre++e::post->∀a,(a,true)∈pre->Reach g a e.1
 fin:∀u∈Fi,∀v∈listAt g u,v∈M
 gry:∀pre u post,W=pre++(u,true)::post->∀v∈listAt g u,v∈M\/(v,false)∈post
 st:∀p∈ps,p∈M\/(p,false)∈W
 ws:∀e∈W,e.1∈ps
 fs:∀x∈Fi,x∈ps
 K:∀a u b,Fi=a++u::b->(∀v,Reach g u v->v∈a++[u])\/∃c,((c,true)∈W\/c∈b)/\Reach g u c/\Reach g c u
theorem yV{α:Type}{W0 pre post:List α}{e t:α}(h:W0++[t]=pre++e::post):(post=[]/\pre=W0/\e=t)\/∃post',post=post'++[t]/\W0=pre++e::post':=by
 rcases rG post with h1|⟨p',x,h1⟩
 ·subst h1;have:=Jl h rfl;exact .inl ⟨rfl,this.1.symm,by have:=this.2;simp at this;exact this.symm⟩
 ·rw[h1]at h;have h2:W0++[t]=(pre++e::p')++[x]:=by rw[h];simp
  have:=Jl h2 rfl;have hx:t=x:=by have:=this.2;simpa using this
  exact .inr ⟨p',by rw[h1,hx];simp,this.1⟩
theorem DF.start{g:Graph}{ps:List Nat}:DF g ps (ps.map λp=>(p,false)) [] [] where
 mm:=λx=>by simp
 fn:=cA
 dj:=by simp
 gn:=by
  have:(ps.map λp=>(p,false)).filter (λe=>e.2)=[]:=by simp
  rw[this];exact cA
 anc:=λpre e post h a ha=>by
  have:(a,true)∈ps.map λp=>(p,false):=by rw[h];exact aQ _ ha
  simp at this
 fin:=by simp
 gry:=λpre u post h v hv=>by
  have:(u,true)∈ps.map λp=>(p,false):=by rw[h];simp
  simp at this
 st:=λp hp=>.inr (az.mpr ⟨p,hp,rfl⟩)
 ws:=λe he=>by obtain⟨p,hp,rfl⟩:=az.mp he;exact hp
 fs:=by simp
 K:=λa u b h=>by simp at h
theorem DF.old{g:Graph}{ps M Fi:List Nat}{W:List (Nat×Bool)}{p:Nat}(I:DF g ps (W++[(p,false)]) M Fi)(hp:p∈M):DF g ps W M Fi:=by
 have tr:∀x,(x,true)∈W++[(p,false)]↔(x,true)∈W:=λx=>by simp
 refine⟨λx=>by rw[I.mm x,tr],I.fn,λx hx h=>I.dj x hx ((tr x).mpr h),?_,λpre e post h a ha=>?_,I.fin,λpre u post h v hv=>?_,λq hq=>?_,λe he=>I.ws e (aQ _ he),I.fs,λa u b h=>?_⟩
 ·have:=I.gn;simpa using this
 ·exact I.anc pre e (post++[(p,false)]) (by rw[h];simp) a ha
 ·rcases I.gry pre u (post++[(p,false)]) (by rw[h];simp) v hv with h1|h1
  ·exact .inl h1
  ·rcases aD.mp h1 with h1|h1
   ·exact .inr h1
   ·simp at h1;exact .inl (h1▸hp)
 ·rcases I.st q hq with h1|h1
  ·exact .inl h1
  ·rcases aD.mp h1 with h1|h1
   ·exact .inr h1
   ·simp at h1;exact .inl (h1▸hp)
 ·rcases I.K a u b h with h1|⟨c,h1,h2⟩
  ·exact .inl h1
  ·rw[tr]at h1;exact .inr ⟨c,h1,h2⟩
theorem DF.done{g:Graph}{ps M Fi:List Nat}{W:List (Nat×Bool)}{u:Nat}(I:DF g ps (W++[(u,true)]) M Fi):DF g ps W M (Fi++[u]):=by
 have uM:u∈M:=(I.mm u).mpr (.inr (by simp));have uF:u∉Fi:=λh=>I.dj u h (by simp);have gn:=I.gn;rw[dC,aW]at gn;have uW:(u,true)∉W:=λh=>by have:=(be.mp gn).2.2 u (az.mpr ⟨(u,true),bj.mpr ⟨h,rfl⟩,rfl⟩) u (by simp);exact this rfl
 have tr:∀x,(x,true)∈W++[(u,true)]↔(x,true)∈W\/x=u:=λx=>by simp
 have fl:∀x,(x,false)∈W++[(u,true)]↔(x,false)∈W:=λx=>by simp
 refine⟨λx=>?_,?_,λx hx h=>?_,(be.mp gn).1,λpre e post h a ha=>?_,λy hy v hv=>?_,λpre y post h v hv=>?_,λq hq=>?_,λe he=>I.ws e (aQ _ he),λx hx=>?_,λa y b h=>?_⟩
 ·rw[I.mm x,tr,aD,aE];constructor
  ·rintro(h|h|h)
   ·exact .inl (.inl h)
   ·exact .inr h
   ·exact .inl (.inr h)
  ·rintro((h|h)|h)
   ·exact .inl h
   ·exact .inr (.inr h)
   ·exact .inr (.inl h)
 ·rw[be];refine⟨I.fn,by simp,λx hx y hy e=>?_⟩;rw[aE.mp hy]at e;exact uF (e▸hx)
 ·rcases aD.mp hx with h1|h1
  ·exact I.dj x h1 ((tr x).mpr (.inl h))
  ·rw[aE.mp h1]at h;exact uW h
 ·exact I.anc pre e (post++[(u,true)]) (by rw[h];simp) a ha
 ·rcases aD.mp hy with h1|h1
  ·exact I.fin y h1 v hv
  ·rw[aE.mp h1]at hv;rcases I.gry W u [] rfl v hv with h2|h2
   ·exact h2
   ·simp at h2
 ·rcases I.gry pre y (post++[(u,true)]) (by rw[h];simp) v hv with h1|h1
  ·exact .inl h1
  ·rcases aD.mp h1 with h1|h1
   ·exact .inr h1
   ·simp at h1
 ·rcases I.st q hq with h1|h1
  ·exact .inl h1
  ·exact .inr ((fl q).mp h1)
 ·rcases aD.mp hx with h1|h1
  ·exact I.fs x h1
  ·rw[aE.mp h1];exact I.ws (u,true) (by simp)
 ·rcases yV h with⟨rfl,rfl,rfl⟩|⟨b',rfl,h1⟩
  ·by_cases hg:∃c,(c,true)∈W/\Reach g y c
   ·obtain⟨c,h1,h2⟩:=hg;exact .inr ⟨c,.inl h1,h2,I.anc W (y,true) [] rfl c h1⟩
   ·left;intro v hv;have key:∀v,v∈a++[y]->∀r∈listAt g v,Reach g y r->r∈a++[y]:=λv hv r hr hyr=>by
     have rM:r∈M:=by
      rcases aD.mp hv with h1|h1
      ·exact I.fin v h1 r hr
      ·rw[aE.mp h1]at hr;rcases I.gry W y [] rfl r hr with h2|h2
       ·exact h2
       ·simp at h2
     rcases(I.mm r).mp rM with h1|h1
     ·exact aQ _ h1
     ·rcases(tr r).mp h1 with h2|h2
      ·exact absurd ⟨r,h2,hyr⟩ hg
      ·rw[h2];simp
    induction hv with
    |refl=>simp
    |step h1 h2 ih=>exact key _ ih _ h2 (.step h1 h2)
  ·rcases I.K a y b' h1 with h2|⟨c,h2,h3⟩
   ·exact .inl h2
   ·refine .inr ⟨c,?_,h3⟩;rcases h2 with h2|h2
    ·rcases(tr c).mp h2 with h4|h4
     ·exact .inl h4
     ·exact .inr (by rw[h4];simp)
    ·exact .inr (aQ _ h2)
theorem DF.new{g:Graph}{ps M Fi:List Nat}{W:List (Nat×Bool)}{p:Nat}(hc:∀p∈ps,∀x∈listAt g p,x∈ps)(I:DF g ps (W++[(p,false)]) M Fi)(hp:p∉M):DF g ps (W++(p,true)::(listAt g p).map λr=>(r,false)) (M++[p]) Fi:=by
 have pps:p∈ps:=I.ws (p,false) (by simp);have pF:p∉Fi:=λh=>hp ((I.mm p).mpr (.inl h));have pW:(p,true)∉W:=λh=>hp ((I.mm p).mpr (.inr (aQ _ h)));have tr:∀x,(x,true)∈W++(p,true)::(listAt g p).map (λr=>(r,false))↔(x,true)∈W\/x=p:=λx=>by simp
 have tr0:∀x,(x,true)∈W++[(p,false)]↔(x,true)∈W:=λx=>by simp
 have base:∀{pre:List (Nat×Bool)}{e:Nat×Bool}{post:List (Nat×Bool)},W++(p,true)::(listAt g p).map (λr=>(r,false))=pre++e::post->(∃post',W=pre++e::post'/\post=post'++(p,true)::(listAt g p).map λr=>(r,false))\/(pre=W/\e=(p,true)/\post=(listAt g p).map λr=>(r,false))\/(∃q,pre=W++(p,true)::q/\(listAt g p).map (λr=>(r,false))=q++e::post):=λ{pre e post}h=>by
  rcases CA.mp h with⟨q,h1,h2⟩|⟨q,h1,h2⟩
  ·cases q with
   |nil=>
    simp at h1 h2
    exact .inr (.inl ⟨h1,h2.1.symm,h2.2.symm⟩)
   |cons z q=>
    simp at h2
    obtain⟨rfl,h2⟩:=h2
    exact .inr (.inr ⟨q,h1,h2⟩)
  ·cases q with
   |nil=>
    simp at h1 h2
    exact .inr (.inl ⟨h1.symm,h2.1,h2.2⟩)
   |cons z q=>
    simp at h2
    obtain⟨rfl,h2⟩:=h2
    exact .inl ⟨q,h1,h2⟩
 refine⟨λx=>?_,I.fn,λx hx h=>?_,?_,λpre e post h a ha=>?_,λu hu v hv=>aQ _ (I.fin u hu v hv),λpre u post h v hv=>?_,λq hq=>?_,λe he=>?_,I.fs,λa u b h=>?_⟩
 ·rw[aD,I.mm x,tr,tr0,aE];constructor
  ·rintro((h|h)|h)
   ·exact .inl h
   ·exact .inr (.inl h)
   ·exact .inr (.inr h)
  ·rintro(h|h|h)
   ·exact .inl (.inl h)
   ·exact .inl (.inr h)
   ·exact .inr h
 ·rcases(tr x).mp h with h1|h1
  ·exact I.dj x hx ((tr0 x).mpr h1)
  ·exact pF (h1▸hx)
 ·have gn:=I.gn;rw[dC,aW]at gn;have gn:=(be.mp gn).1;have e:(((listAt g p).map λr=>(r,false)).filter λe=>e.2)=[]:=by simp
  rw[dC,cw,if_pos rfl,e,aW,be];refine⟨gn,by simp,λx hx y hy h=>?_⟩;simp at hy;rw[hy]at h;obtain⟨z,hz,ez⟩:=az.mp hx;obtain⟨h1,h2⟩:=bj.mp hz;obtain⟨z1,z2⟩:=z;simp at ez h2;subst h2;rw[ez,h]at h1;exact pW h1
 ·rcases base h with⟨post',h1,_⟩|⟨h1,h2,_⟩|⟨q,h1,h2⟩
  ·exact I.anc pre e (post'++[(p,false)]) (by rw[h1];simp) a ha
  ·rw[h2];exact I.anc W (p,false) [] rfl a (h1▸ha)
  ·have er:e.1∈listAt g p:=by
    have:e∈(listAt g p).map λr=>(r,false):=by rw[h2];simp
    obtain⟨r,hr,rfl⟩:=az.mp this;exact hr
   rw[h1]at ha;rcases aD.mp ha with h3|h3
   ·exact .step (I.anc W (p,false) [] rfl a h3) er
   ·rcases aF.mp h3 with h3|h3
    ·have:a=p:=by injection h3
     rw[this];exact .step (.refl _) er
    ·have:(a,true)∈(listAt g p).map λr=>(r,false):=by rw[h2];exact aQ _ h3
     simp at this
 ·rcases base h with⟨post',h1,h2⟩|⟨h1,h2,h3⟩|⟨q,h1,h2⟩
  ·rcases I.gry pre u (post'++[(p,false)]) (by rw[h1];simp) v hv with h3|h3
   ·exact .inl (aQ _ h3)
   ·rcases aD.mp h3 with h3|h3
    ·exact .inr (by rw[h2];exact aQ _ h3)
    ·simp at h3;exact .inl (by rw[h3];simp)
  ·have:u=p:=by injection h2
   rw[this]at hv;exact .inr (by rw[h3];exact az.mpr ⟨v,hv,rfl⟩)
  ·have:(u,true)∈(listAt g p).map λr=>(r,false):=by rw[h2];simp
   simp at this
 ·rcases I.st q hq with h1|h1
  ·exact .inl (aQ _ h1)
  ·rcases aD.mp h1 with h1|h1
   ·exact .inr (aQ _ h1)
   ·simp at h1;exact .inl (by rw[h1];simp)
 ·rcases aD.mp he with h1|h1
  ·exact I.ws e (aQ _ h1)
  ·rcases aF.mp h1 with h1|h1
   ·rw[h1];exact pps
   ·obtain⟨r,hr,rfl⟩:=az.mp h1;exact hc p pps r hr
 ·rcases I.K a u b h with h1|⟨c,h1,h2⟩
  ·exact .inl h1
  ·refine .inr ⟨c,?_,h2⟩;rcases h1 with h1|h1
   ·exact .inl ((tr c).mpr (.inl ((tr0 c).mp h1)))
   ·exact .inr h1
structure oP(g:Graph)(ps Fi:List Nat):Prop where
 nd:Fi.Nodup
 mem:∀p,p∈Fi↔p∈ps
 K:∀a u b,Fi=a++u::b->(∀v,Reach g u v->v∈a++[u])\/∃c∈b,Reach g u c/\Reach g c u
theorem DF.end_{g:Graph}{ps M Fi:List Nat}(I:DF g ps [] M Fi):oP g ps Fi:=by
 refine⟨I.fn,λp=>⟨I.fs p,λhp=>?_⟩,λa u b h=>?_⟩
 ·rcases I.st p hp with h|h
  ·rcases(I.mm p).mp h with h|h
   ·exact h
   ·cases h
  ·cases h
 ·rcases I.K a u b h with h1|⟨c,h1,h2⟩
  ·exact .inl h1
  ·rcases h1 with h1|h1
   ·cases h1
   ·exact .inr ⟨c,h1,h2⟩
theorem DF.mlen{g:Graph}{ps M Fi:List Nat}{W:List (Nat×Bool)}(I:DF g ps W M Fi):∀x∈M,x∈ps:=λx hx=>by
 rcases(I.mm x).mp hx with h|h
 ·exact I.fs x h
 ·exact I.ws _ h
theorem oP.last{g:Graph}{ps Fi:List Nat}(O:oP g ps Fi):∀(n:Nat)(a:List Nat)(u:Nat)(b:List Nat),b.length=n->Fi=a++u::b->∃a' u' b',Fi=a'++u'::b'/\Reach g u u'/\Reach g u' u/\∀v,Reach g u' v->v∈a'++[u']:=by
 intro n;induction n using Nat.strongRecOn with
 |ind n ih=>
  intro a u b hb h
  rcases O.K a u b h with h1|⟨c,h1,h2,h3⟩
  ·exact⟨a,u,b,h,.refl _,.refl _,h1⟩
  ·obtain⟨b1,b2,rfl⟩:=i6 h1;obtain⟨a',u',b',e1,e2,e3,e4⟩:=ih b2.length (by rw[<-hb];simp;omega) (a++u::b1) c b2 rfl (by rw[h];simp);exact⟨a',u',b',e1,h2.trans e2,e3.trans h3,e4⟩
theorem oP.knot{g:Graph}{ps Fi:List Nat}(O:oP g ps Fi){a b:List Nat}{x:Nat}(h:Fi=a++x::b){av:List Nat}(hb:∀y∈b,y∈av)(hav:∀y∈av,∀z,Reach g y z->Reach g z y->z∈av){y:Nat}(hy:y∈ps)(hya:y∉av)(hr:Reach g y x):Reach g x y:=by
 have hyF:y∈Fi:=(O.mem y).mpr hy;obtain⟨c1,c2,hc⟩:=i6 hyF;obtain⟨a',u',b',e1,e2,e3,e4⟩:=O.last c2.length c1 y c2 rfl hc;have ua:u'∉av:=λq=>hya (hav u' q y e3 e2);have xin:x∈a'++[u']:=e4 x (e3.trans hr);have uin:u'∈a++[x]:=by
  have:u'∈a++x::b:=by rw[<-h,e1];simp
  rcases aD.mp this with q|q
  ·exact aQ _ q
  ·rcases aF.mp q with q|q
   ·rw[q];simp
   ·exact absurd (hb u' q) ua
 have xu:x=u':=by
  rcases aD.mp xin with q|q
  ·exfalso;rcases aD.mp uin with q2|q2
   ·
    obtain⟨p1,p2,hp⟩:=i6 q;obtain⟨p3,p4,hp2⟩:=i6 q2;have n1:=O.nd;rw[e1,hp]at n1;have n2:=O.nd;rw[h,hp2]at n2;have l1:Fi=p1++x::(p2++u'::b'):=by rw[e1,hp];simp
    have l2:Fi=(p3++u'::p4)++x::b:=by rw[h,hp2]
    have nd:=O.nd;rw[l1]at nd;have hx1:x∉p1:=λz=>(be.mp nd).2.2 x z x (by simp) rfl;have nd2:=O.nd;rw[l2]at nd2;have hx2:x∉p3++u'::p4:=λz=>(be.mp nd2).2.2 x z x (by simp) rfl;have e5:p1++x::(p2++u'::b')=(p3++u'::p4)++x::b:=l1.symm.trans l2;have e6:p1=p3++u'::p4:=by
     rcases CA.mp e5 with⟨w,w1,w2⟩|⟨w,w1,w2⟩
     ·cases w with
      |nil=>simpa using w1.symm
      |cons z w=>
       simp at w2
       exact absurd (by rw[w1,w2.1];simp) hx2
     ·cases w with
      |nil=>simpa using w1
      |cons z w=>
       simp at w2
       exact absurd (by rw[w1,w2.1];simp) hx1
    have:u'∈p1:=by rw[e6];simp
    exact(be.mp nd).2.2 u' this u' (by simp) rfl
   ·have:u'=x:=by simpa using q2
    have n1:=O.nd;rw[e1]at n1;exact(be.mp n1).2.2 x q u' (by simp) this.symm
  ·simpa using q
 rw[xu];exact e3
end Wk
namespace Wk
open PySem PySem.Spec PyProof.Rows L2 WkR
open Vastof (Held State load placesOf Graph graph)
def Js(H:Hp)(a:Addr)(es:List (Nat×Bool)):Prop:=∃ts:List Addr,H a=some (.lst (ts.map V.ref))/\Paired (λT(e:Nat×Bool)=>H T=some (.tup [.int (e.1:Nat),.bl e.2])) ts es
theorem pS{α β:Type}{F:α->β->Prop}:∀{l₁ m₁:List α}{l₂ m₂:List β},Paired F l₁ l₂->Paired F m₁ m₂->Paired F (l₁++m₁) (l₂++m₂)
 |_,_,_,_,.nil,h=>h
 |_,_,_,_,.cons a t,h=>.cons a (pS t h)
theorem uf{α β:Type}{F:α->β->Prop}{l:List α}{m:List β}{e:β}(h:Paired F l (m++[e])):∃l0 x,l=l0++[x]/\Paired F l0 m/\F x e:=by
 induction m generalizing l with
 |nil=>
  cases h with
  |cons a t=>
   cases t
   exact⟨[],_,rfl,.nil,a⟩
 |cons b m ih=>
  cases h with
  |cons a t=>
   obtain⟨l0,x,rfl,h1,h2⟩:=ih t
   exact⟨_::l0,x,rfl,.cons a h1,h2⟩
theorem yW{J:It}{ps:List Nat}{item:Nat->V->Prop}{j:Nat}{vs:List Nat}{σ:L2.St}{H1:Hp}{D:Addr}{Qd:Hp->Prop}(hj:j<σ.length)(hw:∀x,wipe ((wipe σ vs).set j (some x)) vs=wipe σ vs)(hD:H1 D=none)(hsz:ps.length<=100000)(hi:∀i x,item i x->∃p:Nat,ps[i]?=some p/\x=.int p)(hJ:∀i H,Same H1 H->(i<ps.length->J.go i H)/\(i=ps.length->J.stop i H)/\∀x H',i<ps.length->J.yld i H x H'->H'=H/\item i x)(hd:∀H',Same H1 H'->Js H' D (ps.map λp=>(p,false))->Qd H'):∃W:Nat->Nat->Hp->Prop,(∃m,W 0 m (upd H1 D (.lst [])))/\∀i m H,W i m H->(J.stop i H/\Qd H)\/(J.go i H/\∃Nx:Hp->Prop,(∀H',Nx H'->∃m',m'<m/\W (i+1) m' H')/\∀v H',J.yld i H v H'->kJ j v (wipe σ vs) H' λσ2 H2=>wipe σ2 vs=wipe σ vs/\CN σ2 H2 λb H3=>
    if b=true then D4 (jX (fg j) (jX (tC (.bl false)) nv)) σ2 H3 λy H4=>∃acc,H4 D=some (.lst acc)/\acc.length<sizeLine/\Nx (upd H4 D (.lst (acc++[y])))else Nx H3):=by
 refine yP (n:=ps.length) (item:=item) (λi H'=>Same H1 H'/\Js H' D ((ps.take i).map λp=>(p,false))) ⟨aC hD,[],ao,.nil⟩ (λi H' h=>hJ i H' h.1) ?_ ?_
 ·rintro i x H' hlt hx⟨sm,ts,hq,pr⟩;obtain⟨p,hp,rfl⟩:=hi i x hx;have e:ps.take (i+1)=ps.take i++[p]:=by rw[aT,hp];rfl
  refine⟨hw _,zV ⟨_,eS (by rw[hZ];exact hj),(by show 2<=sizeLine;decide),λT hT=>⟨_,aC hT _ _ hq,?_,(sm.trans (aC hT)).new hD,ts++[T],?_,?_⟩⟩⟩
  ·rw[ae,pr.length,ae];exact bW (ay (br ..) hsz)
  ·rw[ao,aW];rfl
  ·rw[e,aW];have nT:∀{b:Addr}{o:HO},H' b=some o->b≠T:=λe=>aB e hT;refine Paired.snoc (L2.Paired.mapP pr λb r eb=>?_) ?_
   ·rw[aA (cn eb hq (λz=>nomatch z)),aA (nT eb)];exact eb
   ·rw[aA (nT hq).symm,ao]
 ·rintro H'⟨sm,hq⟩;rw[aZ]at hq;exact hd H' sm hq
section
variable {P:Program}{w:World}{K:aj}{mg:Str->Option Value}{base:Heap}
def Ai(K:aj)(C:Addr):Sp:=λvs H Q _=>∃(q a:Addr)(D:SD)(s:State)(ps:List Nat),vs=[.ref q,.ref a]/\fG C H q D s/\Places K H D a ps/\ps.Nodup/\(∀p∈ps,p∈placesOf s.valid)/\(∀p∈ps,∀x∈aG (graph s) p,x∈ps)/\∀H' r Fi,Same H H'->H r=none->H' r=some (.lst (tx Fi))->oP (graph s) ps Fi->Q (.ref r) H'
def HR(K:aj):TS:=AJ (FP (IK K "list" IL (fg 4)) (kJ 5)) (AJ (FP (BU (F3 K) (fg 5) (tC (.int 0))) (kJ 6)) (FO (tB (BU (F3 K) (fg 5) (tC (.int 1)))) (xq (Iq K "list" qE (fg 2) (jX (fg 6) nv))) (FO (tB (B8 (fg 6) (fg 3))) (AJ (B9 (fg 3) (fg 6) (tC (.bl true))) (AJ (xq (Iq K "list" qE (fg 4) (jX (D4 (jX (fg 6) (jX (tC (.bl true)) nv))) nv))) (xq (Iq K "list" B2 (fg 4) (jX (GW (BS K (xD (FV K (fg 0) "references") (fg 6))) (kJ 7) CN (D4 (jX (fg 7) (jX (tC (.bl false)) nv))) [7]) nv))))) DT)))
def HS(K:aj):TT:=xr (BU (DV λi j=>.bl (decide (j<i))) (tCB (Jb K) (jX (fg 4) nv)) (tC (.int 0)))
theorem tP{C:Addr}(T:gE K C){q a a2 am a4:Addr}{D:SD}{s:State}{ps:List Nat}{H H1:Hp}{Q:VK}{R:Ends}(S:fG C H q D s)(hn:ps.Nodup)(hv:∀p∈ps,p∈placesOf s.valid)(hc:∀p∈ps,∀x∈aG (graph s) p,x∈ps)(n2:H a2=none)(nm:H am=none)(n4:H a4=none)(d2m:a2≠am)(d24:a2≠a4)(dm4:am≠a4)(sm:Same H H1)(h2:H1 a2=some (.lst []))(hm:H1 am=some (.dK []))(h4:Js H1 a4 (ps.map λp=>(p,false)))(hR:R.rt=Q)(k:∀H' r Fi,Same H H'->H r=none->H' r=some (.lst (tx Fi))->oP (graph s) ps Fi->Q (.ref r) H'){v5 v6 v7:Option V}:AJ (DU (HS K) (HR K)) (FN (fg 2)) R [some (.ref q),some (.ref a),some (.ref a2),some (.ref am),some (.ref a4),v5,v6,v7] H1:=by
 have pl:ps.length<=1024:=ay (aO hn hv) S.pv;refine⟨λm σ' H'=>∃(W:List (Nat×Bool))(M Fi:List Nat)(v5 v6 v7:Option V),σ'=[some (.ref q),some (.ref a),some (.ref a2),some (.ref am),some (.ref a4),v5,v6,v7]/\Same H H'/\H' a2=some (.lst (tx Fi))/\H' am=some (.dK (kt M))/\Js H' a4 W/\DF (graph s) ps W M Fi/\M.Nodup/\W.length<=1024+1025*M.length/\m=(ps.length-M.length)*1026+W.length,⟨_,_,[],[],v5,v6,v7,rfl,sm,h2,hm,h4,DF.start,cA,by simp;omega,rfl⟩,?_⟩;rintro m σ' H'⟨W,M,Fi,v5,v6,v7,rfl,sm',h2',hm',⟨ts,h4',pr⟩,I,Mn,Wl,rfl⟩;refine⟨_,rfl,a4,_,rfl,bZ.of h4',_,_,rfl,rfl,_,rfl,?_⟩;have ml:M.length<=1024:=ay (aO Mn I.mlen) pl;have tl:ts.length=W.length:=pr.length;refine qY (λhpos=>?_) λhpos=>?_
 ·have hpos:0<W.length:=by rw[ae,tl]at hpos;omega
  obtain⟨W0,e,rfl⟩:∃W0 e,W=W0++[e]:=by
   rcases rG W with h|⟨w0,p,h⟩
   ·rw[h]at hpos;simp at hpos
   ·exact⟨w0,p,by simpa using h⟩
  obtain⟨ts0,Tp,rfl,pr0,hTp⟩:=uf pr;refine⟨_,λ_ _ h=>h,?_⟩;refine⟨_,rfl,.inl ⟨rfl,_,bZ.of h4'⟩,a4,_,V.ref Tp,rfl,rfl,h4',by simp,?_⟩;have e1:((ts0++[Tp]).map V.ref).dropLast=ts0.map V.ref:=by simp
  rw[e1];generalize hH2:upd H' a4 (.lst (ts0.map V.ref))=H2;have w2:∀{x:Addr},x≠a4->H2 x=H' x:=λh=>by rw[<-hH2,aA h]
  have s2:Same H H2:=λb o e=>by rw[w2 (aB e n4)];exact sm' b o e
  have h42:H2 a4=some (.lst (ts0.map V.ref)):=by rw[<-hH2,ao]
  have h22:H2 a2=some (.lst (tx Fi)):=(w2 d24).trans h2';have hm2:H2 am=some (.dK (kt M)):=(w2 dm4).trans hm';have ntup:∀{T:Addr}{xs:List V},H' T=some (.tup xs)->H2 T=some (.tup xs):=λe=>(w2 (cn e h4' (λz=>nomatch z))).trans e;have pr2:Paired (λT(e:Nat×Bool)=>H2 T=some (.tup [.int (e.1:Nat),.bl e.2])) ts0 W0:=L2.Paired.mapP pr0 λ_ _ e=>ntup e;have hT2:=ntup hTp;refine⟨_,rfl,Tp,_,_,_,rfl,rfl,xp.of hT2,at_of (j:=0) rfl rfl,_,rfl,Tp,_,_,_,rfl,rfl,xp.of hT2,at_of (j:=1) rfl rfl,_,rfl,?_⟩;obtain⟨p,fl⟩:=e;cases fl with
  |true=>
   have pps:p∈ps:=I.ws (p,true) (by simp)
   have I2:=I.done
   have fl:=aO I2.fn I2.fs
   refine iE ⟨_,rfl,.inl ⟨rfl,_,bZ.of h22⟩,_,rfl,a2,_,_,rfl,rfl,h22,?_,?_⟩
   ·rw[ae];simp at fl;exact bW (by omega)
   ·refine⟨_,?_,W0,M,Fi++[p],_,_,_,rfl,s2.new n2,?_,?_,⟨ts0,?_,?_⟩,I2,Mn,?_,rfl⟩
    ·simp
    ·rw[ao];simp[tx]
    ·rw[aA d2m.symm];exact hm2
    ·rw[aA d24.symm];exact h42
    ·exact L2.Paired.mapP pr2 λ_ _ e=>by rw[aA (cn e h22 (λz=>nomatch z))];exact e
    ·simp at Wl;omega
  |false=>
   refine gx ⟨_,rfl,_,rfl,am,_,rfl,cf (k:=Sum.inl (p:Int)) (.inl hm2),_,rfl,?_⟩
   rw[lG]
   by_cases hin:p∈M
   ·rw[if_pos hin];refine gx ⟨_,?_,W0,M,Fi,_,_,_,rfl,s2,h22,hm2,⟨ts0,h42,pr2⟩,I.old hin,Mn,?_,rfl⟩
    ·simp
    ·simp at Wl;omega
   ·rw[if_neg hin];have I2:=I.new hc hin;have Mn2:(M++[p]).Nodup:=gz Mn hin;have ml2:=aO Mn2 I2.mlen;have pps:p∈ps:=I.ws (p,false) (by simp);have pv':=hv p pps;refine iE ⟨_,rfl,_,rfl,am,_,rfl,kD.k (k:=Sum.inl (p:Int)) hm2 ?_,?_⟩
    ·unfold kt;rw[ae];exact bW (by omega)
    rw[ku hin];generalize hH3:upd H2 am (.dK (kt (M++[p])))=H3;have w3:∀{x:Addr},x≠am->H3 x=H2 x:=λh=>by rw[<-hH3,aA h]
    have s3:Same H H3:=λb o e=>by rw[w3 (aB e nm)];exact s2 b o e
    have h43:H3 a4=some (.lst (ts0.map V.ref)):=(w3 dm4.symm).trans h42;have h23:H3 a2=some (.lst (tx Fi)):=(w3 d2m).trans h22;have hm3:H3 am=some (.dK (kt (M++[p]))):=by rw[<-hH3,ao]
    have pr3:Paired (λT(e:Nat×Bool)=>H3 T=some (.tup [.int (e.1:Nat),.bl e.2])) ts0 W0:=L2.Paired.mapP pr2 λ_ _ e=>(w3 (cn e hm2 (λz=>nomatch z))).trans e;have t0l:ts0.length=W0.length:=pr0.length;simp at Wl;refine⟨_,rfl,.inl ⟨rfl,_,bZ.of h43⟩,_,rfl,(by show 2<=sizeLine;decide),λT4 hT4=>?_⟩;have n44:a4≠T4:=aB h43 hT4;refine⟨a4,_,_,rfl,rfl,by rw[aA n44];exact h43,?_,?_⟩
    ·rw[ae,t0l];exact lK (by omega)
    generalize hH5:upd (upd H3 T4 (.tup [.int (p:Nat),.bl true])) a4 (.lst (ts0.map V.ref++[V.ref T4]))=H5;have w5:∀{x:Addr}{o:HO},H3 x=some o->x≠a4->H5 x=some o:=λe h=>by rw[<-hH5,aA h,aA (aB e hT4)];exact e
    have s5:Same H H5:=λb o e=>w5 (s3 b o e) (aB e n4);have h45:H5 a4=some (.lst ((ts0++[T4]).map V.ref)):=by rw[<-hH5,ao,aW];rfl
    have hT5:H5 T4=some (.tup [.int (p:Nat),.bl true]):=by rw[<-hH5,aA n44.symm,ao]
    have pr5:Paired (λT(e:Nat×Bool)=>H5 T=some (.tup [.int (e.1:Nat),.bl e.2])) (ts0++[T4]) (W0++[(p,true)]):=Paired.snoc (L2.Paired.mapP pr3 λ_ _ e=>w5 e (cn e h43 (λz=>nomatch z))) hT5;have S5:=S.same s5;rcases S5.t3.get p with⟨c1,_⟩|⟨la,t,c1,c2,c3,c4⟩
    ·exact absurd (S.gk pv') c1
    have et:aG (gW D) p=t:=dD S.gn c1;rw[S.ref pv']at et;have htl:t.length<=1024:=et▸S.refl p;refine⟨_,rfl,.inl ⟨rfl,_,bZ.of h45⟩,_,rfl,q,C,D.dx,_,_,rfl,S5.ob,T.cl,T.n4,kY ..,_,rfl,D.ar,V.ref la,rfl,?_,la,rfl,⟨_,bZ.of c4⟩,λL hL=>?_⟩
    ·have gg:=cf (k:=Sum.inl (p:Int)) (.inl S5.h3:Rd H5 D.ar (.dK (rows D.lr)));rw[c3]at gg;exact gg
    refine yW (ps:=t) (item:=λi x=>(tx t)[i]?=some x) (by show 7<8;decide) (λx=>rfl) hL (by omega) (λi x h=>cD h) (λi H6 s6=>?_) λH6 s6⟨us,hL6,pr6⟩=>?_
    ·have sq:bZ K H6 la (tx t):=bZ.of (s6 _ _ c4);refine⟨λh=>⟨_,V.int ((t[i]'h:Nat):Int),sq,?_⟩,λh=>⟨_,sq,?_⟩,λx H7 h y=>⟨y.1,y.2 _ sq⟩⟩
     ·rw[a9,bu h];rfl
     ·rw[ae,h];exact aN _
    ·have h46:=s6 _ _ h45;have pul:us.length=t.length:=by rw[pr6.length,ae]
     refine⟨a4,L,_,_,rfl,rfl,h46,hL6,?_,?_⟩
     ·rw[ae,ae,bD];simp;exact cB (lK (by omega))
     ·have nL:a4≠L:=aB h45 hL;refine⟨_,?_,W0++(p,true)::t.map λr=>(r,false),M++[p],Fi,_,_,_,rfl,(s5.trans s6).new n4,?_,?_,⟨(ts0++[T4])++us,?_,?_⟩,?_,Mn2,?_,rfl⟩
      ·simp;simp at ml2;have h3:(ps.length-M.length)*1026=(ps.length-(M.length+1))*1026+1026:=by
        have:ps.length-M.length=(ps.length-(M.length+1))+1:=by omega
        rw[this];omega
       omega
      ·rw[aA d24];exact s6 _ _ (w5 h23 d24)
      ·rw[aA dm4];exact s6 _ _ (w5 hm3 dm4)
      ·rw[ao];simp
      ·have e3:W0++(p,true)::t.map (λr=>(r,false))=(W0++[(p,true)])++t.map λr=>(r,false):=by simp
       rw[e3];have up:∀{T:Addr}{xs:List V}{o:HO},H6 T=some (.tup xs)->upd H6 a4 o T=some (.tup xs):=λe=>by rw[aA (cn e h46 (λz=>nomatch z))];exact e
       exact pS (L2.Paired.mapP pr5 λ_ _ e=>up (s6 _ _ e)) (L2.Paired.mapP pr6 λ_ _ e=>up e)
      ·rw[et]at I2;exact I2
      ·simp;omega
 ·have hW:W=[]:=bP (by rw[ae,tl]at hpos;omega);subst hW;refine⟨_,rfl,?_⟩;rw[hR];exact k H' a2 Fi sm' n2 h2' I.end_
theorem Du{f C:Addr}{fd:FuncData}(F:eJ K "finish_order" "finish_order" eO f fd)(T:gE K C)(b1:mg "len"=none):ck P w K mg base eY 1 f fd ["store","places"] (Ai K C):=by
 refine F.ok m8 ?_ ?_
 ·rintro vs H Q E⟨q,a,D,s,ps,rfl,_⟩;rfl
 ·rintro cdv A outer s H vs Q E hr⟨q,a,D,s,ps,rfl,S,hw,hn,hv,hc,k⟩;have nd:=m8.nd;have hu:=eM hr;have pl:ps.length<=1024:=ay (aO hn hv) S.pv;rcases hw with hS|⟨rfl,rfl⟩
  ·refine⟨_,aq (ba (i:=2) nd rfl (Or.inl rfl) (bE au)) (aq (ba (i:=3) nd rfl (Or.inl rfl) cW) (aq (qG (i:=4) (own:=[("place",6)]) rfl nd rfl rfl (um rfl rfl rfl (by decide+kernel)) (cK (pv 1)) (ei gi (aH eO) rfl rfl (by decide+kernel)) (λs H C cl fp=>bJ (i:=6) nd rfl (Or.inl rfl)) (λs H C cl fp=>eD) (λs H C cl fp=>jk (ai (pv 6) (ai iI au)))) (aq (jd PassesOwn.never (bh je (bz (lE (K:=K) rfl) (by rfl) b1 bf (ai (pv 4) au)) bI (bC _)) (aq (ba (i:=5) nd rfl (Or.inl rfl) (AS aU rE rF AV (pv 4))) (aq (ba (i:=6) nd rfl (Or.inl rfl) (gM mj (pv 5) bI (λ_ _=>rfl))) (aw (bH (fh (gM mj (pv 5) bI (λ_ _=>rfl))) (aw (dr (gH aU bR bS eX (pv 2) (ai (pv 6) au)))) (aw (bH (gI (gw hu (pv 6) (pv 3))) (aq (d9 hu (pv 3) (pv 6) iI rfl) (aq (dr (gH aU bR bS eX (pv 4) (ai (jk (ai (pv 6) (ai iI au))) au))) (aw (dr (gH aU cu cv fU (pv 4) (ai (gN (own:=[("reference",7)]) rfl nd (cK (cp hu (cI (pv 0) rfl) (pv 6) (λ_ _=>rfl))) (ei gi (aH eO) rfl rfl (by decide+kernel)) (λs H C cl fp=>bJ (i:=7) nd rfl (Or.inl rfl)) (λs H C cl fp=>eD) (λs H C cl fp=>jk (ai (pv 7) (ai iI au)))) au)))))) aX))))))) (aw (aL (pv 2)))))),?_⟩;refine⟨aV _,λa2 n2=>λam nm=>?_⟩;have d2m:a2≠am:=aB ao nm;have s1:Same H (upd (upd H a2 (.lst [])) am (.dK [])):=(aC n2).trans (aC nm);refine⟨_,rfl,a,rfl,⟨_,s1.seq hS⟩,λa4 n4=>yW (ps:=ps) (item:=λi x=>(tx ps)[i]?=some x) (by show 6<8;decide) (λx=>rfl) n4 (by omega) (λi x h=>cD h) (λi H6 s6=>?_) λH6 s6 hW=>?_⟩
   ·have sq:bZ K H6 a (tx ps):=(s1.trans s6).seq hS;refine⟨λh=>⟨_,V.int ((ps[i]'h:Nat):Int),sq,?_⟩,λh=>⟨_,sq,?_⟩,λx H7 h y=>⟨y.1,y.2 _ sq⟩⟩
    ·rw[a9,bu h];rfl
    ·rw[ae,h];exact aN _
   ·exact tP T S hn hv hc n2 ((aC n2).free nm) (s1.free n4) d2m (aB (by rw[aA d2m,ao]) n4) (aB ao n4) (s1.trans s6) (s6 _ _ (by rw[aA d2m,ao])) (s6 _ _ ao) hW rfl k
  ·refine⟨_,aq (ba (i:=2) nd rfl (Or.inl rfl) (bE au)) (aq (ba (i:=3) nd rfl (Or.inl rfl) cW) (aq (il (qG (i:=4) (own:=[("place",6)]) rfl nd rfl rfl (um rfl rfl rfl (by decide+kernel)) (e9 (pv 1)) (ei gi (aH eO) rfl rfl (by decide+kernel)) (λs H C cl fp=>bJ (i:=6) nd rfl (Or.inl rfl)) (λs H C cl fp=>eD) (λs H C cl fp=>jk (ai (pv 6) (ai iI au))))) (aq (jd PassesOwn.never (bh je (bz (lE (K:=K) rfl) (by rfl) b1 bf (ai (pv 4) au)) bI (bC _)) (aq (ba (i:=5) nd rfl (Or.inl rfl) (AS aU rE rF AV (pv 4))) (aq (ba (i:=6) nd rfl (Or.inl rfl) (gM mj (pv 5) bI (λ_ _=>rfl))) (aw (bH (fh (gM mj (pv 5) bI (λ_ _=>rfl))) (aw (dr (gH aU bR bS eX (pv 2) (ai (pv 6) au)))) (aw (bH (gI (gw hu (pv 6) (pv 3))) (aq (d9 hu (pv 3) (pv 6) iI rfl) (aq (dr (gH aU bR bS eX (pv 4) (ai (jk (ai (pv 6) (ai iI au))) au))) (aw (dr (gH aU cu cv fU (pv 4) (ai (gN (own:=[("reference",7)]) rfl nd (cK (cp hu (cI (pv 0) rfl) (pv 6) (λ_ _=>rfl))) (ei gi (aH eO) rfl rfl (by decide+kernel)) (λs H C cl fp=>bJ (i:=7) nd rfl (Or.inl rfl)) (λs H C cl fp=>eD) (λs H C cl fp=>jk (ai (pv 7) (ai iI au)))) au)))))) aX))))))) (aw (aL (pv 2)))))),?_⟩;refine⟨aV _,λa2 n2=>λam nm=>?_⟩;have d2m:a2≠am:=aB ao nm;have s1:Same H (upd (upd H a2 (.lst [])) am (.dK [])):=(aC n2).trans (aC nm);have hd1:=s1 _ _ S.h1;have rl:(placesOf D.dh).length=(rows D.lh).length:=by unfold rows placesOf;rw[ae,ae];exact S.t1.len.symm
   have rp:∀{i:Nat}{x:Nat×Addr},D.lh[i]?=some x->(placesOf D.dh)[i]?=some x.1:=λ{i x}h=>by rw[<-show D.lh.map (λx=>x.1)=placesOf D.dh from S.t1.keys,a9,h];rfl
   refine⟨D.ah,_,hd1,Bm,λod=>⟨_,rfl,D.ah,od,rfl,.inl ⟨rows D.lh,ao,λa4 n4=>?_⟩⟩⟩;have n4d:a4≠D.ah:=λz=>by rw[z,ao]at n4;cases n4
   have n4':(upd (upd H a2 (.lst [])) am (.dK [])) a4=none:=by rw[aA n4d]at n4;exact n4
   refine yW (J:=IY D.ah od (rows D.lh)) (ps:=placesOf D.dh) (item:=λi x=>∃k v,(rows D.lh)[i]?=some (k,v)/\x=kV k) (by show 6<8;decide) (λx=>rfl) n4 (by omega) (λi x⟨k,v,h,e⟩=>?_) (λi H6 s6=>?_) λH6 s6⟨us,hu6,pr6⟩=>?_
   ·obtain⟨y,hy,rfl,rfl⟩:=fz h;exact⟨y.1,rp hy,e⟩
   ·have sq:=s6 _ _ ao;exact⟨λh=>⟨sq,by rw[<-rl];exact h⟩,λh=>⟨sq,by rw[<-rl,h];exact aN _⟩,λx H7 h y=>y⟩
   ·have sq:=s6 _ _ ao;refine⟨sq,?_⟩;have s7:Same (upd (upd H a2 (.lst [])) am (.dK [])) (upd H6 D.ah (.dK (rows D.lh))):=s6.unlock hd1;refine tP T S hn hv hc n2 ((aC n2).free nm) (s1.free n4') d2m (aB (by rw[aA d2m,ao]) n4') (aB ao n4') (s1.trans s7) (s7 _ _ (by rw[aA d2m,ao])) (s7 _ _ ao) ⟨us,?_,?_⟩ rfl k
    ·rw[aA n4d];exact hu6
    ·exact L2.Paired.mapP pr6 λ_ _ e=>by rw[aA (cn e sq (λz=>nomatch z))];exact e
end
end Wk
namespace Wk
open PySem PySem.Spec PyProof.Rows L2 WkR
open Vastof (Held State load placesOf Graph graph placeSet reaching closure knot)
theorem d7{s:State}(h:SI s){p x:Nat}(hp:p∈placesOf s.valid):x∈knot (reaching (graph s)) p↔Reach (graph s) p x/\Reach (graph s) x p:=by
 have hk:p∈keys (graph s):=by rw[b9];exact hp
 rw[pf h hp,bj,jM h.graph hk];constructor
 ·rintro⟨h1,h2⟩;have h3:x∈Vastof.above (reaching (graph s)) [p]:=by simpa using h2
  obtain⟨_,y,hy,h4⟩:=(ia h.graph).mp h3;rw[aE.mp hy]at h4;exact⟨h1,h4⟩
 ·rintro⟨h1,h2⟩;refine⟨h1,?_⟩;have:x∈Vastof.above (reaching (graph s)) [p]:=(ia h.graph).mpr ⟨h1.keys h.graph hk,p,by simp,h2⟩;simpa using this
theorem l7{s:State}(h:SI s){p:Nat}(hp:p∈placesOf s.valid):n6 (knot (reaching (graph s)) p):=by rw[pf h hp];exact(eE h.graph (goals:=[p]) (by rw[b9];simpa using hp)).1.sublist cS
theorem ph{s:State}(h:SI s){p x:Nat}(hp:p∈placesOf s.valid)(hx:x∈placesOf s.valid)(a:Reach (graph s) p x)(b:Reach (graph s) x p):knot (reaching (graph s)) p=knot (reaching (graph s)) x:=(l7 h hp).ext (l7 h hx) λy=>by rw[d7 h hp,d7 h hx];exact⟨λ⟨c,d⟩=>⟨b.trans c,d.trans a⟩,λ⟨c,d⟩=>⟨a.trans c,d.trans b⟩⟩
structure KN(s:State)(ps:List Nat)(kd:List (Nat×List Nat)):Prop where
 hd:∀x∈kd,x.1∈ps/\x.2=knot (reaching (graph s)) x.1/\x.2[0]?=some x.1
 nd:(kd.map λx=>x.1).Nodup
 cov:∀p∈ps,∃x∈kd,p∈x.2
theorem Bw{s:State}{ps av:List Nat}(hn:ps.Nodup)(hc:∀p∈ps,∀x∈aG (graph s) p,x∈ps){x:Nat}(hav:∀y,Reach (graph s) x y->Reach (graph s) y x->y∉av){a b:Nat}(h:Reach (graph s) a b):a∈ps->Reach (graph s) b x->Reach (graph s) x a->RA (Dr s ps) av b a:=by
 induction h with
 |refl=>intro _ h1 h2;exact .refl (hav _ h2 h1)
 |@step b' b h0 h1 ih=>
  intro ha h2 h3
  have hb':b'∈ps:=h0.closed (S:=λy=>y∈ps) (λp q hp hq=>hc p hp q hq) ha
  have hb:b∈ps:=hc b' hb' b h1
  have bx:Reach (graph s) b' x:=h2.head h1
  have i1:=ih ha bx h3
  have i2:RA (Dr s ps) av b b':=.step (.refl (hav b ((h3.trans h0).trans (.step (.refl _) h1)) h2)) (by rw[sL hn hb];exact gp.mpr ⟨hb',h1⟩) (hav b' (h3.trans h0) bx)
  exact i2.trans i1
theorem Aj{s:State}{ps av:List Nat}(hn:ps.Nodup){x y:Nat}(hx:x∈ps)(h:RA (Dr s ps) av x y):y∈ps/\y∉av/\Reach (graph s) y x:=by
 induction h with
 |refl h=>exact⟨hx,h,.refl _⟩
 |step _ h1 h2 ih=>
  rw[sL hn ih.1]at h1
  obtain⟨a,b⟩:=gp.mp h1
  exact⟨a,h2,ih.2.2.head b⟩
theorem Bx{s:State}(si:SI s){ps Fi av a b f:List Nat}{x:Nat}(hn:ps.Nodup)(hv:∀p∈ps,p∈placesOf s.valid)(hc:∀p∈ps,∀x∈aG (graph s) p,x∈ps)(O:oP (graph s) ps Fi)(h:Fi=a++x::b)(hb:∀y∈b,y∈av)(hav:∀y∈av,∀z,Reach (graph s) y z->Reach (graph s) z y->z∈av)(hxa:x∉av)(hf:∀y,y∈f↔∃p∈[x],RA (Dr s ps) av p y):placeSet f=knot (reaching (graph s)) x:=by
 have hx:x∈ps:=(O.mem x).mp (by rw[h];simp);refine(cb f).ext (l7 si (hv x hx)) λy=>?_;rw[bA,hf y,d7 si (hv x hx)];constructor
 ·rintro⟨p,hp,r⟩;rw[aE.mp hp]at r;obtain⟨h1,h2,h3⟩:=Aj hn hx r;exact⟨O.knot h hb hav h1 h2 h3,h3⟩
 ·rintro⟨h1,h2⟩;have hy:y∈ps:=h1.closed (S:=λy=>y∈ps) (λp q hp hq=>hc p hp q hq) hx;exact⟨x,by simp,Bw hn hc (λz h3 h4 h5=>hxa (hav z h5 x h4 h3)) h2 hy (.refl _) h1⟩
structure KSt(s:State)(ps av:List Nat)(kd:List (Nat×List Nat)):Prop where
 hd:∀x∈kd,x.1∈ps/\x.2=knot (reaching (graph s)) x.1/\x.2[0]?=some x.1/\∀y∈x.2,y∈av
 nd:(kd.map λx=>x.1).Nodup
 mb:∀y∈av,y∈ps/\∃x∈kd,y∈x.2
 an:av.Nodup
theorem KSt.closed{s:State}(si:SI s){ps av:List Nat}(hv:∀p∈ps,p∈placesOf s.valid){kd:List (Nat×List Nat)}(I:KSt s ps av kd):∀y∈av,∀z,Reach (graph s) y z->Reach (graph s) z y->z∈av:=λy hy z h1 h2=>by obtain⟨_,x,hx,hyx⟩:=I.mb y hy;obtain⟨a1,a2,_,a4⟩:=I.hd x hx;rw[a2,d7 si (hv _ a1)]at hyx;refine a4 z ?_;rw[a2,d7 si (hv _ a1)];exact⟨hyx.1.trans h1,h2.trans hyx.2⟩
section
variable {P:Program}{w:World}{K:aj}{mg:Str->Option Value}{base:Heap}
def mO(K:aj)(C:Addr):Sp:=λvs H Q _=>∃(q a:Addr)(D:SD)(s:State)(ps:List Nat),vs=[.ref q,.ref a]/\fG C H q D s/\Places K H D a ps/\ps.Nodup/\(∀p∈ps,p∈placesOf s.valid)/\(∀p∈ps,∀x∈aG (graph s) p,x∈ps)/\∀H' r lk kd,Same H H'->H r=none->H' r=some (.dK (rows lk))->gF H' lk kd->KN s ps kd->Q (.ref r) H'
theorem Places.same{K:aj}{H H':Hp}{D:SD}{a:Addr}{ps:List Nat}(h:Places K H D a ps)(s:Same H H'):Places K H' D a ps:=by
 rcases h with h|h
 ·exact .inl (s.seq h)
 ·exact .inr h
theorem vX{f C:Addr}{fd:FuncData}(F:eJ K "knots_among" "knots_among" lu f fd)(b1:mg "reversed"=none)(C1:dc P w K mg base 1 "referrers_among" ["store","places"] (qm K C))(C2:dc P w K mg base 1 "finish_order" ["store","places"] (Ai K C))(C3:dc P w K mg base 1 "spread" ["links","starts","met"] (ro K)):ck P w K mg base eY 2 f fd ["store","places"] (mO K C):=by
 refine F.ok oo ?_ ?_
 ·rintro vs H Q E⟨q,a,D,s,ps,rfl,_⟩;rfl
 ·rintro cdv A outer s H vs Q E hr⟨q,a,D,s,ps,rfl,S,hw,hn,hv,hc,k⟩;have nd:=oo.nd;have hu:=eM hr;have pl:ps.length<=1024:=ay (aO hn hv) S.pv;refine⟨_,aq (ba (i:=2) nd rfl (Or.inl rfl) (aS C1 hr (ai (pv 0) (ai (pv 1) au)))) (aq (ba (i:=3) nd rfl (Or.inl rfl) cW) (aq (ba (i:=4) nd rfl (Or.inl rfl) cW) (aq (dI PassesOwn.never rfl (zF (by rfl) b1 (ai (aS C2 hr (ai (pv 0) (ai (pv 1) au))) au)) (bJ (i:=5) nd rfl (Or.inl rfl)) (aw (bH (gI (gw hu (pv 5) (pv 3))) (aq (ba (i:=6) nd rfl (Or.inl rfl) (aS C3 hr (ai (pv 2) (ai (bE (ai (pv 5) au)) (ai (pv 3) au))))) (aw (d9 hu (pv 4) (gM ig (pv 6) bI (λ_ _=>rfl)) (pv 6) rfl))) aX))) (aw (aL (pv 4)))))),?_⟩;refine⟨_,rfl,_,rfl,q,a,D,s,ps,rfl,S,hw,hn,hv,hc,λH1 R lr s1 nR hR tR=>?_⟩;intro am nm;intro ak nk;have dmk:am≠ak:=aB ao nk;have nk1:H1 ak=none:=(aC nm).free nk;have s2:Same H1 (upd (upd H1 am (.dK [])) ak (.dK [])):=(aC nm).trans (aC nk);have s12:=s1.trans s2;refine⟨_,rfl,_,rfl,q,a,D,s,ps,rfl,S.same s12,hw.same s12,hn,hv,hc,λH3 r3 Fi s3 nr3 hr3 O=>?_⟩;have s13:=s12.trans s3;have n3m:r3≠am:=λz=>by rw[z,aA dmk,ao]at nr3;cases nr3
  have n3k:r3≠ak:=λz=>by rw[z,ao]at nr3;cases nr3
  have hR3:=s3 _ _ (s2 _ _ hR);have tR3:=(tR.same s2).same s3;have Rm:R≠am:=aB hR nm;have Rk:R≠ak:=aB hR nk1;have hm3:H3 am=some (.dK []):=s3 _ _ (by rw[aA dmk,ao]);have hk3:H3 ak=some (.dK []):=s3 _ _ ao;have nmH:H am=none:=s1.free nm;have nkH:H ak=none:=s1.free nk1;have fl:Fi.length<=1024:=ay (aO O.nd λx hx=>(O.mem x).mp hx) pl;refine⟨r3,tx Fi,rfl,bZ.of hr3,Ck (n:=(tx Fi).length) (item:=λi x=>(tx Fi)[(tx Fi).length-1-i]?=some x) (λi σ' H'=>∃(av:List Nat)(kd:List (Nat×List Nat))(lk:List (Nat×Addr))(v5 v6:Option V),σ'=[some (.ref q),some (.ref a),some (.ref R),some (.ref am),some (.ref ak),v5,v6]/\(∀b o,H3 b=some o->b≠am->b≠ak->H' b=some o)/\H' am=some (.dK (kt av))/\H' ak=some (.dK (rows lk))/\gF H' lk kd/\KSt s ps av kd/\∀y∈Fi.drop (Fi.length-i),y∈av) ⟨[],[],[],none,none,rfl,λb o e _ _=>e,hm3,hk3,.nil,⟨by simp,cA,by simp,cA⟩,by simp⟩ ?_ ?_ ?_⟩
  ·rintro i σ' H'⟨av,kd,lk,v5,v6,_,b2,_⟩;have sq:bZ K H' r3 (tx Fi):=bZ.of (b2 _ _ hr3 n3m n3k);refine⟨λh=>⟨h,_,_,sq,bu (by omega)⟩,λh=>by rw[h];exact aN _,λx H2 h y=>⟨y.1,y.2 _ sq⟩⟩
  ·rintro i x σ' H' hi hx⟨av,kd,lk,v5,v6,rfl,b2,hm',hk',tk,I,hd⟩;obtain⟨p,hp,rfl⟩:=cD hx;have tl:(tx Fi).length=Fi.length:=ae ..;rw[tl]at hp hi;obtain⟨fa,fb,hsplit,hfb⟩:∃fa fb,Fi=fa++p::fb/\fb=Fi.drop (Fi.length-i):=by
    obtain⟨lt,e⟩:=aM.mp hp;refine⟨Fi.take (Fi.length-1-i),Fi.drop (Fi.length-i),?_,rfl⟩;have e2:Fi.drop (Fi.length-1-i)=p::Fi.drop (Fi.length-i):=by rw[df lt,e,show Fi.length-1-i+1=Fi.length-i by omega]
    rw[<-e2,FE]
   have hpps:p∈ps:=(O.mem p).mp (by rw[hsplit];simp);have hdrop:∀y,y∈Fi.drop (Fi.length-(i+1))->y=p\/y∈fb:=λy hy=>by
    have e2:Fi.drop (Fi.length-(i+1))=p::fb:=by obtain⟨lt,e⟩:=aM.mp hp;rw[show Fi.length-(i+1)=Fi.length-1-i by omega,df lt,e,hfb,show Fi.length-1-i+1=Fi.length-i by omega]
    rw[e2]at hy;exact aF.mp hy
   have hfa:∀y∈fb,y∈av:=λy hy=>hd y (by rw[<-hfb];exact hy);refine⟨_,rfl,_,rfl,am,_,rfl,cf (k:=Sum.inl (p:Int)) (.inl hm'),_,rfl,?_⟩;rw[lG];by_cases hin:p∈av
   ·rw[if_pos hin];refine gx ⟨av,kd,lk,_,_,rfl,b2,hm',hk',tk,I,λy hy=>?_⟩;rcases hdrop y hy with h|h
    ·rw[h];exact hin
    ·exact hfa y h
   ·rw[if_neg hin];refine iE ⟨_,rfl,_,rfl,one_le,λa5 n5=>?_⟩;have s5:=aC (o:=.lst (tx [p])) n5;have hR5:=s5 _ _ (b2 _ _ hR3 Rm Rk);have no2:∀{b:Addr}{xs:List V},H3 b=some (.lst xs)->H' b=some (.lst xs):=λe=>b2 _ _ e (cn e hm3 (λz=>nomatch z)) (cn e hk3 (λz=>nomatch z));have tR5:gF (upd H' a5 (.lst (tx [p]))) lr (Dr s ps):=L2.Paired.mapP tR3 λ_ _ e=>⟨e.1,s5 _ _ (no2 e.2)⟩;have avl:av.length<=1024:=ay (aO I.an λx hx=>(I.mb x hx).1) pl;refine⟨_,rfl,R,a5,am,Dr s ps,lr,ps,[p],av,rfl,hR5,tR5,by rw[oM];exact hn,bZ.of ao,s5 _ _ hm',Rm,pl,λx hx=>by rw[aE.mp hx];exact hpps,λx hx=>by rw[oM];exact hx,λx hx=>?_,by simp,avl,λH6 r6 f6 bt hm6 hn6 hdj hf6 hfl nr6 r6m hr6=>?_⟩
    ·rw[sL hn hx];refine⟨?_,λy hy=>(gp.mp hy).1⟩;unfold iX;exact ay (bp ..) pl
    ·have kn:=Bx S.si hn hv hc O hsplit hfa (I.closed S.si hv) hin hf6;have pk:p∈knot (reaching (graph s)) p:=(d7 S.si (hv p hpps)).mpr ⟨.refl _,.refl _⟩;obtain⟨hd0,tl0,ek⟩:∃h t,knot (reaching (graph s)) p=h::t:=by
      cases e:knot (reaching (graph s)) p with
      |nil=>rw[e]at pk;cases pk
      |cons h t=>exact⟨h,t,rfl⟩
     have hdk:hd0∈knot (reaching (graph s)) p:=by rw[ek];exact aY ..
     obtain⟨q1,q2⟩:=(d7 S.si (hv p hpps)).mp hdk;have hdps:hd0∈ps:=q1.closed (S:=λy=>y∈ps) (λp q hp hq=>hc p hp q hq) hpps;have kk:knot (reaching (graph s)) hd0=knot (reaching (graph s)) p:=ph S.si (hv _ hdps) (hv p hpps) q2 q1;have k6:H6 ak=some (.dK (rows lk)):=bt _ _ (s5 _ _ hk') dmk.symm;have hnew:hd0∉lk.map λx=>x.1:=by rw[tk.keys];intro z;obtain⟨x,hx,ex⟩:=az.mp z;obtain⟨a1,a2,a3,a4⟩:=I.hd x hx;apply hin;refine a4 p ?_;rw[a2,ex,kk];exact pk
     have e0:(tx (placeSet f6))[0]?=some (V.int (hd0:Nat)):=by rw[kn,ek];rfl
     have kl:kd.length<=1024:=by have:=ay (aO I.nd λx hx=>by obtain⟨y,hy,rfl⟩:=az.mp hx;exact(I.hd y hy).1) pl;rw[ae]at this;exact this
     refine⟨_,rfl,_,rfl,_,rfl,r6,_,_,_,rfl,rfl,bZ.of hr6,at_of (j:=0) rfl e0,ak,_,rfl,kD.k (k:=Sum.inl (hd0:Int)) k6 ?_,?_⟩
     ·unfold rows;rw[ae,tk.len];exact bW (by omega)
     ·rw[gU];have ed:dput lk hd0 r6=lk++[(hd0,r6)]:=by unfold dput;rw[if_neg hnew]
      rw[ed];have r6k:r6≠ak:=λz=>by have z1:upd H' a5 (.lst (tx [p])) ak=none:=z▸nr6;rw[s5 _ _ hk']at z1;cases z1
      refine⟨av++f6,kd++[(hd0,placeSet f6)],lk++[(hd0,r6)],_,_,rfl,λb o e n1 n2=>?_,?_,ao,?_,?_,λy hy=>?_⟩
      ·rw[aA n2];exact bt _ _ (s5 _ _ (b2 _ _ e n1 n2)) n1
      ·rw[aA dmk];exact hm6
      ·have no6:∀xs,H6 ak≠some (.lst xs):=λxs z=>by rw[k6]at z;cases z
       have tk6:gF H6 lk kd:=L2.Paired.mapP tk λx r e=>⟨e.1,bt _ _ (s5 _ _ e.2) (cn e.2 hm' (λz=>nomatch z))⟩;exact Paired.snoc (tk6.upd no6) ⟨rfl,by show upd H6 ak _ r6=_;rw[aA r6k];exact hr6⟩
      ·refine⟨λx hx=>?_,?_,λy hy=>?_,?_⟩
       ·rcases aD.mp hx with h|h
        ·obtain⟨a1,a2,a3,a4⟩:=I.hd x h;exact⟨a1,a2,a3,λy hy=>aQ _ (a4 y hy)⟩
        ·rw[aE.mp h];refine⟨hdps,by show placeSet f6=_;rw[kn,kk],by show(placeSet f6)[0]?=_;rw[kn,ek];rfl,λy hy=>bN _ (bA.mp hy)⟩
       ·rw[aW];refine gz I.nd ?_;rw[<-tk.keys];exact hnew
       ·rcases aD.mp hy with h|h
        ·obtain⟨h1,x,hx,h2⟩:=I.mb y h;exact⟨h1,x,aQ _ hx,h2⟩
        ·refine⟨?_,(hd0,placeSet f6),by simp,bA.mpr h⟩;obtain⟨p',hp',r⟩:=(hf6 y).mp h;rw[aE.mp hp']at r;exact(Aj hn hpps r).1
       ·rw[be];exact⟨I.an,hn6,λx hx y hy e=>hdj y hy (e▸hx)⟩
      ·rcases hdrop y hy with h|h
       ·rw[h];refine bN _ (bA.mp ?_);rw[kn];exact pk
       ·exact aQ _ (hfa y h)
  ·rintro σ' H'⟨av,kd,lk,v5,v6,rfl,b2,hm',hk',tk,I,hd⟩;have tl:(tx Fi).length=Fi.length:=ae ..;rw[tl,Nat.sub_self]at hd;have sH:Same H H':=λb o e=>b2 _ _ (s13 _ _ e) (aB e nmH) (aB e nkH);refine⟨_,rfl,k H' ak lk kd sH nkH hk' tk ⟨λx hx=>?_,I.nd,λp hp=>?_⟩⟩
   ·obtain⟨a1,a2,a3,_⟩:=I.hd x hx;exact⟨a1,a2,a3⟩
   ·exact(I.mb p (hd p (by simpa using(O.mem p).mpr hp))).2
end
end Wk
namespace Wk
open PySem PySem.Spec PyProof.Rows L2 WkR
open Vastof (Held State load placesOf Graph graph placeSet reaching closure knot)
theorem KN.len{s:State}{ps:List Nat}{kd:List (Nat×List Nat)}(h:KN s ps kd):kd.length<=ps.length:=by
 have:=aO h.nd (m:=ps) λx hx=>by obtain⟨y,hy,rfl⟩:=az.mp hx;exact(h.hd y hy).1
 rw[ae]at this;exact this
theorem KN.klen{s:State}(si:SI s){ps:List Nat}(hv:∀p∈ps,p∈placesOf s.valid){kd:List (Nat×List Nat)}(h:KN s ps kd){x:Nat×List Nat}(hx:x∈kd):x.2.length<=1024:=by obtain⟨a1,a2,_⟩:=h.hd x hx;rw[a2,pf si (hv _ a1)];exact ay (bp ..) (c_ si (by simpa using hv _ a1))
theorem KN.one{s:State}(si:SI s){ps:List Nat}(hv:∀p∈ps,p∈placesOf s.valid){kd:List (Nat×List Nat)}(h:KN s ps kd){x y:Nat×List Nat}(hx:x∈kd)(hy:y∈kd){p:Nat}(px:p∈x.2)(py:p∈y.2):x=y:=by
 obtain⟨a1,a2,a3⟩:=h.hd x hx;obtain⟨b1,b2,b3⟩:=h.hd y hy;rw[a2,d7 si (hv _ a1)]at px;rw[b2,d7 si (hv _ b1)]at py;have e:x.2=y.2:=by rw[a2,b2];exact ph si (hv _ a1) (hv _ b1) (px.1.trans py.2) (py.1.trans px.2)
 have e1:x.1=y.1:=by rw[e,b3]at a3;exact(a0 a3).symm
 exact xi e1 e
def HU(kd:List (Nat×List Nat))(kvs:List (Key×V)):Prop:=∀x∈kd,∀p∈x.2,dZ kvs (Sum.inl (p:Int))=some (.int (x.1:Nat))
section
variable {P:Program}{w:World}{K:aj}{mg:Str->Option Value}{base:Heap}
def xV:Sp:=λvs H Q _=>∃(a:Addr)(s:State)(ps:List Nat)(lk':List (Nat×Addr))(kd:List (Nat×List Nat)),vs=[.ref a]/\SI s/\(∀p∈ps,p∈placesOf s.valid)/\ps.length<=1024/\H a=some (.dK (rows lk'))/\gF H lk' kd/\KN s ps kd/\∀H' r kvs,Same H H'->H r=none->H' r=some (.dK kvs)->HU kd kvs->Q (.ref r) H'
theorem Ak{f:Addr}{fd:FuncData}(F:eJ K "heads_of" "heads_of" qe f fd):ck P w K mg base eY 1 f fd ["knots"] xV:=by
 refine F.ok tJ ?_ ?_
 ·rintro vs H Q E⟨a,s,ps,lk',kd,rfl,_⟩;rfl
 ·rintro cdv A outer s H vs Q E hr⟨a,s,ps,lk',kd,rfl,si,hv,pl,ha,tk,N,k⟩;have nd:=tJ.nd;have hu:=eM hr;refine⟨_,aq (ba (i:=1) nd rfl (Or.inl rfl) cW) (aq (il (dI PassesOwn.never rfl (e9 (pv 0)) (bJ (i:=2) nd rfl (Or.inl rfl)) (aw (dI PassesOwn.never rfl (cK (cp hu (pv 0) (pv 2) (λ_ _=>rfl))) (bJ (i:=3) nd rfl (Or.inl rfl)) (aw (d9 hu (pv 1) (pv 3) (pv 2) rfl)))))) (aw (aL (pv 1)))),?_⟩;intro R hR;have Ra:R≠a:=(aB ha hR).symm;have lnd:(lk'.map λx=>x.1).Nodup:=by rw[tk.keys];exact N.nd
  refine gT (d:=a) (kvs:=rows lk') (by rw[aA Ra.symm];exact ha) (λod X h=>⟨_,rfl,h⟩) (λod i σ' H'=>∃(v2 v3:Option V)(kvs:List (Key×V)),σ'=[some (.ref a),some (.ref R),v2,v3]/\Same (lk H a od (rows lk')) H'/\H' R=some (.dK kvs)/\HU (kd.take i) kvs/\kvs.length<=1024*i) (λod=>⟨none,none,[],rfl,ql ha hR,by show upd (upd H R _) a _ R=_;rw[aA Ra,ao],by intro x hx;simp at hx,by simp⟩) (λod i σ' H'⟨_,_,_,_,sm,_⟩=>sm _ _ ao) ?_ ?_
  ·rintro od i k' v σ' H' hi⟨v2,v3,kvs,rfl,sm,hR',hok,hln⟩;obtain⟨x,hx,rfl,rfl⟩:=fz hi;obtain⟨r,hr',e1,e2⟩:=dM tk hx;have hrm:=aP hr';have bt:=g8.lock sm;have hal:=sm _ _ (show lk H a od (rows lk') a=_ from ao);have nxa:x.2≠a:=cn e2 ha (λz=>nomatch z);have hi2:i<kd.length:=(aM.mp hr').1;have kl:=N.len;have rl:=N.klen si hv hrm;have et:kd.take (i+1)=kd.take i++[r]:=by rw[aT,hr'];rfl
   have hR0:=fP (od:=od) ha hR;refine⟨_,rfl,_,rfl,a,V.ref x.2,rfl,?_,x.2,rfl,⟨_,bZ.of (bt _ _ e2 nxa)⟩,?_⟩
   ·have g:=cf (k:=Sum.inl (x.1:Int)) (.inr ⟨od,hal⟩:Rd H' a (.dK (rows lk')));rw[fF lnd hx]at g;exact g
   ·refine eK (K:=K) (a:=x.2) (xs:=tx r.2) (λj σ' H2=>∃(v3:Option V)(kvs:List (Key×V)),σ'=[some (.ref a),some (.ref R),some (.int (x.1:Nat)),v3]/\Same (lk H a od (rows lk')) H2/\H2 R=some (.dK kvs)/\HU (kd.take i) kvs/\(∀p∈r.2.take j,dZ kvs (Sum.inl (p:Int))=some (.int (r.1:Nat)))/\kvs.length<=1024*i+j) ⟨v3,kvs,rfl,sm,hR',hok,by simp,by omega⟩ (λj σ' H2 _⟨_,_,_,s2,_⟩=>bZ.of (g8.lock s2 _ _ e2 nxa)) ?_ ?_
    ·rintro j z σ' H2 hz⟨v3,kvs,rfl,s2,hR2,hok2,hin,hln2⟩;obtain⟨n,hn,rfl⟩:=cD hz;have hj:j<r.2.length:=(aM.mp hn).1;refine⟨_,rfl,_,rfl,_,rfl,R,_,rfl,kD.k (k:=Sum.inl (n:Int)) hR2 ?_,?_⟩
     ·exact lK (by omega)
     ·refine⟨_,putK kvs (Sum.inl (n:Int)) (.int (x.1:Nat)),rfl,s2.new hR0,ao,λy hy p hp=>?_,λp hp=>?_,?_⟩
      ·rw[zx];by_cases z:(Sum.inl (p:Int):Key)=Sum.inl (n:Int)
       ·exfalso;have zn:p=n:=by have:=f7 z;omega
        have hyk:y∈kd:=GP hy;have:=N.one si hv hyk hrm hp (zn▸aP hn);rw[this]at hy;have h5:((kd.take i).map (λx=>x.1)++[r.1]).Nodup:=by
         have h4:(kd.map λx=>x.1).take (i+1)=(kd.take i).map (λx=>x.1)++[r.1]:=by rw[<-iH,et,aW];rfl
         exact h4▸N.nd.sublist (b_ _ _)
        exact(be.mp h5).2.2 r.1 (az.mpr ⟨r,hy,rfl⟩) r.1 (by simp) rfl
       ·rw[if_neg z];exact hok2 y hy p hp
      ·rw[zx];by_cases z:(Sum.inl (p:Int):Key)=Sum.inl (n:Int)
       ·rw[if_pos z,e1]
       ·rw[if_neg z];refine hin p ?_;rw[aT,hn]at hp;rcases aD.mp hp with h|h
        ·exact h
        ·simp at h;exact absurd (by rw[h]) z
      ·have:=kL kvs (Sum.inl (n:Int)) (.int (x.1:Nat));omega
    ·rintro σ' H2⟨v3,kvs,rfl,s2,hR2,hok2,hin,hln2⟩;rw[ae]at hin hln2;rw[aZ]at hin;refine⟨_,_,kvs,rfl,s2,hR2,λy hy p hp=>?_,by omega⟩;rw[et]at hy;rcases aD.mp hy with h|h
     ·exact hok2 y h p hp
     ·rw[aE.mp h]at hp⊢;exact hin p hp
  ·rintro od σ' H'⟨v2,v3,kvs,rfl,sm,hR',hok,hln⟩;have e:(rows lk').length=kd.length:=by unfold rows;rw[ae];exact tk.len
   rw[e,aZ]at hok;exact⟨_,rfl,k _ R kvs (sm.unlock ha) hR (by rw[aA Ra];exact hR') hok⟩
structure NE(s:State)(kd nd:List (Nat×List Nat)):Prop where
 ks:nd.map (λx=>x.1)=kd.map λx=>x.1
 nn:∀y∈nd,y.2.Nodup
 mem:∀y∈nd,∀h,h∈y.2↔h≠y.1/\∃x∈kd,x.1=h/\∃p∈knot (reaching (graph s)) y.1,∃r∈aG (graph s) p,r∈x.2
def sR(C:Addr):Sp:=λvs H Q _=>∃(q a:Addr)(D:SD)(s:State)(ps:List Nat)(lk':List (Nat×Addr))(kd:List (Nat×List Nat)),vs=[.ref q,.ref a]/\fG C H q D s/\(∀p∈ps,p∈placesOf s.valid)/\(∀p∈ps,∀x∈aG (graph s) p,x∈ps)/\ps.length<=1024/\H a=some (.dK (rows lk'))/\a≠D.ar/\gF H lk' kd/\KN s ps kd/\∀H' r ln nd,Same H H'->H r=none->H' r=some (.dK (rows ln))->gF H' ln nd->NE s kd nd->Q (.ref r) H'
theorem Al{f C:Addr}{fd:FuncData}(F:eJ K "needs_of" "needs_of" qf f fd)(T:gE K C)(b1:mg "list"=none)(C1:dc P w K mg base 1 "heads_of" ["knots"] xV):ck P w K mg base eY 2 f fd ["store","knots"] (sR C):=by
 refine F.ok tK ?_ ?_
 ·rintro vs H Q E⟨q,a,D,s,ps,lk',kd,rfl,_⟩;rfl
 ·rintro cdv A outer s H vs Q E hr⟨q,a,D,s,ps,lk',kd,rfl,S,hv,hc,pl,ha,aar,tk,N,k⟩;have nd:=tK.nd;have hu:=eM hr;refine⟨_,aq (ba (i:=2) nd rfl (Or.inl rfl) (aS C1 hr (ai (pv 1) au))) (aq (ba (i:=3) nd rfl (Or.inl rfl) cW) (aq (il (dI PassesOwn.never rfl (e9 (pv 1)) (bJ (i:=4) nd rfl (Or.inl rfl)) (aq (ba (i:=5) nd rfl (Or.inl rfl) cW) (aq (dI PassesOwn.never rfl (cK (cp hu (pv 1) (pv 4) (λ_ _=>rfl))) (bJ (i:=6) nd rfl (Or.inl rfl)) (aw (dI PassesOwn.never rfl (cK (cp hu (cI (pv 0) rfl) (pv 6) (λ_ _=>rfl))) (bJ (i:=7) nd rfl (Or.inl rfl)) (aw (bH (bh gG (cp hu (pv 2) (pv 7) (λ_ _=>rfl)) (pv 4) (bC _)) (aw (d9 hu (pv 5) (cp hu (pv 2) (pv 7) (λ_ _=>rfl)) iI rfl)) aX))))) (aw (d9 hu (pv 3) (pv 4) (iL (Es rfl) (by rfl) b1 Ce (ai (pv 5) au)) rfl)))))) (aw (aL (pv 3))))),?_⟩;refine⟨_,rfl,a,s,ps,lk',kd,rfl,S.si,hv,pl,ha,tk,N,λH1 rh kvs s1 nrh hrh hok=>?_⟩;intro R hR;have ha1:=s1 _ _ ha;have S1:=S.same s1;have tk1:=tk.same s1;have hRH:H R=none:=s1.free hR;have Ra:R≠a:=(aB ha1 hR).symm;have Rrh:R≠rh:=(aB hrh hR).symm;have rha:rh≠a:=λz=>by rw[z,ha]at nrh;cases nrh
  have qa:q≠a:=cn S.ob ha (λz=>nomatch z);have lnd:(lk'.map λx=>x.1).Nodup:=by rw[tk.keys];exact N.nd
  have kl:=N.len;refine gT (d:=a) (kvs:=rows lk') (by rw[aA Ra.symm];exact ha1) (λod X h=>⟨_,rfl,h⟩) (λod i σ' H'=>∃(v4 v5 v6 v7:Option V)(ln:List (Nat×Addr))(nd':List (Nat×List Nat)),σ'=[some (.ref q),some (.ref a),some (.ref rh),some (.ref R),v4,v5,v6,v7]/\Same (lk H1 a od (rows lk')) H'/\H' R=some (.dK (rows ln))/\gF H' ln nd'/\nd'.map (λx=>x.1)=(kd.take i).map (λx=>x.1)/\(∀y∈nd',y.2.Nodup)/\∀y∈nd',∀h,h∈y.2↔h≠y.1/\∃x∈kd,x.1=h/\∃p∈knot (reaching (graph s)) y.1,∃r∈aG (graph s) p,r∈x.2) (λod=>⟨none,none,none,none,[],[],rfl,ql ha1 hR,by show upd (upd H1 R _) a _ R=_;rw[aA Ra,ao];rfl,.nil,by simp,by simp,by simp⟩) (λod i σ' H'⟨_,_,_,_,_,_,_,sm,_⟩=>sm _ _ ao) ?_ ?_
  ·rintro od i k' v σ' H' hi⟨v4,v5,v6,v7,ln,nd',rfl,sm,hR',tn,ks,nn,mem⟩;obtain⟨x,hx,rfl,rfl⟩:=fz hi;obtain⟨kn,hkn,e1,e2⟩:=dM tk1 hx;have hrm:=aP hkn;obtain⟨m1,m2,m3⟩:=N.hd kn hrm;have rl:=N.klen S.si hv hrm;have hi2:i<kd.length:=(aM.mp hkn).1;have et:kd.take (i+1)=kd.take i++[kn]:=by rw[aT,hkn];rfl
   have hR0:=fP (od:=od) ha1 hR;intro d hd;have dR:R≠d:=aB hR' hd;have hd0:(lk H1 a od (rows lk')) d=none:=sm.free hd;have s2:=aC (o:=.dK []) hd;have hall:∀{H2:Hp},Same (lk H1 a od (rows lk')) H2->H2 a=some (.frz od (.dK (rows lk')))/\H2 rh=some (.dK kvs)/\H2 q=some (.ins C D.dx (sf s.room D.ah D.ap D.ar D.ag))/\H2 D.ar=some (.dK (rows D.lr))/\gF H2 D.lr (gW D)/\H2 x.2=some (.lst (tx kn.2)):=λ{H2}s3=>by have bt:=g8.lock s3;exact⟨s3 _ _ ao,bt _ _ hrh rha,bt _ _ S1.ob qa,bt _ _ S1.h3 aar.symm,L2.Paired.mapP S1.t3 (λ_ _ e=>⟨e.1,bt _ _ e.2 (cn e.2 ha1 (λz=>nomatch z))⟩),bt _ _ e2 (cn e2 ha1 (λz=>nomatch z))⟩
   obtain⟨g1,_,_,_,_,g6⟩:=hall (sm.trans s2);let need:Nat->Nat->Prop:=λp h=>h≠kn.1/\∃y∈kd,y.1=h/\∃r∈aG (graph s) p,r∈y.2;refine⟨_,rfl,_,rfl,a,V.ref x.2,rfl,?_,x.2,rfl,⟨_,bZ.of g6⟩,?_⟩
   ·have g:=cf (k:=Sum.inl (x.1:Int)) (.inr ⟨od,g1⟩:Rd _ a (.dK (rows lk')));rw[fF lnd hx]at g;exact g
   refine eK (K:=K) (a:=x.2) (xs:=tx kn.2) (λj σ' H2=>∃(v6 v7:Option V)(l:List Nat),σ'=[some (.ref q),some (.ref a),some (.ref rh),some (.ref R),some (.int (x.1:Nat)),some (.ref d),v6,v7]/\Same (lk H1 a od (rows lk')) H2/\H2 R=some (.dK (rows ln))/\gF H2 ln nd'/\H2 d=some (.dK (kt l))/\l.Nodup/\(∀h∈l,h∈kd.map λy=>y.1)/\∀h,h∈l↔∃p∈kn.2.take j,need p h) ⟨v6,v7,[],rfl,sm.trans s2,s2 _ _ hR',tn.same s2,ao,cA,by simp,by simp⟩ (λj σ' H2 _⟨_,_,_,_,s3,_⟩=>bZ.of (hall s3).2.2.2.2.2) ?_ ?_
   ·rintro j z σ' H2 hz⟨v6,v7,l,rfl,s3,hR2,HV,hd2,ln2,lk2,lm2⟩;obtain⟨p,hp,rfl⟩:=cD hz;have hpk:p∈kn.2:=aP hp;have hpps:p∈ps:=by have:=hpk;rw[m2,d7 S.si (hv _ m1)]at this;exact this.1.closed (S:=λy=>y∈ps) (λp q hp hq=>hc p hp q hq) m1
    obtain⟨_,_,g3,g4,g5,_⟩:=hall s3;rcases g5.get p with⟨c1,_⟩|⟨la,t,c1,c2,c3,c4⟩
    ·exact absurd (S.gk (hv p hpps)) c1
    have ett:aG (gW D) p=t:=dD S.gn c1;rw[S.ref (hv p hpps)]at ett;have c40:(lk H1 a od (rows lk')) la=some (.lst (tx t)):=by
     have t5:gF (lk H1 a od (rows lk')) D.lr (gW D):=(hall (Same.refl _)).2.2.2.2.1;rcases t5.get p with⟨z1,_⟩|⟨la',t',z1,z2,z3,z4⟩
     ·exact absurd (S.gk (hv p hpps)) z1
     ·rw[c3]at z3;have:la=la':=by injection z3 with h;injection h
      rw[this];have:t'=t:=by rw[<-ett,<-S.ref (hv p hpps)];exact(dD S.gn z1).symm
      rw[<-this];exact z4
    refine⟨_,rfl,q,C,D.dx,_,_,rfl,g3,T.cl,T.n4,kY ..,_,rfl,D.ar,V.ref la,rfl,?_,la,rfl,⟨_,bZ.of c4⟩,?_⟩
    ·have g:=cf (k:=Sum.inl (p:Int)) (.inl g4:Rd H2 D.ar (.dK (rows D.lr)));rw[c3]at g;exact g
    refine eK (K:=K) (a:=la) (xs:=tx t) (λu σ' H3=>∃(v7:Option V)(l:List Nat),σ'=[some (.ref q),some (.ref a),some (.ref rh),some (.ref R),some (.int (x.1:Nat)),some (.ref d),some (.int (p:Nat)),v7]/\Same (lk H1 a od (rows lk')) H3/\H3 R=some (.dK (rows ln))/\gF H3 ln nd'/\H3 d=some (.dK (kt l))/\l.Nodup/\(∀h∈l,h∈kd.map λy=>y.1)/\∀h,h∈l↔(∃p∈kn.2.take j,need p h)\/h≠kn.1/\∃y∈kd,y.1=h/\∃r∈t.take u,r∈y.2) ⟨v7,l,rfl,s3,hR2,HV,hd2,ln2,lk2,λh=>by rw[lm2 h];simp⟩ (λu σ' H3 _⟨_,_,_,s4,_⟩=>bZ.of (s4 _ _ c40)) ?_ ?_
    ·rintro u z σ' H3 hz⟨v7,l,rfl,s4,hR3,tn3,hd3,ln3,lk3,lm3⟩;obtain⟨r,hr',rfl⟩:=cD hz;have hrt:r∈t:=aP hr';have hrps:r∈ps:=hc p hpps r (by rw[ett];exact hrt);obtain⟨y,hy,hry⟩:=N.cov r hrps;have hval:=hok y hy r hry;obtain⟨_,g2,_⟩:=hall s4;have gd:lR H3 rh (V.int (r:Nat)) (some (.int (y.1:Nat))):=by have g:=cf (k:=Sum.inl (r:Int)) (.inl g2:Rd H3 rh (.dK kvs));rw[hval]at g;exact g
     have etu:t.take (u+1)=t.take u++[r]:=by rw[aT,hr'];rfl
     have only:∀y'∈kd,r∈y'.2->y'=y:=λy' hy' h=>N.one S.si hv hy' hy h hry;have step:∀h,((∃p∈kn.2.take j,need p h)\/h≠kn.1/\∃y∈kd,y.1=h/\∃r∈t.take (u+1),r∈y.2)↔h∈l\/(h≠kn.1/\h=y.1):=λh=>by
      rw[lm3 h,etu];constructor
      ·rintro(h1|⟨h1,y',hy',h2,r',hr2,h3⟩)
       ·exact .inl (.inl h1)
       ·rcases aD.mp hr2 with h4|h4
        ·exact .inl (.inr ⟨h1,y',hy',h2,r',h4,h3⟩)
        ·rw[aE.mp h4]at h3;rw[only y' hy' h3]at h2;exact .inr ⟨h1,h2.symm⟩
      ·rintro((h1|⟨h1,y',hy',h2,r',hr2,h3⟩)|⟨h1,h2⟩)
       ·exact .inl h1
       ·exact .inr ⟨h1,y',hy',h2,r',aQ _ hr2,h3⟩
       ·exact .inr ⟨h1,y,hy,h2.symm,r,by simp,hry⟩
     refine⟨_,rfl,_,rfl,rh,V.int (y.1:Nat),rfl,gd,_,rfl,rfl,_,rfl,?_⟩;refine eP (λhne=>?_) λheq=>?_
     ·have hne:y.1≠kn.1:=λz=>hne (by rw[z,<-e1]);refine⟨_,rfl,_,rfl,_,rfl,rh,V.int (y.1:Nat),rfl,gd,d,_,rfl,kD.k (k:=Sum.inl (y.1:Int)) hd3 ?_,?_⟩
      ·have:=aO ln3 lk3;rw[ae]at this;unfold kt;rw[ae];exact bW (by omega)
      ·have nd3:∀xs,H3 d≠some (.lst xs):=λxs z=>by rw[hd3]at z;cases z
       by_cases hin:y.1∈l
       ·refine⟨_,l,rfl,s4.new hd0,by rw[aA dR];exact hR3,tn3.upd nd3,by rw[ao,vP hin],ln3,lk3,λh=>?_⟩;rw[step h];constructor
        ·exact .inl
        ·rintro(h1|⟨_,h1⟩)
         ·exact h1
         ·rw[h1];exact hin
       ·refine⟨_,l++[y.1],rfl,s4.new hd0,by rw[aA dR];exact hR3,tn3.upd nd3,by rw[ao,ku hin],gz ln3 hin,λh hh=>?_,λh=>?_⟩
        ·rcases aD.mp hh with h1|h1
         ·exact lk3 h h1
         ·rw[aE.mp h1];exact az.mpr ⟨y,hy,rfl⟩
        ·rw[step h,aD,aE];constructor
         ·rintro(h1|h1)
          ·exact .inl h1
          ·exact .inr ⟨h1▸hne,h1⟩
         ·rintro(h1|⟨_,h1⟩)
          ·exact .inl h1
          ·exact .inr h1
     ·have heq:y.1=kn.1:=by have:=V.int.inj heq;rw[<-e1];omega
      refine⟨_,l,rfl,s4,hR3,tn3,hd3,ln3,lk3,λh=>?_⟩;rw[step h];constructor
      ·exact .inl
      ·rintro(h1|⟨h1,h2⟩)
       ·exact h1
       ·exact absurd (h2.trans heq) h1
    ·rintro σ' H3⟨v7,l,rfl,s4,hR3,tn3,hd3,ln3,lk3,lm3⟩;rw[ae,aZ]at lm3;refine⟨_,_,l,rfl,s4,hR3,tn3,hd3,ln3,lk3,λh=>?_⟩;rw[lm3 h,aT,hp];constructor
     ·rintro(⟨p',hp',h1⟩|⟨h1,y,hy,h2,r,hr2,h3⟩)
      ·exact⟨p',aQ _ hp',h1⟩
      ·exact⟨p,by simp,h1,y,hy,h2,r,by rw[ett];exact hr2,h3⟩
     ·rintro⟨p',hp',h1,y,hy,h2,r,hr2,h3⟩;rcases aD.mp hp' with h4|h4
      ·exact .inl ⟨p',h4,h1,y,hy,h2,r,hr2,h3⟩
      ·simp at h4;rw[h4,ett]at hr2;exact .inr ⟨h1,y,hy,h2,r,hr2,h3⟩
   ·rintro σ' H2⟨v6,v7,l,rfl,s3,hR2,HV,hd2,ln2,lk2,lm2⟩;rw[ae,aZ]at lm2;refine⟨_,rfl,d,_,_,rfl,.inl hd2,Ha l,λp hp=>?_⟩;have pR:R≠p:=aB hR2 hp;have hnew:x.1∉ln.map λy=>y.1:=by
     rw[HV.keys,ks,e1];have h5:((kd.take i).map (λx=>x.1)++[kn.1]).Nodup:=by
      have h4:(kd.map λx=>x.1).take (i+1)=(kd.take i).map (λx=>x.1)++[kn.1]:=by rw[<-iH,et,aW];rfl
      exact h4▸N.nd.sublist (b_ _ _)
     intro z;exact(be.mp h5).2.2 kn.1 z kn.1 (by simp) rfl
    refine⟨_,rfl,_,rfl,R,_,rfl,kD.k (k:=Sum.inl (x.1:Int)) (by rw[aA pR];exact hR2) ?_,?_⟩
    ·have:ln.length=(kd.take i).length:=by rw[<-ae (f:=λx=>x.1),HV.keys,ks,ae]
     unfold rows;rw[ae,this];exact bW (ay (br ..) (by omega))
    ·have ed:dput ln x.1 p=ln++[(x.1,p)]:=by unfold dput;rw[if_neg hnew]
     rw[gU,ed];have sp:=aC (o:=.lst ((l.map λ(n:Nat)=>(n:Int)).map V.int)) hp;have nR':∀xs,(upd H2 p (.lst ((l.map λ(n:Nat)=>(n:Int)).map V.int))) R≠some (.lst xs):=λxs z=>by rw[sp _ _ hR2]at z;cases z
     refine⟨_,_,_,_,ln++[(x.1,p)],nd'++[(kn.1,l)],rfl,(s3.trans sp).new hR0,ao,?_,?_,λy hy=>?_,λy hy h=>?_⟩
     ·refine Paired.snoc ((HV.same sp).upd nR') ⟨e1,?_⟩;show upd (upd H2 p _) R _ p=_;rw[aA pR.symm,ao,<-de]
     ·rw[aW,ks,et,aW];rfl
     ·rcases aD.mp hy with h1|h1
      ·exact nn y h1
      ·rw[aE.mp h1];exact ln2
     ·rcases aD.mp hy with h1|h1
      ·exact mem y h1 h
      ·rw[aE.mp h1];show h∈l↔h≠kn.1/\_;rw[lm2 h];constructor
       ·rintro⟨p',hp',h1,y,hy,h2,r,hr2,h3⟩;exact⟨h1,y,hy,h2,p',m2▸hp',r,hr2,h3⟩
       ·rintro⟨h1,y,hy,h2,p',hp',r,hr2,h3⟩;exact⟨p',m2.symm▸hp',h1,y,hy,h2,r,hr2,h3⟩
  ·rintro od σ' H'⟨v4,v5,v6,v7,ln,nd',rfl,sm,hR',tn,ks,nn,mem⟩;have e:(rows lk').length=kd.length:=by unfold rows;rw[ae];exact tk.len
   rw[e,aZ]at ks;refine⟨_,rfl,k _ R ln nd' (s1.trans (sm.unlock ha1)) hRH (by rw[aA Ra];exact hR') (tn.upd λxs z=>?_) ⟨ks,nn,mem⟩⟩;rw[sm _ _ ao]at z;cases z
end
end Wk
namespace Wk
open PySem PySem.Spec PyProof.Rows L2 WkR
open Vastof (Held State load placesOf Graph graph placeSet reaching closure knot)
def tn1:TS:=B9 (fg 1) (fg 2) (D5 nv)
def HV(K:aj):TS:=FQ (BS K (xD (fg 0) (fg 2))) (kJ 3) (xq (Iq K "list" qE (xD (fg 1) (fg 3)) (jX (fg 2) nv)))
def PnA(a R:Addr)(ps:List Nat)(H0:Hp)(i:Nat)(σ:L2.St)(H':Hp):Prop:=∃(v:Option V)(lr:List (Nat×Addr)),σ=[some (.ref a),some (.ref R),v,none]/\Same H0 H'/\RT H0 H' R lr (ps.take i) λ_=>[]
theorem Rd.same{H H':Hp}{a:Addr}{o:HO}(r:Rd H a o)(s:Same H H'):Rd H' a o:=by
 rcases r with h|⟨od,h⟩
 ·exact .inl (s _ _ h)
 ·exact .inr ⟨od,s _ _ h⟩
theorem HW{a R:Addr}{ps:List Nat}{H0:Hp}{i p:Nat}{σ:L2.St}{H':Hp}{E:Ends}(hps:ps.Nodup)(hsz:ps.length<=2000)(hR0:H0 R=none)(hp:ps[i]?=some p)(I:PnA a R ps H0 i σ H')(hE:∀σ H,PnA a R ps H0 (i+1) σ H->E.nx σ H):tn1 E (σ.set 2 (some (.int (p:Nat)))) H':=by
 obtain⟨v,lr,rfl,sm,I⟩:=I;have hi:i<ps.length:=(aM.mp hp).1;have e:ps.take (i+1)=ps.take i++[p]:=by rw[aT,hp];rfl
 have hnew:p∉lr.map λx=>x.1:=by rw[I.ks];have h5:(ps.take i++[p]).Nodup:=e▸hps.sublist (b_ _ _);intro z;exact(be.mp h5).2.2 p z p (by simp) rfl
 refine⟨aV _,λx hx=>?_⟩;have xR:R≠x:=aB I.hR hx;have x0:H0 x=none:=sm.free hx;have hl:(rows lr).length<sizeLine:=by
  have:lr.length=(ps.take i).length:=by rw[<-I.ks,ae]
  unfold rows;rw[ae,this];exact bW (ay (br ..) (by omega))
 refine⟨_,rfl,_,rfl,R,_,rfl,kD.k (k:=Sum.inl (p:Int)) (by rw[aA xR];exact I.hR) hl,hE _ _ ?_⟩;refine⟨_,lr++[(p,x)],rfl,(sm.new x0).new hR0,?_,?_,?_,?_,?_⟩
 ·rw[ao,gU];unfold dput;rw[if_neg hnew]
 ·rw[aW,I.ks,e];rfl
 ·rw[aW];refine gz I.an λm=>?_;obtain⟨y,hy,ey⟩:=az.mp m;have:=I.at_ y hy;rw[show y.2=x from ey,hx]at this;cases this
 ·intro y hy;rcases aD.mp hy with h|h
  ·exact I.nw y h
  ·rw[aE.mp h];exact⟨x0,xR.symm⟩
 ·intro y hy;rcases aD.mp hy with h|h
  ·have h1:=I.at_ y h;rw[aA (I.nw y h).2,aA (aB h1 hx)];exact h1
  ·rw[aE.mp h];show upd (upd H' x _) R _ x=_;rw[aA xR.symm,ao];rfl
def PnB(a R:Addr)(ps:List Nat)(g:Graph)(H0:Hp)(i:Nat)(σ:L2.St)(H':Hp):Prop:=∃(v v':Option V)(lr:List (Nat×Addr)),σ=[some (.ref a),some (.ref R),v,v']/\Same H0 H'/\RT H0 H' R lr ps (iX g (ps.take i))
theorem HX{K:aj}{a R:Addr}{lg:List (Nat×Addr)}{ps:List Nat}{g:Graph}{H0:Hp}{i p:Nat}{σ:L2.St}{H':Hp}{E:Ends}(hps:ps.Nodup)(hsz:ps.length<=2000)(hR0:H0 R=none)(hr:Rd H0 a (.dK (rows lg)))(tr:gF H0 lg g)(gn:(g.map λx=>x.1).Nodup)(hk:p∈g.map λx=>x.1)(hcl:(aG g p).Nodup/\∀x∈aG g p,x∈ps)(hp:ps[i]?=some p)(I:PnB a R ps g H0 i σ H')(hE:∀σ H,PnB a R ps g H0 (i+1) σ H->E.nx σ H):HV K E (σ.set 2 (some (.int (p:Nat)))) H':=by
 obtain⟨v,v',lr,rfl,sm,I⟩:=I;have e:ps.take (i+1)=ps.take i++[p]:=by rw[aT,hp];rfl
 rcases tr.get p with⟨c1,_⟩|⟨la,t,c1,c2,c3,c4⟩
 ·exact absurd hk c1
 have et:aG g p=t:=dD gn c1;rw[et]at hcl;refine⟨_,rfl,_,rfl,a,V.ref la,rfl,?_,la,rfl,⟨_,bZ.of (sm _ _ c4)⟩,?_⟩
 ·have gg:=cf (k:=Sum.inl (p:Int)) (Rd.same hr sm:Rd H' a (.dK (rows lg)));rw[c3]at gg;exact gg
 ·refine eK (K:=K) (a:=la) (xs:=tx t) (λj σ' H2=>∃(v':Option V),σ'=[some (.ref a),some (.ref R),some (.int (p:Nat)),v']/\Same H0 H2/\RT H0 H2 R lr ps λx=>iX g (ps.take i) x++if x∈t.take j then[p]else[]) ⟨v',rfl,sm,⟨I.hR,I.ks,I.an,I.nw,λx hx=>by simp only[BK,Jk,if_false,cP];exact I.at_ x hx⟩⟩ (λj σ' H2 _⟨_,_,s2,_⟩=>bZ.of (s2 _ _ c4)) ?_ ?_
  ·rintro j x σ' H2 hx⟨v',rfl,s2,I2⟩;obtain⟨n,hn,rfl⟩:=cD hx;have hnp:n∈ps:=hcl.2 n (aP hn);have et2:t.take (j+1)=t.take j++[n]:=by rw[aT,hn];rfl
   have hnt:n∉t.take j:=by have h5:(t.take j++[n]).Nodup:=et2▸hcl.1.sublist (b_ _ _);intro z;exact(be.mp h5).2.2 n z n (by simp) rfl
   have hn2:n∈lr.map λx=>x.1:=by rw[I2.ks];exact hnp
   obtain⟨y,hy,ey⟩:=az.mp hn2;obtain⟨jy,hjy⟩:=kH hy;have lnd:(lr.map λx=>x.1).Nodup:=by rw[I2.ks];exact hps
   have hv:=fF lnd hjy;rw[ey]at hv;have hat:=I2.at_ y hy;rw[ey]at hat;simp only[if_neg hnt,cP]at hat;refine⟨_,rfl,_,rfl,R,V.ref y.2,rfl,?_,.inl ⟨rfl,_,bZ.of hat⟩,_,rfl,y.2,_,_,rfl,rfl,hat,?_,?_⟩
   ·have gg:=cf (k:=Sum.inl (n:Int)) (.inl I2.hR:Rd H2 R (.dK (rows lr)));rw[hv]at gg;exact gg
   ·rw[ae];unfold iX;exact bW (ay (bp ..) (ay (br ..) (by omega)))
   ·refine⟨_,rfl,s2.new (I2.nw y hy).1,⟨by rw[aA (I2.nw y hy).2.symm];exact I2.hR,I2.ks,I2.an,I2.nw,λz hz=>?_⟩⟩;by_cases hzy:z=y
    ·subst hzy;rw[ao,ey,et2];simp[tx]
    ·have ne:z.2≠y.2:=λq=>hzy (oK I2.an hz hy q);have nk:z.1≠n:=λq=>hzy (by
      obtain⟨jz,hjz⟩:=kH hz;have:=fF lnd hjz;rw[q,hv]at this;have:y.2=z.2:=by injection this with h;injection h
      exact oK I2.an hz hy this.symm)
     rw[aA ne,I2.at_ z hz,et2];simp[nk]
  ·rintro σ' H2⟨v',rfl,s2,I2⟩;refine hE _ _ ⟨_,_,lr,rfl,s2,⟨I2.hR,I2.ks,I2.an,I2.nw,λx hx=>?_⟩⟩;rw[I2.at_ x hx,ae,aZ,e];unfold iX;rw[dC,cw,et];by_cases z:x.1∈t
   ·simp[z]
   ·simp[z]
section
variable {P:Program}{w:World}{K:aj}{mg:Str->Option Value}{base:Heap}
def oQ:Sp:=λvs H Q _=>∃(a:Addr)(ln:List (Nat×Addr))(g:List (Nat×List Nat)),vs=[.ref a]/\H a=some (.dK (rows ln))/\gF H ln g/\(g.map λx=>x.1).Nodup/\g.length<=1024/\(∀y∈g,y.2.Nodup/\∀h∈y.2,h∈g.map λx=>x.1)/\∀H' R lr,Same H H'->H R=none->H' R=some (.dK (rows lr))->gF H' lr ((g.map λx=>x.1).map λp=>(p,iX g (g.map λx=>x.1) p))->Q (.ref R) H'
theorem w8{f:Addr}{fd:FuncData}(F:eJ K "needers_of" "needers_of" mI f fd):ck P w K mg base eY 1 f fd ["needs"] oQ:=by
 refine F.ok pM ?_ ?_
 ·rintro vs H Q E⟨a,ln,g,rfl,_⟩;rfl
 ·rintro cdv A outer s H vs Q E hr⟨a,ln,g,rfl,ha,tg,gn,gl,gy,k⟩;have nd:=pM.nd;have hu:=eM hr;have pl:(g.map λx=>x.1).length<=1024:=by rw[ae];exact gl
  have hcl:∀p∈g.map (λx=>x.1),(aG g p).Nodup/\∀x∈aG g p,x∈g.map λx=>x.1:=λp hp=>by obtain⟨y,hy,rfl⟩:=az.mp hp;rw[dD gn (l:=y.2) hy];exact gy y hy
  refine⟨_,aq (ba (i:=1) nd rfl (Or.inl rfl) cW) (aq (il (dI PassesOwn.never rfl (e9 (pv 0)) (bJ (i:=2) nd rfl (Or.inl rfl)) (aw (d9 hu (pv 1) (pv 2) (bE au) rfl)))) (aq (il (dI PassesOwn.never rfl (e9 (pv 0)) (bJ (i:=2) nd rfl (Or.inl rfl)) (aw (dI PassesOwn.never rfl (cK (cp hu (pv 0) (pv 2) (λ_ _=>rfl))) (bJ (i:=3) nd rfl (Or.inl rfl)) (aw (dr (gH aU bR bS eX (cp hu (pv 1) (pv 3) (λ_ _=>rfl)) (ai (pv 2) au)))))))) (aw (aL (pv 1))))),?_⟩;intro R hR;have Ra:R≠a:=(aB ha hR).symm;have rl:(rows ln).length=(g.map λx=>x.1).length:=by unfold rows;rw[ae,ae];exact tg.len
  have rp:∀{i:Nat}{x:Nat×Addr},ln[i]?=some x->(g.map λx=>x.1)[i]?=some x.1:=λ{i x}h=>by rw[<-tg.keys,a9,h];rfl
  refine gT (d:=a) (kvs:=rows ln) (by rw[aA Ra.symm];exact ha) (λod X h=>⟨_,rfl,h⟩) (λod i σ' H'=>PnA a R (g.map λx=>x.1) (lk H a od (rows ln)) i σ' H') (λod=>⟨none,[],rfl,ql ha hR,⟨by show upd (upd H R _) a _ R=_;rw[aA Ra,ao];rfl,rfl,cA,by simp,by simp⟩⟩) (λod i σ' H'⟨_,_,_,sm,_⟩=>sm _ _ ao) ?_ ?_
  ·rintro od i k' v σ' H' hi I;obtain⟨x,hx,rfl,rfl⟩:=fz hi;exact HW gn (by omega) (fP ha hR) (rp hx) I λ_ _ h=>h
  ·rintro od σ' H'⟨v,lr,rfl,sm,I⟩;rw[rl,aZ]at I;have s1:=sm.unlock ha;have nd2:∀x∈lr,x.2≠a:=λx hx z=>by have:=(I.nw x hx).1;rw[z]at this;have e:lk H a od (rows ln) a=some _:=ao;rw[this]at e;cases e
   refine gT (d:=a) (kvs:=rows ln) ao (λod X h=>⟨_,rfl,h⟩) (λod i σ' H'=>PnB a R (g.map λx=>x.1) g (lk H a od (rows ln)) i σ' H') ?_ (λod i σ' H'⟨_,_,_,_,sm,_⟩=>sm _ _ ao) ?_ ?_
   ·intro od2;refine⟨v,none,lr,rfl,Cq s1,⟨?_,I.ks,I.an,λx hx=>⟨?_,(I.nw x hx).2⟩,λx hx=>?_⟩⟩
    ·show upd (upd H' a _) a _ R=_;rw[aA Ra,aA Ra];exact I.hR
    ·have:=(I.nw x hx).1;have e:upd H a _ x.2=none:=this;rw[aA (nd2 x hx)]at e;exact fP ha e
    ·show upd (upd H' a _) a _ x.2=_;rw[aA (nd2 x hx),aA (nd2 x hx)];exact I.at_ x hx
   ·rintro od2 i k' v σ' H2 hi I2;obtain⟨x,hx,rfl,rfl⟩:=fz hi;have hpx:=rp hx;have hpm:=aP hpx;have tr:gF (lk H a od2 (rows ln)) ln g:=tg.upd λxs z=>by rw[ha]at z;cases z
    exact HX gn (by omega) (fP ha hR) (.inr ⟨od2,ao⟩) tr gn hpm (hcl _ hpm) hpx I2 λ_ _ h=>h
   ·rintro od2 σ' H2⟨v,v',lr,rfl,s2,I2⟩;rw[rl,aZ]at I2;refine⟨_,rfl,k _ R lr (s2.unlock ha) hR (by rw[aA Ra];exact I2.hR) ?_⟩;refine gF.upd I2.tat λxs z=>?_;rw[s2 _ _ ao]at z;cases z
end
end Wk
namespace Wk
open PySem PySem.Spec PyProof.Rows L2 WkR
open Vastof (Held State load placesOf Graph graph placeSet reaching closure knot ready ordered)
theorem Am{P:Nat->Bool}{h:Nat}:∀{l:List Nat},n6 l->h∈l->P h=true->(∀x∈l,P x=true->h<=x)->l.find? P=some h
 |[],_,hm,_,_=>by cases hm
 |y::l,ha,hm,hp,hx=>by
  rw[fK];cases hy:P y with
  |true=>
   have h1:=hx y (aY ..) hy
   rcases aF.mp hm with h2|h2
   ·rw[h2]
   ·have:=(cj.mp ha).1 h h2;omega
  |false=>
   rcases aF.mp hm with h2|h2
   ·rw[h2,hy]at hp;cases hp
   ·exact Am (cj.mp ha).2 h2 hp λx hxl=>hx x (aJ _ hxl)
def fQ(nd:Graph)(L:List Nat)(x:Nat):Nat:=((aG nd x).filter λh=>!L.contains h).length
theorem Dv{nd:Graph}{L:List Nat}{x:Nat}:fQ nd L x=0↔∀h∈aG nd x,h∈L:=by unfold fQ;rw[List.length_eq_zero_iff,List.filter_eq_nil_iff];simp
theorem nu{L:List Nat}{h:Nat}(hL:h∉L):∀{l:List Nat},l.Nodup->(l.filter λx=>!L.contains x).length=(l.filter λx=>!(L++[h]).contains x).length+if h∈l then 1 else 0
 |[],_=>by simp
 |y::l,hn=>by
  obtain⟨n1,n2⟩:=bO.mp hn;have ih:=nu hL n2;rw[cw,cw];by_cases e:y=h
  ·subst e;have a1:(!L.contains y)=true:=by simpa using hL
   have a2:(!(L++[y]).contains y)=false:=by simp
   rw[if_neg n1]at ih;rw[if_pos a1,a2,if_neg (by simp),if_pos (by simp),bG];omega
  ·have a3:(h∈y::l)↔h∈l:=by rw[aF];exact⟨λz=>z.resolve_left λq=>e q.symm,.inr⟩
   by_cases hy:y∈L
   ·have a1:(!L.contains y)=false:=by simpa using hy
    have a2:(!(L++[h]).contains y)=false:=by simp[hy]
    rw[a1,a2,if_neg (by simp),if_neg (by simp)];simp only[a3];exact ih
   ·have a1:(!L.contains y)=true:=by simpa using hy
    have a2:(!(L++[h]).contains y)=true:=by simp[hy,e]
    rw[if_pos a1,if_pos a2,bG,bG];simp only[a3];omega
theorem sS{nd:Graph}{L:List Nat}{h x:Nat}(hL:h∉L)(hn:(aG nd x).Nodup):fQ nd L x=fQ nd (L++[h]) x+if h∈aG nd x then 1 else 0:=nu hL hn
abbrev jG(s:State)(L:List Nat):List Nat:=L.flatMap λh=>knot (reaching (graph s)) h
structure E3(s:State)(ps:List Nat)(kd nd:List (Nat×List Nat))(gs L:List Nat):Prop where
 un:L.Nodup
 mem:∀h∈L,h∈kd.map λx=>x.1
 cl:∀h∈L,fQ nd L h=0
 eq:dS (graph s) gs=ordered (graph s) (reaching (graph s)) (ps.length-L.length) (ps.filter λx=>!(jG s L).contains x) (jG s L)
section
variable {s:State}{ps:List Nat}{kd nd:List (Nat×List Nat)}{gs L:List Nat}
theorem NE.kn(E:NE s kd nd)(hn:(kd.map λx=>x.1).Nodup):(nd.map λx=>x.1).Nodup:=by rw[E.ks];exact hn
theorem NE.lnd(E:NE s kd nd)(x:Nat):(aG nd x).Nodup:=by
 unfold aG;cases h:nd.find? λy=>y.1==x with
 |none=>exact cA
 |some y=>exact E.nn y (find_key h).1
theorem NE.at_(E:NE s kd nd)(hn:(kd.map λx=>x.1).Nodup){x:Nat×List Nat}(hx:x∈kd){h:Nat}:h∈aG nd x.1↔h≠x.1/\∃y∈kd,y.1=h/\∃p∈knot (reaching (graph s)) x.1,∃r∈aG (graph s) p,r∈y.2:=by
 have:x.1∈nd.map λx=>x.1:=by rw[E.ks];exact az.mpr ⟨x,hx,rfl⟩
 obtain⟨y,hy,e⟩:=az.mp this;have e:y.1=x.1:=e;rw[<-e,dD (E.kn hn) (l:=y.2) hy];exact E.mem y hy h
theorem mP{L:List Nat}{y:Nat}:y∈jG s L↔∃h∈L,y∈knot (reaching (graph s)) h:=pC
theorem KN.row(N:KN s ps kd){h:Nat}(hh:h∈kd.map λx=>x.1):∃x∈kd,x.1=h/\x.2=knot (reaching (graph s)) h/\h∈ps/\h∈x.2:=by obtain⟨x,hx,rfl⟩:=az.mp hh;obtain⟨a1,a2,a3⟩:=N.hd x hx;exact⟨x,hx,rfl,a2,a1,aP a3⟩
theorem xW(si:SI s)(hv:∀p∈ps,p∈placesOf s.valid)(hc:∀p∈ps,∀x∈aG (graph s) p,x∈ps)(N:KN s ps kd)(E:NE s kd nd)(hL:∀h∈L,h∈kd.map λx=>x.1){x:Nat×List Nat}(hx:x∈kd):ready (graph s) (reaching (graph s)) (jG s L) x.1=true↔fQ nd L x.1=0:=by
 obtain⟨b1,b2,b3⟩:=N.hd x hx;rw[Dv];unfold Vastof.ready;rw[bU];constructor
 ·intro h q hq;obtain⟨h1,y,hy,rfl,p,hp,r,hr,hry⟩:=(E.at_ N.nd hx).mp hq;have h2:=h p hp;rw[bU]at h2;have h3:=h2 r hr;rw[lL,cU,cU]at h3;rcases h3 with h3|h3
  ·rw[<-b2]at h3;have:=N.one si hv hx hy h3 hry;exact absurd (by rw[this]) h1
  ·obtain⟨q',hq',h4⟩:=mP.mp h3;obtain⟨x',hx',e1,e2,_,_⟩:=N.row (hL q' hq');rw[<-e2]at h4;have:=N.one si hv hx' hy h4 hry;rw[<-this,e1];exact hq'
 ·intro h p hp;rw[bU];intro r hr;rw[lL,cU,cU];have hpps:p∈ps:=by have:=hp;rw[d7 si (hv _ b1)]at this;exact this.1.closed (S:=λy=>y∈ps) (λp q hp hq=>hc p hp q hq) b1
  obtain⟨y,hy,hry⟩:=N.cov r (hc p hpps r hr);obtain⟨c1,c2,c3⟩:=N.hd y hy;by_cases e:y.1=x.1
  ·refine .inl ?_;rw[c2,e]at hry;exact hry
  ·refine .inr (mP.mpr ⟨y.1,h y.1 ((E.at_ N.nd hx).mpr ⟨e,y,hy,rfl,p,hp,r,hr,hry⟩),?_⟩);rw[<-c2];exact hry
theorem vY(si:SI s)(hv:∀p∈ps,p∈placesOf s.valid)(hc:∀p∈ps,∀x∈aG (graph s) p,x∈ps)(N:KN s ps kd)(E:NE s kd nd)(hL:∀h∈L,h∈kd.map λx=>x.1){p:Nat}(hp:p∈ps.filter λx=>!(jG s L).contains x)(hr:ready (graph s) (reaching (graph s)) (jG s L) p=true):∃h∈kd.map (λx=>x.1),h∉L/\fQ nd L h=0/\h<=p:=by
 obtain⟨h1,h2⟩:=bj.mp hp;have h2:p∉jG s L:=by simpa using h2
 obtain⟨x,hx,hpx⟩:=N.cov p h1;obtain⟨b1,b2,b3⟩:=N.hd x hx;have hk:=hpx;rw[b2,d7 si (hv _ b1)]at hk;have ek:knot (reaching (graph s)) x.1=knot (reaching (graph s)) p:=ph si (hv _ b1) (hv _ h1) hk.1 hk.2;refine⟨x.1,az.mpr ⟨x,hx,rfl⟩,λz=>h2 (mP.mpr ⟨x.1,z,b2▸hpx⟩),(xW si hv hc N E hL hx).mp ?_,?_⟩
 ·unfold Vastof.ready at hr⊢;rw[ek];exact hr
 ·have ha:=l7 si (hv _ b1);rw[<-b2]at ha;cases hl:x.2 with
  |nil=>rw[hl]at hpx;cases hpx
  |cons a l=>
   rw[hl]at b3 ha hpx
   have:a=x.1:=by simpa using b3
   rcases aF.mp hpx with h3|h3
   ·omega
   ·have:=(cj.mp ha).1 p h3;omega
theorem E3.start(hps:ps=closure (graph s) gs):E3 s ps kd nd gs [] where
 un:=cA
 mem:=by simp
 cl:=by simp
 eq:=by unfold dS;rw[<-hps];congr 1;exact(Hg.mpr λx hx=>by simp).symm
theorem E3.len(O:E3 s ps kd nd gs L)(N:KN s ps kd):L.length<=kd.length:=by have:=aO O.un O.mem;rw[ae]at this;exact this
theorem E3.step(si:SI s)(pa:n6 ps)(hv:∀p∈ps,p∈placesOf s.valid)(hc:∀p∈ps,∀x∈aG (graph s) p,x∈ps)(N:KN s ps kd)(E:NE s kd nd)(O:E3 s ps kd nd gs L){h:Nat}(h1:h∈kd.map λx=>x.1)(h2:h∉L)(h3:fQ nd L h=0)(h4:∀y∈kd.map (λx=>x.1),y∉L->fQ nd L y=0->h<=y):E3 s ps kd nd gs (L++[h]):=by
 obtain⟨x,hx,e1,e2,e3,e4⟩:=N.row h1;have ek:jG s (L++[h])=jG s L++knot (reaching (graph s)) h:=by unfold jG;rw[lO];simp
 have hnk:h∉jG s L:=λz=>by obtain⟨q',hq',z2⟩:=mP.mp z;obtain⟨x',hx',f1,f2,_,_⟩:=N.row (O.mem q' hq');rw[<-f2]at z2;have:=N.one si hv hx' hx z2 e4;exact h2 (by rw[<-e1,<-this,f1];exact hq')
 have hcl:∀y∈L++[h],fQ nd (L++[h]) y=0:=λy hy=>by
  have:fQ nd L y=0:=by
   rcases aD.mp hy with z|z
   ·exact O.cl y z
   ·rw[aE.mp z];exact h3
  have:=sS (nd:=nd) (x:=y) h2 (E.lnd y);omega
 have hmem:∀y∈L++[h],y∈kd.map λx=>x.1:=λy hy=>by
  rcases aD.mp hy with z|z
  ·exact O.mem y z
  ·rw[aE.mp z];exact h1
 have hlt:L.length<ps.length:=by
  have:=aO (l:=L++[h]) (m:=ps) (gz O.un h2) λy hy=>by obtain⟨_,_,_,_,z,_⟩:=N.row (hmem y hy);exact z
  simp at this;omega
 refine⟨gz O.un h2,hmem,hcl,?_⟩;rw[O.eq,show ps.length-L.length=(ps.length-(L++[h]).length)+1 by simp;omega];have hf:(ps.filter λx=>!(jG s L).contains x).find? (λp=>ready (graph s) (reaching (graph s)) (jG s L) p)=some h:=by refine Am (pa.sublist cS) (bj.mpr ⟨e3,by simpa using hnk⟩) ((e1▸xW si hv hc N E O.mem hx).mpr h3) λp hp hr=>?_;obtain⟨q',z1,z2,z3,z4⟩:=vY si hv hc N E O.mem hp hr;exact ay (h4 q' z1 z2 z3) z4
 show(match(ps.filter λx=>!(jG s L).contains x).find? (λp=>ready (graph s) (reaching (graph s)) (jG s L) p)with
  |none=>jG s L
  |some p=>ordered (graph s) (reaching (graph s)) (ps.length-(L++[h]).length) ((ps.filter λx=>!(jG s L).contains x).filter λx=>!(knot (reaching (graph s)) p).contains x) (jG s L++knot (reaching (graph s)) p))=_
 rw[hf];show ordered _ _ _ _ _=_;rw[ek,Ik];congr 1;refine fL λy _=>?_;by_cases z1:y∈jG s L
 ·simp[z1]
 ·by_cases z2:y∈knot (reaching (graph s)) h
  ·simp[z2]
  ·simp[z1,z2]
theorem E3.stop(si:SI s)(hv:∀p∈ps,p∈placesOf s.valid)(hc:∀p∈ps,∀x∈aG (graph s) p,x∈ps)(N:KN s ps kd)(E:NE s kd nd)(O:E3 s ps kd nd gs L)(h:∀y∈kd.map (λx=>x.1),y∉L->fQ nd L y≠0):dS (graph s) gs=jG s L:=by
 rw[O.eq];have hf:(ps.filter λx=>!(jG s L).contains x).find? (λp=>ready (graph s) (reaching (graph s)) (jG s L) p)=none:=by rw[wj];intro p hp hr;obtain⟨q',z1,z2,z3,_⟩:=vY si hv hc N E O.mem hp hr;exact h q' z1 z2 z3
 cases ps.length-L.length with
 |zero=>rfl
 |succ k=>
  show(match(ps.filter λx=>!(jG s L).contains x).find? (λp=>ready (graph s) (reaching (graph s)) (jG s L) p)with
   |none=>jG s L
   |some p=>ordered (graph s) (reaching (graph s)) k ((ps.filter λx=>!(jG s L).contains x).filter λx=>!(knot (reaching (graph s)) p).contains x) (jG s L++knot (reaching (graph s)) p))=_
  rw[hf]
end
end Wk
namespace Wk
open PySem PySem.Spec PyProof.Rows L2 WkR
open Vastof (Held State load placesOf Graph graph placeSet reaching closure knot)
def ki(l:List Nat)(f:Nat->Int):List (Key×V):=l.map λ(n:Nat)=>((Sum.inl (n:Int):Key),V.int (f n))
theorem sT(n:Nat)(f:Nat->Int):∀l:List Nat,dZ (ki l f) (Sum.inl (n:Int))=if n∈l then some (V.int (f n))else none
 |[]=>rfl
 |m::l=>by
  by_cases e:m=n
  ·subst e;rw[if_pos (aY ..)];exact eu rfl
  ·have ne:¬(Sum.inl (m:Int):Key)=Sum.inl (n:Int):=λz=>e (by have:=f7 z;omega);have:dZ (ki (m::l) f) (Sum.inl (n:Int))=dZ (ki l f) (Sum.inl (n:Int)):=eA ne;rw[this,sT n f l];have:(n∈m::l)↔n∈l:=by rw[aF];exact⟨λz=>z.resolve_left λq=>e q.symm,.inr⟩
   simp only[this]
theorem By{l:List Nat}{n:Nat}{f:Nat->Int}{z:Int}(h:n∈l):putK (ki l f) (Sum.inl (n:Int)) (V.int z)=ki l λx=>if x=n then z else f x:=by
 unfold putK;rw[jY,sT,if_pos h];show(if true=true then _ else _)=_;rw[if_pos rfl];unfold ki;rw[aK];refine bK λm hm=>?_;show(if(Sum.inl (m:Int):Key)=Sum.inl (n:Int)then _ else _)=_;by_cases e:m=n
 ·subst e;rw[if_pos rfl];show _=(_,V.int (if m=m then z else f m));rw[if_pos rfl]
 ·rw[if_neg λq=>e (by have:=f7 q;omega)];show _=(_,V.int (if m=n then z else f m));rw[if_neg e]
theorem Bz{l:List Nat}{n:Nat}{f:Nat->Int}(h:n∉l):putK (ki l f) (Sum.inl (n:Int)) (V.int (f n))=ki (l++[n]) f:=by rw[uK _ (by rw[sT,if_neg h])];unfold ki;rw[aW];rfl
theorem An{l:List Nat}{f g:Nat->Int}(h:∀n∈l,f n=g n):ki l f=ki l g:=by unfold ki;exact bK λn hn=>by rw[h n hn]
theorem Jc{l:List Nat}{f:Nat->Int}{i:Nat}{k:Key}{v:V}(h:(ki l f)[i]?=some (k,v)):∃n,l[i]?=some n/\k=Sum.inl (n:Int)/\v=V.int (f n):=by
 unfold ki at h;rw[a9]at h;cases e:l[i]?with
 |none=>rw[e]at h;cases h
 |some n=>
  rw[e]at h
  have:=a0 h
  exact⟨n,rfl,(congrArg (·.1) this).symm,(congrArg (·.2) this).symm⟩
theorem Gv{l:List Nat}{n:Nat}:pE (kt l) (Sum.inl (n:Int))=kt (l.filter λx=>decide (x≠n)):=by
 unfold pE kt;rw[cF];congr 1;refine fL λx _=>?_;show decide ((Sum.inl (x:Int):Key)≠Sum.inl (n:Int))=decide (x≠n);by_cases e:x=n
 ·subst e;simp
 ·have:(Sum.inl (x:Int):Key)≠Sum.inl (n:Int):=λq=>e (by have:=f7 q;omega);simp[e,this]
theorem yX{s:State}(si:SI s){ps:List Nat}(hv:∀p∈ps,p∈placesOf s.valid)(hc:∀p∈ps,∀x∈aG (graph s) p,x∈ps){kd:List (Nat×List Nat)}(N:KN s ps kd){L:List Nat}(hm:∀h∈L,h∈kd.map λx=>x.1):∀y∈jG s L,y∈ps:=λy hy=>by obtain⟨h,hh,hy⟩:=mP.mp hy;obtain⟨x,_,_,_,h1,_⟩:=N.row (hm h hh);rw[d7 si (hv _ h1)]at hy;exact hy.1.closed (S:=λy=>y∈ps) (λp q hp hq=>hc p hp q hq) h1
theorem vZ{s:State}(si:SI s){ps:List Nat}(hv:∀p∈ps,p∈placesOf s.valid){kd:List (Nat×List Nat)}(N:KN s ps kd):∀{L:List Nat},L.Nodup->(∀h∈L,h∈kd.map λx=>x.1)->(jG s L).Nodup
 |[],_,_=>cA
 |h::L,hn,hm=>by obtain⟨n1,n2⟩:=bO.mp hn;have ih:=vZ si hv N n2 λy hy=>hm y (aJ _ hy);obtain⟨x,hx,e1,e2,e3,_⟩:=N.row (hm h (aY ..));show(knot (reaching (graph s)) h++jG s L).Nodup;rw[be];refine⟨(l7 si (hv _ e3)).nodup,ih,λa ha b hb e=>?_⟩;subst e;obtain⟨q,hq,hb⟩:=mP.mp hb;obtain⟨x',hx',f1,f2,_,_⟩:=N.row (hm q (aJ _ hq));rw[<-e2]at ha;rw[<-f2]at hb;have:=N.one si hv hx hx' ha hb;exact n1 (by rw[<-e1,this,f1];exact hq)
structure Fre(nd:Graph)(hs L l:List Nat):Prop where
 un:l.Nodup
 mem:∀n,n∈l↔n∈hs/\n∉L/\fQ nd L n=0
def fj(nd:Graph)(L rs:List Nat)(j:Nat)(x:Nat):Int:=(fQ nd L x:Int)-if x∈rs.take j then 1 else 0
theorem Gw{nd:Graph}{L rs:List Nat}{j x:Nat}(hn:rs.Nodup)(hx:rs[j]?=some x):(λy=>if y=x then fj nd L rs j x-1 else fj nd L rs j y)=fj nd L rs (j+1):=by
 have et:rs.take (j+1)=rs.take j++[x]:=by rw[aT,hx];rfl
 have hnt:x∉rs.take j:=by have h5:(rs.take j++[x]).Nodup:=et▸hn.sublist (b_ _ _);intro z;exact(be.mp h5).2.2 x z x (by simp) rfl
 funext y;unfold fj;rw[et];by_cases e:y=x
 ·subst e;rw[if_pos rfl,if_neg hnt,if_pos (by simp)];omega
 ·rw[if_neg e];have:(y∈rs.take j++[x])↔y∈rs.take j:=by simp[e]
  simp only[this]
section
variable {P:Program}{w:World}{K:aj}{mg:Str->Option Value}{base:Heap}
def kZ(K:aj)(C:Addr):Sp:=λvs H Q _=>∃(q a:Addr)(D:SD)(s:State)(gs:List Nat),vs=[.ref q,.ref a]/\fG C H q D s/\bZ K H a (tx gs)/\(∀p∈gs,p∈placesOf s.valid)/\gs.length<=1024/\∀H' r,Same H H'->H r=none->H' r=some (.lst (tx (dS (graph s) gs)))->(dS (graph s) gs).Nodup->(∀p∈dS (graph s) gs,p∈placesOf s.valid)->Q (.ref r) H'
theorem sU{f C:Addr}{fd:FuncData}(F:eJ K "copying_order" "copying_order" gZ f fd)(T:gE K C)(b1:mg "len"=none)(b2:mg "min"=none)(C1:dc P w K mg base 2 "knots_among" ["store","places"] (mO K C))(C2:dc P w K mg base 2 "closure_of" ["store","goals"] (gq K C))(C3:dc P w K mg base 2 "needs_of" ["store","knots"] (sR C))(C4:dc P w K mg base 1 "needers_of" ["needs"] oQ)(C5:dc P w K mg base 1 "keys_of" ["places"] (oF K)):ck P w K mg base eY 3 f fd ["store","goals"] (kZ K C):=by
 refine F.ok lY ?_ ?_
 ·rintro vs H Q E⟨q,a,D,s,gs,rfl,_⟩;rfl
 ·rintro cdv A outer s H vs Q E hr⟨q,a,D,s,gs,rfl,S,hS,hg,hgl,k⟩;have nd:=lY.nd;have hu:=eM hr;have hr1:cT 1 _:=hr.mono (by decide);refine⟨_,aq (ba (i:=2) nd rfl (Or.inl rfl) (aS C1 hr (ai (pv 0) (ai (aS C2 hr (ai (pv 0) (ai (pv 1) au))) au)))) (aq (ba (i:=3) nd rfl (Or.inl rfl) (aS C3 hr (ai (pv 0) (ai (pv 2) au)))) (aq (ba (i:=4) nd rfl (Or.inl rfl) (aS C4 hr1 (ai (pv 3) au))) (aq (ba (i:=5) nd rfl (Or.inr rfl) cW) (aq (il (dI PassesOwn.never rfl (e9 (pv 3)) (bJ (i:=6) nd rfl (Or.inl rfl)) (aw (d9 hu (pv 5) (pv 6) (bz (lE (K:=K) rfl) (by rfl) b1 bf (ai (cp hu (pv 3) (pv 6) (λ_ _=>rfl)) au)) rfl)))) (aq (ba (i:=7) nd rfl (Or.inl rfl) (aS C5 hr1 (ai (mn (gN (own:=[("head",6)]) rfl nd (e9 (pv 5)) (ei m9 (aH gZ) rfl rfl (by decide+kernel)) (λs H C cl fp=>bJ (i:=6) nd rfl (Or.inl rfl)) (λs H C cl fp=>oU (bh fA (cp hu (pv 5) (pv 6) (λ_ _=>rfl)) bI (bC _))) (λs H C cl fp=>pv 6))) au))) (aq (ba (i:=8) nd rfl (Or.inl rfl) (bE au)) (aq (jd PassesOwn.never (bh je (bz iN (by rfl) b1 bf (ai (pv 7) au)) bI (bC _)) (aq (ba (i:=6) nd rfl (Or.inl rfl) (bz (Ga rfl) (by rfl) b2 HI (ai (pv 7) au))) (aq (dr (zC (pv 7) (pv 6) ⟨rfl,rfl,rfl,rfl⟩)) (aq (dr (gH aU cu cv fU (pv 8) (ai (cp hu (pv 2) (pv 6) (λ_ _=>rfl)) au))) (aw (dI PassesOwn.never rfl (cK (cp hu (pv 4) (pv 6) (λ_ _=>rfl))) (bJ (i:=9) nd rfl (Or.inl rfl)) (aq (d9 hu (pv 5) (pv 9) (cZ uD (cp hu (pv 5) (pv 9) (λ_ _=>rfl)) bI) rfl) (aw (bH (bh fA (cp hu (pv 5) (pv 9) (λ_ _=>rfl)) bI (bC _)) (aw (d9 hu (pv 7) (pv 9) iI rfl)) aX))))))))) (aw (aL (pv 8)))))))))),?_⟩;refine⟨_,rfl,_,rfl,_,rfl,q,a,D,s,gs,rfl,S,hS,hg,hgl,λH1 rc s1 nrc hrc=>?_⟩;have cg:∀x∈gs,x∈keys (graph s):=λx hx=>by rw[b9];exact hg x hx
  obtain⟨pa,pm⟩:=eE S.si.graph (goals:=gs) cg;have pl:=c_ S.si hg;have hv:∀p∈closure (graph s) gs,p∈placesOf s.valid:=λp hp=>by have:=jK S.si.graph cg hp;rw[b9]at this;exact this
  have hc:∀p∈closure (graph s) gs,∀x∈aG (graph s) p,x∈closure (graph s) gs:=λp hp x hx=>by obtain⟨g0,hg0,h0⟩:=(pm p).mp hp;exact(pm x).mpr ⟨g0,hg0,h0.step hx⟩
  generalize hps:closure (graph s) gs=ps at hrc pa pl hv hc;refine⟨q,rc,D,s,ps,rfl,S.same s1,.inl (bZ.of hrc),pa.nodup,hv,hc,λH2 rk lk' kd s2 nrk hrk tk N=>?_⟩;have s12:=s1.trans s2;have S2:=S.same s12;have rkar:rk≠D.ar:=λz=>by have:=(S.same s1).h3;rw[<-z,nrk]at this;cases this
  refine⟨_,rfl,_,rfl,q,rk,D,s,ps,lk',kd,rfl,S2,hv,hc,pl,hrk,rkar,tk,N,λH3 rn ln ndd s3 nrn hrn tn E=>?_⟩;have s13:=s12.trans s3;have kl:=N.len;have ndl:ndd.length=kd.length:=by rw[<-ae (f:=λx=>x.1),E.ks,ae]
  have gn:=E.kn N.nd;refine⟨_,rfl,rn,ln,ndd,rfl,hrn,tn,gn,by omega,λy hy=>⟨E.nn y hy,λh hh=>?_⟩,λH4 rr lr s4 nrr hrr tr=>?_⟩
  ·obtain⟨_,x,hx,e,_⟩:=(E.mem y hy h).mp hh;rw[E.ks];exact az.mpr ⟨x,hx,e⟩
  have hk4:H4 rk=some (.dK (rows lk')):=s4 _ _ (s3 _ _ hrk);have tk4:=(tk.same s3).same s4;have hn4:H4 rn=some (.dK (rows ln)):=s4 _ _ hrn;have tn4:=tn.same s4;have s14:=s13.trans s4;rw[E.ks]at tr;generalize hhs:kd.map (λx=>x.1)=hs at tr;have hsn:hs.Nodup:=hhs▸N.nd;have hsl:hs.length<=1024:=by rw[<-hhs,ae];omega
  have nk:ndd.map (λx=>x.1)=hs:=by rw[E.ks,hhs]
  have lnk:ln.map (λx=>x.1)=hs:=by rw[tn.keys,nk]
  intro al nal;have aln:al≠rn:=(aB hn4 nal).symm;have lnd:(ln.map λx=>x.1).Nodup:=by rw[lnk];exact hsn
  have rl:(rows ln).length=hs.length:=by unfold rows;rw[ae,<-lnk,ae]
  refine gT (d:=rn) (kvs:=rows ln) (by rw[aA aln.symm];exact hn4) (λod X h=>⟨_,rfl,h⟩) (λod i σ' H'=>∃(v6:Option V),σ'=[some (.ref q),some (.ref a),some (.ref rk),some (.ref rn),some (.ref rr),some (.ref al),v6,none,none,none]/\Same (lk H4 rn od (rows ln)) H'/\H' al=some (.dK (ki (hs.take i) λx=>(fQ ndd [] x:Nat)))) (λod=>⟨none,rfl,ql hn4 nal,by show upd (upd H4 al _) rn _ al=_;rw[aA aln,ao];rfl⟩) (λod i σ' H'⟨_,_,sm,_⟩=>sm _ _ ao) ?_ ?_
  ·rintro od i k' v σ' H' hi⟨v6,rfl,sm,hal⟩;obtain⟨x,hx,rfl,rfl⟩:=fz hi;obtain⟨y,hy,e1,e2⟩:=dM tn4 hx;have bt:=g8.lock sm;have hnl:=sm _ _ (show lk H4 rn od (rows ln) rn=_ from ao);have nx:x.2≠rn:=cn e2 hn4 (λz=>nomatch z);have hxs:hs[i]?=some x.1:=by rw[<-lnk,a9,hx];rfl
   have et:hs.take (i+1)=hs.take i++[x.1]:=by rw[aT,hxs];rfl
   have hnt:x.1∉hs.take i:=by have h5:(hs.take i++[x.1]).Nodup:=et▸hsn.sublist (b_ _ _);intro z;exact(be.mp h5).2.2 x.1 z x.1 (by simp) rfl
   have el:fQ ndd [] x.1=y.2.length:=by unfold fQ;rw[e1,dD gn (l:=y.2) (aP hy)];simp
   refine⟨_,rfl,_,rfl,rn,V.ref x.2,rfl,?_,x.2,_,rfl,bZ.of (bt _ _ e2 nx),_,rfl,_,rfl,al,_,rfl,kD.k (k:=Sum.inl (x.1:Int)) hal ?_,?_⟩
   ·have g:=cf (k:=Sum.inl (x.1:Int)) (.inr ⟨od,hnl⟩:Rd H' rn (.dK (rows ln)));rw[fF lnd hx]at g;exact g
   ·unfold ki;rw[ae];exact bW (ay (br ..) (by omega))
   ·refine⟨_,rfl,sm.new (fP hn4 nal),?_⟩;rw[ao,et,<-Bz hnt,el,show(tx y.2).length=y.2.length from ae ..]
  ·rintro od σ' H5⟨v6,rfl,sm,hal⟩;rw[rl,aZ]at hal;have s5:=sm.unlock hn4;have hal5:(upd H5 rn (.dK (rows ln))) al=some (.dK (ki hs λx=>(fQ ndd [] x:Nat))):=by rw[aA aln];exact hal
   generalize upd H5 rn (.dK (rows ln))=H6 at s5 hal5;refine mN (d:=al) (kvs:=ki hs λx=>(fQ ndd [] x:Nat)) (λk=>match k with|.inl z=>decide (fQ ndd [] z.toNat=0)|_=>false) (by show 6<10;decide) (λx=>rfl) (by unfold ki;rw[ae];omega) hal5 (λod R h=>⟨_,rfl,h⟩) (λod i k' v H' R hi sm cont=>?_) λH7 L7 s7 nL7 hq7=>?_
   ·obtain⟨n,hn,rfl,rfl⟩:=Jc hi;have hl:=sm _ _ (show lk H6 al od (ki hs λx=>(fQ ndd [] x:Nat)) al=_ from ao);refine⟨_,rfl,_,rfl,al,V.int (fQ ndd [] n:Nat),rfl,?_,rfl,_,rfl,?_⟩
    ·have g:=cf (k:=Sum.inl (n:Int)) (.inr ⟨od,hl⟩:Rd H' al (.dK (ki hs λx=>(fQ ndd [] x:Nat))));rw[sT,if_pos (aP hn)]at g;exact g
    ·have c0:R (decide (fQ ndd [] n=0)) H':=cont H' (Same.refl _);have eb:decide (V.int (fQ ndd [] n:Nat)=V.int 0)=decide (fQ ndd [] n=0):=by
      by_cases z:fQ ndd [] n=0
      ·rw[z];rfl
      ·have:¬V.int (fQ ndd [] n:Nat)=V.int 0:=λe=>z (by have:=V.int.inj e;omega);rw[decide_eq_false z,decide_eq_false this]
     rw[<-eb]at c0;exact c0
   ·have s67:=s5.trans s7;have eL:H7 L7=some (.lst (tx (hs.filter λn=>decide (fQ ndd [] n=0)))):=by rw[hq7];congr 2;unfold ki tx;rw[aK,cF,aK];rfl
    refine⟨L7,hs.filter λn=>decide (fQ ndd [] n=0),rfl,bZ.of eL,ay (bp ..) (by omega),λH8 af l0 s8 naf haf l0n l0m=>?_⟩;have s48:=s67.trans s8;have hal8:H8 al=some (.dK (ki hs λx=>(fQ ndd [] x:Nat))):=s8 _ _ (s7 _ _ hal5);have naf4:H4 af=none:=s67.free naf;have alf:al≠af:=aB (s7 _ _ hal5) naf;refine⟨aV _,λas nas=>?_⟩;have nas4:H4 as=none:=s48.free nas;have als:al≠as:=aB hal8 nas;have afs:af≠as:=aB haf nas;have sn8:=aC (o:=.lst []) nas;refine⟨λm σ' H'=>∃(L l:List Nat)(v6 v9:Option V),σ'=[some (.ref q),some (.ref a),some (.ref rk),some (.ref rn),some (.ref rr),some (.ref al),v6,some (.ref af),some (.ref as),v9]/\Same H4 H'/\H' al=some (.dK (ki hs λx=>(fQ ndd L x:Nat)))/\H' af=some (.dK (kt l))/\H' as=some (.lst (tx (jG s L)))/\E3 s ps kd ndd gs L/\Fre ndd hs L l/\m=kd.length-L.length,⟨_,[],l0,_,none,rfl,s48.trans sn8,sn8 _ _ hal8,sn8 _ _ haf,ao,E3.start hps.symm,⟨l0n,λn=>by rw[l0m n,bj];simp⟩,rfl⟩,?_⟩;rintro m σ' H'⟨L,l,v6,v9,rfl,sm,hal',haf',has',O,Fr,rfl⟩;refine⟨_,rfl,af,_,rfl,haf',_,_,rfl,rfl,_,rfl,?_⟩;have hlk:(kt l).length=l.length:=ae ..;refine qY (λhpos=>?_) λhneg=>?_
    ·have hpos:0<l.length:=by rw[hlk]at hpos;omega
     refine⟨_,λ_ _ h=>h,?_⟩;refine⟨_,rfl,af,_,_,rfl,.inl haf',Ha l,by rw[ae];exact hpos,λmz hmz hmin=>?_⟩;obtain⟨h,hh,rfl⟩:=az.mp hmz;obtain⟨h1,h2,h3⟩:=(Fr.mem h).mp hh;have h4:∀y∈kd.map (λx=>x.1),y∉L->fQ ndd L y=0->h<=y:=λy y1 y2 y3=>by have:=hmin (y:Int) (az.mpr ⟨y,(Fr.mem y).mpr ⟨hhs▸y1,y2,y3⟩,rfl⟩);omega
     have O2:=O.step S.si pa hv hc N E (hhs.symm▸h1) h2 h3 h4;have Ol:=O2.len N;rw[bD]at Ol;have Ol:L.length+1<=kd.length:=Ol;refine⟨_,rfl,af,rfl,.inl ⟨_,.inl haf'⟩,_,rfl,kt l,Sum.inl (h:Int),_,haf',rfl,by rw[lG,if_pos hh],?_⟩;rw[Gv];generalize hl1:l.filter (λx=>decide (x≠h))=l1;have s1':=sm.new (o:=.dK (kt l1)) naf4;have hal1:(upd H' af (.dK (kt l1))) al=some (.dK (ki hs λx=>(fQ ndd L x:Nat))):=by rw[aA alf];exact hal'
     have has1:(upd H' af (.dK (kt l1))) as=some (.lst (tx (jG s L))):=by rw[aA afs.symm];exact has'
     have haf1:(upd H' af (.dK (kt l1))) af=some (.dK (kt l1)):=ao;generalize upd H' af (.dK (kt l1))=G1 at s1' hal1 has1 haf1;obtain⟨x,hx,ex1,ex2,ex3,ex4⟩:=N.row (hhs.symm▸h1);have lkd:(lk'.map λx=>x.1).Nodup:=by rw[tk.keys];exact N.nd
     rcases tk4.get h with⟨c1,_⟩|⟨kx,t,c1,c2,c3,c4⟩
     ·exact absurd (hhs.symm▸h1) c1
     have et:t=knot (reaching (graph s)) h:=by rw[<-ex2,<-dD N.nd c1,<-ex1];exact dD N.nd hx
     have kl2:=vZ S.si hv N O2.un O2.mem;have kl3:=aO kl2 (yX S.si hv hc N O2.mem);have ek:jG s (L++[h])=jG s L++t:=by unfold jG;rw[lO,et];simp
     rw[ek,bD]at kl3;refine⟨_,rfl,.inl ⟨rfl,_,bZ.of has1⟩,_,rfl,_,rfl,rk,V.ref kx,rfl,?_,as,kx,_,_,rfl,rfl,has1,s1' _ _ c4,?_,?_⟩
     ·have g:=cf (k:=Sum.inl (h:Int)) (.inl (s1' _ _ hk4):Rd G1 rk (.dK (rows lk')));rw[c3]at g;exact g
     ·rw[ae,ae];exact cB (bW (by omega))
     have s2':=s1'.new (o:=.lst (tx (jG s L)++tx t)) nas4;have hal2:(upd G1 as (.lst (tx (jG s L)++tx t))) al=some (.dK (ki hs λx=>(fQ ndd L x:Nat))):=by rw[aA als];exact hal1
     have haf2:(upd G1 as (.lst (tx (jG s L)++tx t))) af=some (.dK (kt l1)):=by rw[aA afs];exact haf1
     have has2:(upd G1 as (.lst (tx (jG s L)++tx t))) as=some (.lst (tx (jG s (L++[h])))):=by rw[ao,ek];unfold tx;rw[aW]
     generalize upd G1 as (.lst (tx (jG s L)++tx t))=G2 at s2' hal2 has2 haf2;rcases tr.get h with⟨d1,_⟩|⟨nx,rs,d1,d2,d3,d4⟩
     ·exact absurd (by rw[aK];exact az.mpr ⟨h,h1,rfl⟩) d1
     have ers:rs=iX ndd hs h:=by obtain⟨z,hz,ez⟩:=az.mp d1;have e1:z=h:=congrArg (·.1) ez;have e2:iX ndd hs z=rs:=congrArg (·.2) ez;rw[<-e2,e1]
     have rsn:rs.Nodup:=by rw[ers];exact hsn.sublist cS
     refine⟨_,rfl,_,rfl,rr,V.ref nx,rfl,?_,nx,rfl,⟨_,bZ.of (s2' _ _ d4)⟩,?_⟩
     ·have g:=cf (k:=Sum.inl (h:Int)) (.inl (s2' _ _ hrr):Rd G2 rr (.dK (rows lr)));rw[d3]at g;exact g
     refine eK (K:=K) (a:=nx) (xs:=tx rs) (λj σ' G=>∃(l2:List Nat)(v9:Option V),σ'=[some (.ref q),some (.ref a),some (.ref rk),some (.ref rn),some (.ref rr),some (.ref al),some (.int (h:Nat)),some (.ref af),some (.ref as),v9]/\Same H4 G/\G al=some (.dK (ki hs (fj ndd L rs j)))/\G af=some (.dK (kt l2))/\G as=some (.lst (tx (jG s (L++[h]))))/\l2.Nodup/\∀n,n∈l2↔n∈hs/\n∉L++[h]/\fj ndd L rs j n=0) ⟨l1,v9,rfl,s2',?_,haf2,has2,?_,λn=>?_⟩ (λj σ' G _⟨_,_,_,s3',_⟩=>bZ.of (s3' _ _ d4)) ?_ ?_
     ·have e0:ki hs (λx=>(fQ ndd L x:Int))=ki hs (fj ndd L rs 0):=An λn _=>by unfold fj;simp
      rw[hal2,e0]
     ·rw[<-hl1];exact Fr.un.sublist cS
     ·rw[<-hl1,bj,Fr.mem n,aD,aE];have:fj ndd L rs 0 n=(fQ ndd L n:Nat):=by unfold fj;simp
      rw[this];constructor
      ·rintro⟨⟨z1,z2,z3⟩,z4⟩;have z4:n≠h:=by simpa using z4
       exact⟨z1,λq=>q.elim z2 z4,by omega⟩
      ·rintro⟨z1,z2,z3⟩;exact⟨⟨z1,λq=>z2 (.inl q),by omega⟩,by simpa using λq=>z2 (.inr q)⟩
     ·rintro j z σ' G hz⟨l2,v9,rfl,s3',hal3,haf3,has3,l2n,l2m⟩;obtain⟨n,hn,rfl⟩:=cD hz;have hnr:n∈iX ndd hs h:=ers▸aP hn;obtain⟨n1,n2⟩:=gp.mp hnr;have ls:=sS (nd:=ndd) (x:=n) h2 (E.lnd n);rw[if_pos n2]at ls;have nL:n∉L:=λq=>by have:=O.cl n q;omega
      have nh:n≠h:=λq=>by obtain⟨y,hy,e⟩:=az.mp (hhs.symm▸n1:n∈kd.map λx=>x.1);have e:y.1=n:=e;exact((E.at_ N.nd hy).mp (e.symm▸n2)).1 (by rw[e,q])
      have et2:rs.take (j+1)=rs.take j++[n]:=by rw[aT,hn];rfl
      have hnt:n∉rs.take j:=by have h5:(rs.take j++[n]).Nodup:=et2▸rsn.sublist (b_ _ _);intro z;exact(be.mp h5).2.2 n z n (by simp) rfl
      have ef:fj ndd L rs j n=(fQ ndd L n:Nat):=by unfold fj;rw[if_neg hnt];omega
      have fs:=Gw (nd:=ndd) (L:=L) rsn hn;have fo:∀y,y≠n->fj ndd L rs (j+1) y=fj ndd L rs j y:=λy hy=>by rw[<-fs];show(if y=n then _ else _)=_;rw[if_neg hy]
      have fn:fj ndd L rs (j+1) n=fj ndd L rs j n-1:=by rw[<-fs];show(if n=n then _ else _)=_;rw[if_pos rfl]
      have gd:lR G al (V.int (n:Nat)) (some (.int (fj ndd L rs j n))):=by have g:=cf (k:=Sum.inl (n:Int)) (.inl hal3:Rd G al (.dK (ki hs (fj ndd L rs j))));rw[sT,if_pos n1]at g;exact g
      refine⟨_,rfl,_,rfl,al,_,rfl,gd,_,_,rfl,rfl,_,rfl,_,rfl,al,_,rfl,kD.k (k:=Sum.inl (n:Int)) hal3 ?_,?_⟩
      ·unfold ki;rw[ae];exact bW (by omega)
      rw[By n1,fs];have s4':=s3'.new (o:=.dK (ki hs (fj ndd L rs (j+1)))) nal;have hal4:(upd G al (.dK (ki hs (fj ndd L rs (j+1))))) al=some (.dK (ki hs (fj ndd L rs (j+1)))):=ao;have haf4:(upd G al (.dK (ki hs (fj ndd L rs (j+1))))) af=some (.dK (kt l2)):=by rw[aA alf.symm];exact haf3
      have has4:(upd G al (.dK (ki hs (fj ndd L rs (j+1))))) as=some (.lst (tx (jG s (L++[h])))):=by rw[aA als.symm];exact has3
      generalize upd G al (.dK (ki hs (fj ndd L rs (j+1))))=G4 at s4' hal4 haf4 has4;have gd2:lR G4 al (V.int (n:Nat)) (some (.int (fj ndd L rs (j+1) n))):=by have g:=cf (k:=Sum.inl (n:Int)) (.inl hal4:Rd G4 al (.dK (ki hs (fj ndd L rs (j+1)))));rw[sT,if_pos n1]at g;exact g
      have nn2:n∉l2:=λq=>by have:=((l2m n).mp q).2.2;omega
      refine⟨_,rfl,_,rfl,al,_,rfl,gd2,rfl,_,rfl,?_⟩;refine qY (λhz0=>?_) λhz0=>?_
      ·have hz0:fj ndd L rs (j+1) n=0:=V.int.inj hz0;have l2l:l2.length<=hs.length:=aO l2n λy hy=>((l2m y).mp hy).1;refine⟨_,rfl,_,rfl,af,_,rfl,kD.k (k:=Sum.inl (n:Int)) haf4 ?_,?_⟩
       ·unfold kt;rw[ae];exact bW (by omega)
       ·refine⟨l2++[n],_,rfl,s4'.new naf4,by rw[aA alf];exact hal4,by rw[ao,ku nn2],by rw[aA afs.symm];exact has4,gz l2n nn2,λy=>?_⟩;rw[aD,aE,l2m y];by_cases e:y=n
        ·subst e;exact⟨λ_=>⟨n1,by simp[nL,nh],hz0⟩,λ_=>.inr rfl⟩
        ·rw[fo y e];exact⟨λq=>q.elim id λq=>absurd q e,.inl⟩
      ·have hz0:¬fj ndd L rs (j+1) n=0:=λq=>hz0 (by rw[q]);refine⟨l2,_,rfl,s4',hal4,haf4,has4,l2n,λy=>?_⟩;by_cases e:y=n
       ·subst e;exact⟨λq=>absurd q nn2,λq=>absurd q.2.2 hz0⟩
       ·rw[l2m y,fo y e]
     ·rintro σ' G⟨l2,v9,rfl,s3',hal3,haf3,has3,l2n,l2m⟩;have ff:∀n∈hs,fj ndd L rs (tx rs).length n=(fQ ndd (L++[h]) n:Nat):=λn hn=>by
       have ls:=sS (nd:=ndd) (x:=n) h2 (E.lnd n);unfold fj;rw[ae,aZ,ers];by_cases z:h∈aG ndd n
       ·rw[if_pos z]at ls;rw[if_pos (gp.mpr ⟨hn,z⟩)];omega
       ·rw[if_neg z]at ls;rw[if_neg λq=>z (gp.mp q).2];omega
      refine⟨_,?_,L++[h],l2,_,v9,rfl,s3',by rw[hal3,An ff],haf3,has3,O2,⟨l2n,λn=>?_⟩,rfl⟩
      ·rw[bD];show kd.length-(L.length+1)<kd.length-L.length;omega
      ·rw[l2m n];constructor
       ·rintro⟨z1,z2,z3⟩;rw[ff n z1]at z3;exact⟨z1,z2,by omega⟩
       ·rintro⟨z1,z2,z3⟩;exact⟨z1,z2,by rw[ff n z1,z3];rfl⟩
    ·have hneg:l=[]:=by rw[hlk]at hneg;exact bP (by omega)
     have est:=O.stop S.si hv hc N E λy y1 y2 y3=>by have:=(Fr.mem y).mpr ⟨hhs▸y1,y2,y3⟩;rw[hneg]at this;cases this
     refine⟨_,rfl,k _ as (s14.trans sm) (s14.free nas4) (by rw[est];exact has') (by rw[est];exact vZ S.si hv N O.un O.mem) (by rw[est];exact λp hp=>hv p (yX S.si hv hc N O.mem p hp))⟩
end
end Wk
namespace Wk
open PySem PySem.Spec PyProof.Rows L2 WkR
open Vastof (Held State load placesOf Graph graph placeSet reaching closure knot looked)
theorem E4{g:Graph}(h:CY g):n6 (keys g):=h.asc
theorem E5{s:State}(si:SI s){ps:List Nat}(hv:∀p,p∈ps↔p∈placesOf s.valid)(hc:∀p∈ps,∀x∈aG (graph s) p,x∈ps){kd nd:List (Nat×List Nat)}(N:KN s ps kd)(E:NE s kd nd){p:Nat}:p∈f_ (graph s)↔∃x∈kd,iX nd (kd.map λx=>x.1) x.1=[]/\p∈x.2:=by
 have hv1:∀p∈ps,p∈placesOf s.valid:=λp hp=>(hv p).mp hp;have kk:∀p,p∈keys (graph s)↔p∈ps:=λp=>by rw[b9,hv]
 unfold f_;show p∈(keys (graph s)).filter _↔_;rw[bj,bU,kk];have same:∀x∈kd,p∈x.2->knot (reaching (graph s)) p=x.2:=λx hx hp=>by obtain⟨b1,b2,_⟩:=N.hd x hx;rw[b2,d7 si (hv1 _ b1)]at hp;have hpp:p∈ps:=hp.1.closed (S:=λy=>y∈ps) (λp q hp hq=>hc p hp q hq) b1;rw[b2];exact ph si (hv1 _ hpp) (hv1 _ b1) hp.2 hp.1
 constructor
 ·rintro⟨h1,h2⟩;obtain⟨x,hx,hp⟩:=N.cov p h1;refine⟨x,hx,?_,hp⟩;rw[List.eq_nil_iff_forall_not_mem];intro h' hh';obtain⟨a1,a2⟩:=gp.mp hh';obtain⟨x',hx',rfl⟩:=az.mp a1;obtain⟨c1,y,hy,c2,p',hp',r,hr,hry⟩:=(E.at_ N.nd hx').mp a2;obtain⟨b1,b2,b3⟩:=N.hd x' hx';have eyx:y=x:=by have h3:=(N.hd y hy).2.1;have h4:=(N.hd x hx).2.1;exact xi c2 (by rw[h3,h4,c2])
  subst eyx;have hpp':p'∈ps:=by have:=hp';rw[d7 si (hv1 _ b1)]at this;exact this.1.closed (S:=λy=>y∈ps) (λp q hp hq=>hc p hp q hq) b1
  obtain⟨z,hz,ez⟩:=az.mp ((kk p').mpr hpp');have ez:z.1=p':=ez;have h3:=h2 z hz;rw[same y hy hp,lL,cU,bU]at h3;have hrz:r∈z.2:=by rw[<-iO si.graph hz,ez];exact hr
  rcases h3 with h3|h3
  ·rw[ez]at h3;rw[<-b2]at hp';have:=N.one si hv1 hy hx' h3 hp';exact c1 (by rw[this])
  ·have:=h3 r hrz;simp[hry]at this
 ·rintro⟨x,hx,h1,hp⟩;obtain⟨b1,b2,_⟩:=N.hd x hx;have hpp:p∈ps:=by have:=hp;rw[b2,d7 si (hv1 _ b1)]at this;exact this.1.closed (S:=λy=>y∈ps) (λp q hp hq=>hc p hp q hq) b1
  refine⟨hpp,λz hz=>?_⟩;rw[same x hx hp,lL,cU,bU];by_cases hzx:z.1∈x.2
  ·exact .inl hzx
  ·refine .inr λy hy=>?_;by_cases hyx:y∈x.2
   ·exfalso;have hzps:z.1∈ps:=(kk z.1).mp (az.mpr ⟨z,hz,rfl⟩);obtain⟨x',hx',hzx'⟩:=N.cov z.1 hzps;have e2:=(N.hd x' hx').2.1;have ne:x.1≠x'.1:=λq=>hzx (by have:x=x':=xi q (by rw[b2,e2,q]);rw[this];exact hzx');have:x'.1∈iX nd (kd.map λx=>x.1) x.1:=gp.mpr ⟨az.mpr ⟨x',hx',rfl⟩,(E.at_ N.nd hx').mpr ⟨ne,x,hx,rfl,z.1,e2▸hzx',y,by rw[iO si.graph hz];exact hy,hyx⟩⟩;rw[h1]at this;cases this
   ·simp[hyx]
theorem E6{s:State}(si:SI s):n6 (f_ (graph s)):=by unfold f_;show n6 ((keys (graph s)).filter _);exact(E4 si.graph).sublist cS
theorem Ao{s:State}(si:SI s):(f_ (graph s)).length<=1024:=by unfold f_;show((keys (graph s)).filter _).length<=_;refine ay (bp ..) ?_;rw[b9];unfold placesOf;rw[ae];exact si.valid_len
section
variable {P:Program}{w:World}{K:aj}{mg:Str->Option Value}{base:Heap}
def tQ(C:Addr):Sp:=λvs H Q _=>∃(q:Addr)(D:SD)(s:State),vs=[.ref q]/\fG C H q D s/\∀H' r,Same H H'->H' r=some (.lst (tx (f_ (graph s))))->Q (.ref r) H'
theorem w9{f C:Addr}{fd:FuncData}(F:eJ K "top_places" "top_places" mJ f fd)(T:gE K C)(b1:mg "len"=none)(b2:mg "sorted"=none)(C1:dc P w K mg base 2 "knots_among" ["store","places"] (mO K C))(C3:dc P w K mg base 2 "needs_of" ["store","knots"] (sR C))(C4:dc P w K mg base 1 "needers_of" ["needs"] oQ):ck P w K mg base eY 3 f fd ["store"] (tQ C):=by
 refine F.ok pN ?_ ?_
 ·rintro vs H Q E⟨q,D,s,rfl,_⟩;rfl
 ·rintro cdv A outer s H vs Q E hr⟨q,D,s,rfl,S,k⟩;have nd:=pN.nd;have hu:=eM hr;have hr1:cT 1 _:=hr.mono (by decide);refine⟨_,aq (ba (i:=1) nd rfl (Or.inl rfl) (aS C1 hr (ai (pv 0) (ai (cI (pv 0) rfl) au)))) (aq (ba (i:=2) nd rfl (Or.inl rfl) (aS C4 hr1 (ai (aS C3 hr (ai (pv 0) (ai (pv 1) au))) au))) (aq (ba (i:=3) nd rfl (Or.inl rfl) (bE au)) (aq (il (dI PassesOwn.never rfl (e9 (pv 1)) (bJ (i:=4) nd rfl (Or.inl rfl)) (aw (bH (bh fA (bz (lE (K:=K) rfl) (by rfl) b1 bf (ai (cp hu (pv 2) (pv 4) (λ_ _=>rfl)) au)) bI (bC _)) (aw (dr (gH aU cu cv fU (pv 3) (ai (cp hu (pv 1) (pv 4) (λ_ _=>rfl)) au)))) aX)))) (aw (aL (bz mD (by rfl) b2 ib (ai (pv 3) au))))))),?_⟩;have hv:∀p,p∈placesOf D.dh↔p∈placesOf s.valid:=S.dhv;have hv1:∀p∈placesOf D.dh,p∈placesOf s.valid:=λp hp=>(hv p).mp hp;have hc:∀p∈placesOf D.dh,∀x∈aG (graph s) p,x∈placesOf D.dh:=λp hp x hx=>(hv x).mpr (S.refv (hv1 p hp) hx);have hn:(placesOf D.dh).Nodup:=S.r1.nd;have pl:(placesOf D.dh).length<=1024:=by unfold placesOf;rw[ae];exact S.vlen
  refine⟨_,rfl,_,rfl,q,C,D.dx,_,_,rfl,S.ob,T.cl,T.n2,fc ..,q,D.ah,D,s,placesOf D.dh,rfl,S,.inr ⟨rfl,rfl⟩,hn,hv1,hc,λH2 rk lk' kd s2 nrk hrk tk N=>?_⟩;have S2:=S.same s2;have rkar:rk≠D.ar:=λz=>by have:=S.h3;rw[<-z,nrk]at this;cases this
  refine⟨_,rfl,_,rfl,q,rk,D,s,placesOf D.dh,lk',kd,rfl,S2,hv1,hc,pl,hrk,rkar,tk,N,λH3 rn ln ndd s3 nrn hrn tn E=>?_⟩;have s13:=s2.trans s3;have kl:=N.len;have ndl:ndd.length=kd.length:=by rw[<-ae (f:=λx=>x.1),E.ks,ae]
  have gn:=E.kn N.nd;refine⟨rn,ln,ndd,rfl,hrn,tn,gn,by omega,λy hy=>⟨E.nn y hy,λh hh=>?_⟩,λH4 rr lr s4 nrr hrr tr=>?_⟩
  ·obtain⟨_,x,hx,e,_⟩:=(E.mem y hy h).mp hh;rw[E.ks];exact az.mpr ⟨x,hx,e⟩
  have hk4:H4 rk=some (.dK (rows lk')):=s4 _ _ (s3 _ _ hrk);have tk4:=(tk.same s3).same s4;have s14:=s13.trans s4;rw[E.ks]at tr;have lkd:(lk'.map λx=>x.1).Nodup:=by rw[tk.keys];exact N.nd
  refine⟨aV _,λas nas=>?_⟩;have ask:as≠rk:=(aB hk4 nas).symm;have rrk:rr≠rk:=λz=>by rw[z,s3 _ _ hrk]at nrr;cases nrr
  refine gT (d:=rk) (kvs:=rows lk') (by rw[aA ask.symm];exact hk4) (λod X h=>⟨_,rfl,h⟩) (λod i σ' H'=>∃(v4:Option V)(L:List Nat),σ'=[some (.ref q),some (.ref rk),some (.ref rr),some (.ref as),v4]/\Same (lk H4 rk od (rows lk')) H'/\H' as=some (.lst (tx (jG s L)))/\L.Nodup/\(∀h∈L,h∈kd.map λx=>x.1)/\∀h,h∈L↔∃x∈kd.take i,x.1=h/\iX ndd (kd.map λx=>x.1) h=[]) (λod=>⟨none,[],rfl,ql hk4 nas,by show upd (upd H4 as _) rk _ as=_;rw[aA ask,ao];rfl,cA,by simp,by simp⟩) (λod i σ' H'⟨_,_,_,sm,_⟩=>sm _ _ ao) ?_ ?_
  ·rintro od i k' v σ' H' hi⟨v4,L,rfl,sm,has,Ln,Lm,Li⟩;obtain⟨x,hx,rfl,rfl⟩:=fz hi;obtain⟨y,hy,e1,e2⟩:=dM tk4 hx;have hyk:=aP hy;obtain⟨m1,m2,m3⟩:=N.hd y hyk;have bt:=g8.lock sm;have hnl:=sm _ _ (show lk H4 rk od (rows lk') rk=_ from ao);have nx:x.2≠rk:=cn e2 hk4 (λz=>nomatch z);have et:kd.take (i+1)=kd.take i++[y]:=by rw[aT,hy];rfl
   have hyL:y.1∉L:=λz=>by
    obtain⟨y',hy',ey',_⟩:=(Li y.1).mp z;have h5:((kd.take i).map (λx=>x.1)++[y.1]).Nodup:=by
     have h4:(kd.map λx=>x.1).take (i+1)=(kd.take i).map (λx=>x.1)++[y.1]:=by rw[<-iH,et,aW];rfl
     exact h4▸N.nd.sublist (b_ _ _)
    exact(be.mp h5).2.2 y.1 (az.mpr ⟨y',hy',ey'⟩) y.1 (by simp) rfl
   rcases tr.get y.1 with⟨d1,_⟩|⟨nx',rs,d1,d2,d3,d4⟩
   ·exact absurd (by rw[aK];exact az.mpr ⟨y.1,az.mpr ⟨y,hyk,rfl⟩,rfl⟩) d1
   have ers:rs=iX ndd (kd.map λx=>x.1) y.1:=by obtain⟨z,hz,ez⟩:=az.mp d1;have e1:z=y.1:=congrArg (·.1) ez;have e2:iX ndd (kd.map λx=>x.1) z=rs:=congrArg (·.2) ez;rw[<-e2,e1]
   refine⟨_,rfl,_,rfl,rr,V.ref nx',rfl,?_,nx',_,rfl,bZ.of (bt _ _ d4 (cn d4 hk4 (λz=>nomatch z))),rfl,_,rfl,?_⟩
   ·have g:=cf (k:=Sum.inl (x.1:Int)) (.inl (bt _ _ hrr rrk):Rd H' rr (.dK (rows lr)));rw[e1,d3]at g;rw[e1];exact g
   refine qY (λhz0=>?_) λhz0=>?_
   ·have hz0:rs=[]:=by have:=V.int.inj hz0;rw[ae]at this;exact bP (by omega)
    have L2n:=gz Ln hyL;have L2m:∀h∈L++[y.1],h∈kd.map λx=>x.1:=λh hh=>by
     rcases aD.mp hh with z|z
     ·exact Lm h z
     ·rw[aE.mp z];exact az.mpr ⟨y,hyk,rfl⟩
    have kl3:=aO (vZ S.si hv1 N L2n L2m) (yX S.si hv1 hc N L2m);have ek:jG s (L++[y.1])=jG s L++y.2:=by unfold jG;rw[lO,m2];simp
    rw[ek,bD]at kl3;refine⟨_,rfl,.inl ⟨rfl,_,bZ.of has⟩,_,rfl,_,rfl,rk,V.ref x.2,rfl,?_,as,x.2,_,_,rfl,rfl,has,bt _ _ e2 nx,?_,?_⟩
    ·have g:=cf (k:=Sum.inl (x.1:Int)) (.inr ⟨od,hnl⟩:Rd H' rk (.dK (rows lk')));rw[fF lkd hx]at g;exact g
    ·rw[ae,ae];exact cB (bW (by omega))
    ·refine⟨_,L++[y.1],rfl,sm.new (fP hk4 nas),by rw[ao,ek];unfold tx;rw[aW],L2n,L2m,λh=>?_⟩;rw[aD,aE,Li h,et];constructor
     ·rintro(⟨z,hz,e,r⟩|e)
      ·exact⟨z,aQ _ hz,e,r⟩
      ·exact⟨y,by simp,e.symm,by rw[e,<-ers,hz0]⟩
     ·rintro⟨z,hz,e,r⟩;rcases aD.mp hz with hz|hz
      ·exact .inl ⟨z,hz,e,r⟩
      ·rw[aE.mp hz]at e;exact .inr e.symm
   ·refine⟨_,L,rfl,sm,has,Ln,Lm,λh=>?_⟩;rw[Li h,et];constructor
    ·rintro⟨z,hz,e,r⟩;exact⟨z,aQ _ hz,e,r⟩
    ·rintro⟨z,hz,e,r⟩;rcases aD.mp hz with hz|hz
     ·exact⟨z,hz,e,r⟩
     ·rw[aE.mp hz]at e;exact absurd (by rw[ers,e,r];rfl) hz0
  ·rintro od σ' H5⟨v4,L,rfl,sm,has,Ln,Lm,Li⟩;have e:(rows lk').length=kd.length:=by unfold rows;rw[ae];exact tk.len
   rw[e,aZ]at Li;have s5:=sm.unlock hk4;have has5:(upd H5 rk (.dK (rows lk'))) as=some (.lst (tx (jG s L))):=by rw[aA ask];exact has
   generalize upd H5 rk (.dK (rows lk'))=H6 at s5 has5;have kn:=vZ S.si hv1 N Ln Lm;refine⟨_,rfl,as,(jG s L).map λ(n:Nat)=>(n:Int),rfl,bZ.of (by rw[has5,de]),λzs r hp hs hr'=>?_⟩;have ez:=ic hp hs kn;have et:placeSet (jG s L)=f_ (graph s):=(cb _).ext (E6 S.si) λp=>by
    rw[bA,mP,E5 S.si hv hc N E];constructor
    ·rintro⟨h,hh,hp⟩;obtain⟨x,hx,rfl,hr⟩:=(Li h).mp hh;exact⟨x,hx,hr,by rw[(N.hd x hx).2.1];exact hp⟩
    ·rintro⟨x,hx,hr,hp⟩;exact⟨x.1,(Li x.1).mpr ⟨x,hx,rfl,hr⟩,by rw[<-(N.hd x hx).2.1];exact hp⟩
   refine k _ r ((s14.trans s5).trans (aC hr')) ?_;rw[ao,ez,et,de]
theorem Gx{f C:Addr}{fd:FuncData}(F:eJ K "answer_tops" "answer_tops" lz f fd)(C1:dc P w K mg base 3 "top_places" ["store"] (tQ C)):ck P w K mg base eY 4 f fd ["store"] (i9 C .tops):=by
 refine F.ok vz ?_ ?_
 ·rintro vs H Q E⟨q,D,s,rfl,_⟩;rfl
 ·rintro cdv A outer s H vs Q E hr⟨q,D,s,rfl,S,k⟩;refine⟨_,aw (aL (cZ fB (bE (ai bI au)) (aS C1 hr (ai (pv 0) au)))),?_⟩;have e0:aR s .tops=(s,cJ (f_ (graph s))):=rfl;rw[e0]at k;refine wX (f_ (graph s)) (ay (Ao S.si) (by decide)) (λp hp R hR=>?_) λH' r sm hr'=>k.same S sm (by rw[hr',sN]);have s2:=aC (o:=.lst [.int 0]) hp;exact⟨_,rfl,q,D,s,rfl,S.same s2,λH' r sm hr'=>hR H' r sm hr'⟩
theorem E7{f C:Addr}{fd:FuncData}(F:eJ K "answer_order" "answer_order" kh f fd)(g1:GI mg "NO_REFUSAL" 0)(C1:dc P w K mg base 2 "list_refusal" ["store","places"] (dA K C))(C2:dc P w K mg base 3 "copying_order" ["store","goals"] (kZ K C)):ck P w K mg base eY 4 f fd ["store","goals"] (fZ K C .order):=by
 refine F.ok nc ?_ ?_
 ·rintro vs H Q E⟨q,a,D,s,zs,rfl,_⟩;rfl
 ·rintro cdv A outer s H vs Q E hr⟨q,a,D,s,zs,rfl,S,hS,hz,k⟩;have nd:=nc.nd;have hr2:cT 2 _:=hr.mono (by decide);refine⟨_,aq (ba (i:=2) nd rfl (Or.inl rfl) (aS C1 hr2 (ai (pv 0) (ai (pv 1) au)))) (aq (bH (bh gG (pv 2) (bw g1) (bC _)) (aw (aL (bE (ai (pv 2) au)))) aX) (aw (aL (cZ fB (bE (ai bI au)) (aS C2 hr (ai (pv 0) (ai (pv 1) au))))))),?_⟩;have e0:aR s (.order zs)=dz s zs λx=>cJ (dS (graph s) x):=rfl;rw[e0]at k;unfold dz at k;refine⟨_,rfl,_,rfl,q,a,zs,D,s,rfl,S,hS,hz,λH1 s1=>⟨_,rfl,rfl,_,rfl,?_⟩⟩;cases hc:looked s zs with
  |error e=>
   rw[hc]at k
   exact eP (λ_=>⟨_,rfl,one_le,λp hp=>k.same S (s1.trans (aC hp)) (by rw[ao];rfl)⟩) λh=>absurd (V.int.inj h) (fW hc)
  |ok x=>
   rw[hc]at k
   obtain⟨rfl,hx,hl⟩:=d_ hc
   rw[ae]at hl
   rw[<-de]at hS
   refine eP (λh=>absurd rfl h) λ_=>?_
   refine⟨one_le,λp hp=>?_⟩
   have s2:=s1.trans (aC (o:=.lst [.int 0]) hp)
   refine⟨_,rfl,_,rfl,q,a,D,s,x,rfl,S.same s2,s2.seq hS,hx,by omega,λH' r sm nr hr' on ov=>?_⟩
   have ol:=ay (aO on ov) S.pv
   refine⟨p,r,_,_,rfl,rfl,sm _ _ ao,hr',?_,λp2 hp2=>k.same S ((s2.trans sm).trans (aC hp2)) (by rw[ao,<-sN];rfl)⟩
   show 1+(tx _).length<=sizeLine
   rw[ae]
   exact cB (lK (by omega))
def Ap(K:aj)(C:Addr)(c:List Int->List Int->bQ):Sp:=λvs H Q _=>∃(q a b:Addr)(D:SD)(s:State)(zs ys:List Int),vs=[.ref q,.ref a,.ref b]/\fG C H q D s/\bZ K H a (zs.map V.int)/\zs.length<=100000/\bZ K H b (ys.map V.int)/\ys.length<=100000/\wk C q H (aR s (c zs ys)).1 (aR s (c zs ys)).2 Q
theorem BA{f C:Addr}{fd:FuncData}(F:eJ K "answer_missing" "answer_missing" iT f fd)(g1:GI mg "NO_REFUSAL" 0)(C1:dc P w K mg base 2 "list_refusal" ["store","places"] (dA K C))(C2:dc P w K mg base 3 "copying_order" ["store","goals"] (kZ K C))(C3:dc P w K mg base 2 "closure_of" ["store","goals"] (gq K C))(C4:dc P w K mg base 2 "without" ["places","others"] (l4 K)):ck P w K mg base eY 4 f fd ["store","goals","there"] (Ap K C .missing):=by
 refine F.ok kW ?_ ?_
 ·rintro vs H Q E⟨q,a,b,D,s,zs,ys,rfl,_⟩;rfl
 ·rintro cdv A outer s H vs Q E hr⟨q,a,b,D,s,zs,ys,rfl,S,hS,hz,hT,hy,k⟩;have nd:=kW.nd;have hr2:cT 2 _:=hr.mono (by decide);refine⟨_,aq (ba (i:=3) nd rfl (Or.inl rfl) (aS C1 hr2 (ai (pv 0) (ai (pv 1) au)))) (aq (bH (bh gG (pv 3) (bw g1) (bC _)) (aw (aL (bE (ai (pv 3) au)))) aX) (aq (ba (i:=3) nd rfl (Or.inl rfl) (aS C1 hr2 (ai (pv 0) (ai (pv 2) au)))) (aq (bH (bh gG (pv 3) (bw g1) (bC _)) (aw (aL (bE (ai (pv 3) au)))) aX) (aw (aL (cZ fB (bE (ai bI au)) (aS C4 hr2 (ai (aS C2 hr (ai (pv 0) (ai (pv 1) au))) (ai (aS C3 hr2 (ai (pv 0) (ai (pv 2) au))) au))))))))),?_⟩;have e0:aR s (.missing zs ys)=jC s zs ys:=rfl;rw[e0]at k;unfold jC at k;refine⟨_,rfl,_,rfl,q,a,zs,D,s,rfl,S,hS,hz,λH1 s1=>⟨_,rfl,rfl,_,rfl,?_⟩⟩;cases hc:looked s zs with
  |error e=>
   rw[hc]at k
   exact eP (λ_=>⟨_,rfl,one_le,λp hp=>k.same S (s1.trans (aC hp)) (by rw[ao];rfl)⟩) λh=>absurd (V.int.inj h) (fW hc)
  |ok x=>
   rw[hc]at k
   obtain⟨rfl,hx,hl⟩:=d_ hc
   rw[ae]at hl
   rw[<-de]at hS
   refine eP (λh=>absurd rfl h) λ_=>?_
   refine⟨_,rfl,_,rfl,q,b,ys,D,s,rfl,S.same s1,s1.seq hT,hy,λH2 s2=>⟨_,rfl,rfl,_,rfl,?_⟩⟩
   have s12:=s1.trans s2
   cases hc2:looked s ys with
   |error e=>
    simp only[hc2]at k
    exact eP (λ_=>⟨_,rfl,one_le,λp hp=>k.same S (s12.trans (aC hp)) (by rw[ao];rfl)⟩) λh=>absurd (V.int.inj h) (fW hc2)
   |ok y=>
    simp only[hc2]at k
    obtain⟨rfl,hy2,hl2⟩:=d_ hc2
    rw[ae]at hl2
    rw[<-de]at hT
    refine eP (λh=>absurd rfl h) λ_=>?_
    refine⟨one_le,λp hp=>?_⟩
    have s3:=s12.trans (aC (o:=.lst [.int 0]) hp)
    refine⟨_,rfl,_,rfl,q,a,D,s,x,rfl,S.same s3,s3.seq hS,hx,by omega,λH4 r4 s4 nr4 hr4 on ov=>?_⟩
    have s34:=s3.trans s4
    have ol:=ay (aO on ov) S.pv
    refine⟨_,rfl,_,rfl,q,b,D,s,y,rfl,S.same s34,s34.seq hT,hy2,by omega,λH5 r5 s5 nr5 hr5=>?_⟩
    have cl:=c_ S.si hy2
    refine⟨r4,r5,_,_,rfl,.inl (bZ.of (s5 _ _ hr4)),bZ.of hr5,by omega,by omega,λH6 r6 s6 nr6 hr6=>?_⟩
    refine⟨p,r6,_,_,rfl,rfl,s6 _ _ (s5 _ _ (s4 _ _ ao)),hr6,?_,λp2 hp2=>k.same S (((s34.trans s5).trans s6).trans (aC hp2)) (by rw[ao,<-sN];rfl)⟩
    show 1+(tx _).length<=sizeLine
    rw[ae]
    refine cB (lK ?_)
    have:=bp (λn=>!(closure (graph s) y).contains n) (dS (graph s) x)
    omega
end
end Wk
namespace Wk
open PySem PySem.Spec PyProof.Rows L2 WkR
open Vastof (Held State load placesOf Graph graph placeSet looked decimal textAt recordOf parcelOf Text)
theorem iB:∀(k n:Nat),n<10^(k+1)->(decimal n).length<=k+1
 |0,n,h=>by rw[gO (by omega)];simp
 |k+1,n,h=>by
  by_cases z:n<10
  ·rw[gO z];simp
  ·rw[kN z,bD];have:=iB k (n/10) (by rw[xj]at h;omega);simp;omega
theorem BB{x:Nat×Text}(h1:x.1<=1023)(h2:x.2.length<=4096):(recordOf x).length<=5000:=by unfold Ju;have a:=iB 3 x.1 (by omega);have b:=iB 3 x.2.length (by omega);simp;omega
theorem tS:∀{l:Held},(∀x∈l,x.1<=1023/\x.2.length<=4096)->(l.flatMap recordOf).length<=5000*l.length
 |[],_=>by simp
 |x::l,h=>by have h1:=h x (aY ..);have a:=BB h1.1 h1.2;have b:=tS λy hy=>h y (aJ _ hy);rw[gK,bD,bG];omega
theorem E8{t1 t2:TE}{σ:L2.St}{H:Hp}{Q:VK}(l1 l2:List Nat)(hz:l1.length+l2.length<=1000000)(h1:∀R:V->Hp->Prop,(∀H' r,Same H H'->H' r=some (.lst (tx l1))->R (.ref r) H')->t1 σ H R)(h2:∀H',Same H H'->∀R:V->Hp->Prop,(∀H2 r,Same H' H2->H2 r=some (.lst (tx l2))->R (.ref r) H2)->t2 σ H' R)(hq:∀H' r,Same H H'->H' r=some (.lst (tx (l1++l2)))->Q (.ref r) H'):BU Hw t1 t2 σ H Q:=by refine h1 _ λH1 r1 s1 e1=>h2 H1 s1 _ λH2 r2 s2 e2=>⟨r1,r2,_,_,rfl,rfl,s2 _ _ e1,e2,?_,λp hp=>hq _ p ((s1.trans s2).trans (aC hp)) (by rw[ao];unfold tx;rw[aW])⟩;rw[ae,ae];exact cB (lK (by omega))
theorem HY{n:Int}(m:Nat)(e:n=(m:Int)){te:TE}{σ:L2.St}{H:Hp}(ht:∀(H:Hp)(R:V->Hp->Prop),R (.int n) H->te σ H R):∀R:V->Hp->Prop,(∀H' r,Same H H'->H' r=some (.lst (tx [m]))->R (.ref r) H')->D5 (jX te nv) σ H R:=λR h=>by refine ht _ _ ⟨one_le,λp hp=>h _ p (aC hp) ?_⟩;rw[ao,e];rfl
section
variable {P:Program}{w:World}{K:aj}{mg:Str->Option Value}{base:Heap}
def v8(K:aj):Sp:=λvs H Q _=>∃(a b:Addr)(ps:List Nat)(lb:List (Nat×Addr))(d:Held),vs=[.ref a,.ref b]/\bZ K H a (tx ps)/\ps.length<=1024/\H b=some (.dK (rows lb))/\gF H lb d/\(placesOf d).Nodup/\(∀x∈d,x.1<=1023/\x.2.length<=4096)/\(∀p∈ps,p∈placesOf d)/\∀H' r,Same H H'->H' r=some (.lst (tx (parcelOf (ps.map λp=>(p,(textAt d p).getD [])))))->Q (.ref r) H'
theorem yY{f:Addr}{fd:FuncData}(F:eJ K "parcel_of" "parcel_of" oy f fd)(b1:mg "len"=none)(g1:GI mg "COLON" 58)(g2:GI mg "LINE_END" 10)(g3:GI mg "DOT" 46)(C1:dc P w K mg base 1 "numeral" ["number"] sv):ck P w K mg base eY 2 f fd ["places","texts"] (v8 K):=by
 refine F.ok qX ?_ ?_
 ·rintro vs H Q E⟨a,b,ps,lb,d,rfl,_⟩;rfl
 ·rintro cdv A outer s H vs Q E hr⟨a,b,ps,lb,d,rfl,hS,pl,hb,tb,dn,dk,pd,k⟩;have nd:=qX.nd;have hu:=eM hr;refine⟨_,aq (ba (i:=2) nd rfl (Or.inl rfl) (bE au)) (aq (dI PassesOwn.never rfl (cK (pv 0)) (bJ (i:=3) nd rfl (Or.inl rfl)) (aq (ba (i:=4) nd rfl (Or.inl rfl) (cp hu (pv 1) (pv 3) (λ_ _=>rfl))) (aw (dr (gH aU cu cv fU (pv 2) (ai (cZ fB (cZ fB (cZ fB (cZ fB (cZ fB (aS C1 hr (ai (pv 3) au)) (bE (ai (bw g1) au))) (aS C1 hr (ai (bz (lE (K:=K) rfl) (by rfl) b1 bf (ai (pv 4) au)) au))) (bE (ai (bw g1) au))) (pv 4)) (bE (ai (bw g2) au))) au)))))) (aq (dr (gH aU bR bS eX (pv 2) (ai (bw g3) au))) (aw (aL (pv 2))))),?_⟩;let rec_:Nat->List Nat:=λp=>recordOf (p,(textAt d p).getD []);have tin:∀p∈ps,∃t,(p,t)∈d/\(textAt d p).getD []=t:=λp hp=>by obtain⟨t,ht⟩:=b0.mp (pd p hp);exact⟨t,ht,by rw[(eg dn).mpr ht];rfl⟩
  have hlen:∀i,((ps.take i).flatMap rec_).length<=5000*(ps.take i).length:=λi=>by
   have:=tS (l:=(ps.take i).map λp=>(p,(textAt d p).getD [])) λx hx=>by obtain⟨p,hp,rfl⟩:=az.mp hx;obtain⟨t,ht,e⟩:=tin p (GP hp);show p<=1023/\((textAt d p).getD []).length<=4096;rw[e];exact dk _ ht
   rw[ae,Jm]at this;exact this
  refine⟨aV _,λr nr=>?_⟩;refine⟨_,rfl,a,rfl,⟨_,(aC nr).seq hS⟩,eK (K:=K) (a:=a) (xs:=tx ps) (λi σ' H'=>∃(v3 v4:Option V),σ'=[some (.ref a),some (.ref b),some (.ref r),v3,v4]/\Same H H'/\H' r=some (.lst (tx ((ps.take i).flatMap rec_)))) ⟨none,none,rfl,aC nr,by rw[ao];rfl⟩ (λi σ' H' _⟨_,_,_,sm,_⟩=>sm.seq hS) ?_ ?_⟩
  ·rintro i x σ' H' hx⟨v3,v4,rfl,sm,hr'⟩;obtain⟨p,hp,rfl⟩:=cD hx;have hi:i<ps.length:=(aM.mp hp).1;have hpm:=aP hp;obtain⟨t,ht,e⟩:=tin p hpm;obtain⟨k1,k2⟩:=dk _ ht;have k1:p<=1023:=k1;have k2:t.length<=4096:=k2;have d1:=iB 3 p (by omega);have d2:=iB 3 t.length (by omega);rcases tb.get p with⟨c1,_⟩|⟨la,t',c1,c2,c3,c4⟩
   ·exact absurd (pd p hpm) c1
   have et:t'=t:=by have h1:=(eg dn).mpr c1;have h2:=(eg dn).mpr ht;rw[h1]at h2;exact a0 h2
   subst et;refine⟨_,rfl,_,rfl,b,V.ref la,rfl,?_,?_⟩
   ·have g:=cf (k:=Sum.inl (p:Int)) (.inl (sm _ _ hb):Rd H' b (.dK (rows lb)));rw[c3]at g;exact g
   ·refine⟨_,rfl,.inl ⟨rfl,_,bZ.of hr'⟩,?_⟩;refine E8 (decimal p++[58]++decimal t'.length++[58]++t') [10] (by simp;omega) (λR1 q1=>?_) (λH1 s1=>HY 10 rfl λ_ _ h=>h) λH1 r1 s1 h1=>?_
    ·refine E8 (decimal p++[58]++decimal t'.length++[58]) t' (by simp;omega) (λR2 q2=>?_) (λH1 s1 R2 q2=>⟨_,rfl,q2 H1 la (Same.refl _) (s1 _ _ (sm _ _ c4))⟩) q1;refine E8 (decimal p++[58]++decimal t'.length) [58] (by simp;omega) (λR3 q3=>?_) (λH1 s1=>HY 58 rfl λ_ _ h=>h) q2;refine E8 (decimal p++[58]) (decimal t'.length) (by simp;omega) (λR4 q4=>?_) (λH1 s1 R4 q4=>?_) q3
     ·refine E8 (decimal p) [58] (by simp;omega) (λR5 q5=>?_) (λH1 s1=>HY 58 rfl λ_ _ h=>h) q4;exact⟨_,rfl,p,rfl,ay k1 (by decide),λH2 r2 s2 _ h2=>q5 H2 r2 s2 h2⟩
     ·refine⟨_,rfl,la,_,rfl,bZ.of (s1 _ _ (sm _ _ c4)),t'.length,?_,ay k2 (by decide),λH2 r2 s2 _ h2=>q4 H2 r2 s2 h2⟩;rw[ae];rfl
    ·have er:decimal p++[58]++decimal t'.length++[58]++t'++[10]=rec_ p:=by show _=recordOf (p,(textAt d p).getD []);rw[e];unfold Ju;simp
     rw[er]at h1;have hl:=hlen (i+1);have eT:ps.take (i+1)=ps.take i++[p]:=by rw[aT,hp];rfl
     have eF:(ps.take (i+1)).flatMap rec_=(ps.take i).flatMap rec_++rec_ p:=by rw[eT,lO];simp
     refine⟨r,r1,_,_,rfl,rfl,s1 _ _ hr',h1,?_,_,_,rfl,(sm.trans s1).new nr,?_⟩
     ·rw[ae,ae];rw[eF,bD]at hl;have:=br (i+1) ps;have:(6000000:Nat)<=sizeLine:=by decide
      omega
     ·rw[ao,eF];unfold tx;rw[aW]
  ·rintro σ' H'⟨v3,v4,rfl,sm,hr'⟩;have hl:=hlen (tx ps).length;rw[ae,aZ]at hr' hl;refine⟨_,rfl,.inl ⟨rfl,_,bZ.of hr'⟩,r,_,_,rfl,rfl,hr',?_,_,rfl,k _ r (sm.new nr) ?_⟩
   ·rw[ae];have:(6000000:Nat)<sizeLine:=by decide
    omega
   ·rw[ao];unfold Jv;rw[Jm];unfold tx;rw[aW];rfl
theorem E9{f C:Addr}{fd:FuncData}(F:eJ K "answer_write" "answer_write" km f fd)(T:gE K C)(b1:mg "len"=none)(g1:GI mg "NO_REFUSAL" 0)(g2:GI mg "PARCEL_LIMIT" 8192)(g3:GI mg "LONG" (-2))(C1:dc P w K mg base 2 "list_refusal" ["store","places"] (dA K C))(C2:dc P w K mg base 3 "copying_order" ["store","goals"] (kZ K C))(C3:dc P w K mg base 2 "parcel_of" ["places","texts"] (v8 K)):ck P w K mg base eY 4 f fd ["store","goals"] (fZ K C .write):=by
 refine F.ok nj ?_ ?_
 ·rintro vs H Q E⟨q,a,D,s,zs,rfl,_⟩;rfl
 ·rintro cdv A outer s H vs Q E hr⟨q,a,D,s,zs,rfl,S,hS,hz,k⟩;have nd:=nj.nd;have hr2:cT 2 _:=hr.mono (by decide);refine⟨_,aq (ba (i:=2) nd rfl (Or.inl rfl) (aS C1 hr2 (ai (pv 0) (ai (pv 1) au)))) (aq (bH (bh gG (pv 2) (bw g1) (bC _)) (aw (aL (bE (ai (pv 2) au)))) aX) (aq (ba (i:=3) nd rfl (Or.inl rfl) (aS C3 hr2 (ai (aS C2 hr (ai (pv 0) (ai (pv 1) au))) (ai (cI (pv 0) rfl) au)))) (aq (bH (bh je (bz (lE (K:=K) rfl) (by rfl) b1 bf (ai (pv 3) au)) (bw g2) (bC _)) (aw (aL (bE (ai (bw g3) au)))) aX) (aw (aL (cZ fB (bE (ai bI au)) (pv 3))))))),?_⟩;have e0:aR s (.write zs)=dz s zs (xn s):=rfl;rw[e0]at k;unfold dz at k;refine⟨_,rfl,_,rfl,q,a,zs,D,s,rfl,S,hS,hz,λH1 s1=>⟨_,rfl,rfl,_,rfl,?_⟩⟩;cases hc:looked s zs with
  |error e=>
   rw[hc]at k
   exact eP (λ_=>⟨_,rfl,one_le,λp hp=>k.same S (s1.trans (aC hp)) (by rw[ao];rfl)⟩) λh=>absurd (V.int.inj h) (fW hc)
  |ok x=>
   rw[hc]at k
   obtain⟨rfl,hx,hl⟩:=d_ hc
   rw[ae]at hl
   rw[<-de]at hS
   refine eP (λh=>absurd rfl h) λ_=>?_
   refine⟨_,rfl,_,rfl,q,a,D,s,x,rfl,S.same s1,s1.seq hS,hx,by omega,λH2 r2 s2 nr2 hr2' on ov=>?_⟩
   have s12:=s1.trans s2
   have S2:=S.same s12
   have ol:=ay (aO on ov) S.pv
   refine⟨_,rfl,q,C,D.dx,_,_,rfl,S2.ob,T.cl,T.n2,fc ..,r2,D.ah,_,D.lh,D.dh,rfl,bZ.of hr2',ol,S2.h1,S2.t1,S.r1.nd,λx hx=>?_,λp hp=>(S.dhv p).mpr (ov p hp),λH3 r3 s3 hr3=>?_⟩
   ·have:=S.si.pk x (S.si.vp x (S.r1.mem.mp hx));exact⟨this.1,this.2.1⟩
   ·have s13:=s12.trans s3;have ew:(dS (graph s) x).map (λp=>(p,(textAt D.dh p).getD []))=(dS (graph s) x).map λp=>(p,(textAt s.valid p).getD []):=bK λp _=>by rw[S.r1.textAt p]
    rw[ew]at hr3;have k:wk C q H s (xn s x) Q:=k;unfold xn at k;generalize parcelOf ((dS (graph s) x).map λp=>(p,(textAt s.valid p).getD []))=t at hr3 k;have k:wk C q H s (if e8<t.length then {value:=Vastof.LONG}else cJ t) Q:=k;refine⟨_,rfl,r3,_,rfl,bZ.of hr3,_,_,rfl,rfl,_,rfl,?_⟩;rw[ae];refine qY (λh=>?_) λh=>?_
    ·have h:(8192:Int)<(t.length:Int):=h;rw[if_pos (show e8<t.length by unfold e8;omega)]at k;exact⟨one_le,λp hp=>k.same S (s13.trans (aC hp)) (by rw[ao];rfl)⟩
    ·have h:¬(8192:Int)<(t.length:Int):=h;rw[if_neg (show ¬e8<t.length by unfold e8;omega)]at k;refine wX t (by omega) (λp hp R hR=>⟨_,rfl,hR _ r3 (Same.refl _) ((aC hp) _ _ hr3)⟩) λH' r sm hr'=>k.same S (s13.trans sm) (by rw[hr',sN])
end
end Wk
namespace WkZ
open PySem PySem.Spec PyProof.Rows
abbrev BC(h:Heap)(z TI TO T:Addr)(f:Bool):Prop:=h.get? z=some {cls:=.type "zip",dict:=none,data:=.fields #[rawInt T,.bool f,.bool false,.ref TI,.ref TO],slots:=#[]}
section
variable {prog:Program}{w:World}{A:Around}{E:Value->Shared->Prop}{s:Shared}
theorem alive{a:Addr}{o:Obj}{Q:Option Obj->Shared->Prop}(ho:s.heap.get? a=some o)(h:Q (some o) s):wpAny (model prog w) A (loadIfAlive a) Q E s:=by
 have h':Q (s.heap.get? a) s:=by rw[ho];exact h
 exact λ_ _ _=>h'
theorem Aq{z TI TO T:Addr}{f:Bool}{oT:Obj}{Q:Bool->Shared->Prop}(hz:BC s.heap z TI TO T f)(hT:s.heap.get? T=some oT)(hQ:∀h',BC h' z TI TO T true->Heap.SameBut z s.heap h'->Q false {s with heap:=h'}):wpAny (model prog w) A (Builtin.SmallTypes.ownedTupleIsFree (.ref z)) Q E s:=by
 unfold Builtin.SmallTypes.ownedTupleIsFree;refine wpAny_bind (wpAny_field hz rfl (x:=rawInt T) rfl ?_);show wpAny _ _ (loadIfAlive ((T:Int).toNat)>>=_) _ _ _;rw[cy];refine wpAny_bind (alive hT ?_);simp only[Option.isNone_some,cO,if_false];refine wpAny_bind (wpAny_field hz rfl (x:=.bool f) rfl ?_);cases f with
 |true=>
  rw[if_neg (show ¬((Value.bool true !=Value.bool true)=true)from aI)]
  exact wpAny_pure (hQ s.heap hz (Heap.SameBut.refl _ _))
 |false=>
  rw[if_pos (show(Value.bool false !=Value.bool true)=true from rfl)]
  refine wpAny_bind (wpAny_setField_rec hz (by simp) λh₃ he₃ hs₃=>?_)
  exact wpAny_pure (hQ h₃ he₃ hs₃)
theorem Dx{z TI TO i1 i2 l1 l2 T:Addr}{f:Bool}{oT:Obj}{k1 k2:Nat}{xs ys:Array Value}{x y:Value}{Q:Value->Shared->Prop}(D:ZipApart z TI TO i1 i2 l1 l2)(hz:BC s.heap z TI TO T f)(hTI:IsPair s.heap TI (.ref i1) (.ref i2))(hT:s.heap.get? T=some oT)(h1:s.heap.IsListIter i1 l1 k1)(h2:s.heap.IsListIter i2 l2 k2)(hl1:s.heap.IsList l1 xs)(hl2:s.heap.IsList l2 ys)(hx:xs[k1]?=some x)(hy:ys[k2]?=some y)(hQ:∀h',BC h' z TI TO T true->h'.IsListIter i1 l1 (k1+1)->h'.IsListIter i2 l2 (k2+1)->IsPair h' s.heap.objs.size x y->h'.objs.size=s.heap.objs.size+1->(∀c o,c≠z->c≠i1->c≠i2->s.heap.get? c=some o->h'.get? c=some o)->Q (.ref s.heap.objs.size) {s with heap:=h'}):wpAny (model prog w) A (Builtin.«zip.__next__» ⟨[.ref z],[]⟩) (λfin s'=>∃v,fin=.done (.ret v)/\Q v s') E s:=by
 show wpAny _ _ (field (.ref z) 2>>=_) _ _ _;refine wpAny_bind (wpAny_field hz rfl (x:=.bool false) rfl ?_);show wpAny _ _ (field (.ref z) 3>>=_) _ _ _;refine wpAny_bind (wpAny_field hz rfl (x:=.ref TI) rfl ?_);refine wpAny_bind (wpAny_seqItems hTI rfl ?_);show wpAny _ _ (Builtin.SmallTypes.ownedTupleIsFree (.ref z)>>=_) _ _ _;refine wpAny_bind (Aq hz hT λh₁ hz₁ hs₁=>?_);simp only[cO,if_false,<-Il,AB,tp];refine wpAny_bind (wpAny_bind (wpAny_bind (wpAny_holding ?_)));show wpAny _ _ (Builtin.SmallTypes.nextOf (.ref i1)>>=_) _ _ _;refine wpAny_bind (wpAny_nextOf_list_item (h1.extBut hs₁.extBut D.i1z) (hl1.extBut hs₁.extBut D.l1z) hx λh₂ h1₂ hs₂=>wpAny_pure (wpAny_pure ?_));refine wpAny_bind (wpAny_bind (wpAny_holding ?_));show wpAny _ _ (Builtin.SmallTypes.nextOf (.ref i2)>>=_) _ _ _;refine wpAny_bind (wpAny_nextOf_list_item ((h2.extBut hs₁.extBut D.i2z).extBut hs₂.extBut D.i12.symm) ((hl2.extBut hs₁.extBut D.l2z).extBut hs₂.extBut D.l2i1) hy λh₃ h2₃ hs₃=>wpAny_pure (wpAny_pure (wpAny_pure ?_)));refine wpAny_bind (wpAny_newTuple (items:=[x,y]) ?_ (by show 2<=sizeLine;decide));have hsz:h₃.objs.size=s.heap.objs.size:=by rw[hs₃.1,hs₂.1,hs₁.1]
 have up:∀c o,c≠z->c≠i1->c≠i2->s.heap.get? c=some o->h₃.get? c=some o:=λc o c1 c2 c3 e=>hs₃.extBut _ _ c3 (hs₂.extBut _ _ c2 (hs₁.extBut _ _ c1 e));have hz₃:BC h₃ z TI TO T true:=hs₃.extBut _ _ D.i2z.symm (hs₂.extBut _ _ D.i1z.symm hz₁);refine wpAny_pure ⟨_,rfl,?_⟩;show Q (.ref h₃.objs.size) _;have key:=hQ (h₃.push {cls:=.type "tuple",data:=.seq #[x,y]}) (Heap.get?_push_of_some _ hz₃) ((h1₂.extBut hs₃.extBut D.i12).at λo e=>Heap.get?_push_of_some _ e) (h2₃.at λo e=>Heap.get?_push_of_some _ e) (by rw[<-hsz];exact Heap.get?_push_size _ rfl) (by rw[Heap.size_push,hsz]) λc o c1 c2 c3 e=>Heap.get?_push_of_some _ (up c o c1 c2 c3 e);rw[hsz];exact key
theorem E_{z TI TO i1 i2 l1 l2 T:Addr}{f:Bool}{oT:Obj}{k1 k2:Nat}{xs ys:Array Value}{Q:Fin->Shared->Prop}(hh:A.handled=none)(D:ZipApart z TI TO i1 i2 l1 l2)(hz:BC s.heap z TI TO T f)(hTI:IsPair s.heap TI (.ref i1) (.ref i2))(hT:s.heap.get? T=some oT)(h1:s.heap.IsListIter i1 l1 k1)(h2:s.heap.IsListIter i2 l2 k2)(hl1:s.heap.IsList l1 xs)(hl2:s.heap.IsList l2 ys)(hend:xs[k1]?=none\/ys[k2]?=none)(hE:∀h' e,(∀c o,c≠z->c≠i1->c≠i2->s.heap.get? c=some o->h'.get? c=some o)->(∃o,h'.get? e=some o/\o.cls=.type "StopIteration")->E (.ref e) {s with heap:=h'}):wpAny (model prog w) A (Builtin.«zip.__next__» ⟨[.ref z],[]⟩) Q E s:=by
 show wpAny _ _ (field (.ref z) 2>>=_) _ _ _;refine wpAny_bind (wpAny_field hz rfl (x:=.bool false) rfl ?_);show wpAny _ _ (field (.ref z) 3>>=_) _ _ _;refine wpAny_bind (wpAny_field hz rfl (x:=.ref TI) rfl ?_);refine wpAny_bind (wpAny_seqItems hTI rfl ?_);show wpAny _ _ (Builtin.SmallTypes.ownedTupleIsFree (.ref z)>>=_) _ _ _;refine wpAny_bind (Aq hz hT λh₁ hz₁ hs₁=>?_);simp only[cO,if_false,<-Il,AB,tp];refine wpAny_bind (wpAny_bind (wpAny_bind (wpAny_holding ?_)));show wpAny _ _ (Builtin.SmallTypes.nextOf (.ref i1)>>=_) _ _ _;cases hx:xs[k1]?with
 |none=>
  exact wpAny_bind (wpAny_nextOf_list_end hh (h1.extBut hs₁.extBut D.i1z) (hl1.extBut hs₁.extBut D.l1z) hx λh₂ e hs₂ he=>hE h₂ e (λc o c1 c2 _ x=>hs₂ _ _ c2 (hs₁.extBut _ _ c1 x)) he)
 |some x=>
  have hy:ys[k2]?=none:=by rcases hend with h|h;rw[hx]at h;cases h;exact h
  refine wpAny_bind (wpAny_nextOf_list_item (h1.extBut hs₁.extBut D.i1z) (hl1.extBut hs₁.extBut D.l1z) hx λh₂ h1₂ hs₂=>wpAny_pure (wpAny_pure ?_))
  refine wpAny_bind (wpAny_bind (wpAny_holding ?_))
  show wpAny _ _ (Builtin.SmallTypes.nextOf (.ref i2)>>=_) _ _ _
  exact wpAny_bind (wpAny_nextOf_list_end hh ((h2.extBut hs₁.extBut D.i2z).extBut hs₂.extBut D.i12.symm) ((hl2.extBut hs₁.extBut D.l2z).extBut hs₂.extBut D.l2i1) hy λh₃ e hs₃ he=>hE h₃ e (λc o c1 c2 c3 x=>hs₃ _ _ c3 (hs₂.extBut _ _ c2 (hs₁.extBut _ _ c1 x))) he)
def Zs(h:Heap)(z TI TO i1 i2 l1 l2:Addr)(k:Nat):Prop:=IsPair h TI (.ref i1) (.ref i2)/\h.IsListIter i1 l1 k/\h.IsListIter i2 l2 k/\((IsZip h z TI TO .none/\∃a b,IsPair h TO a b)\/∃T f oT,BC h z TI TO T f/\h.get? T=some oT/\T≠z/\T≠i1/\T≠i2)
theorem Fb{z TI TO i1 i2 l1 l2:Addr}{k:Nat}{xs ys:Array Value}{x y:Value}{Q:Option Value->Shared->Prop}(D:ZipApart z TI TO i1 i2 l1 l2)(hz:Zs s.heap z TI TO i1 i2 l1 l2 k)(hl1:s.heap.IsList l1 xs)(hl2:s.heap.IsList l2 ys)(hx:xs[k]?=some x)(hy:ys[k]?=some y)(hQ:∀h',Zs h' z TI TO i1 i2 l1 l2 (k+1)->IsPair h' s.heap.objs.size x y->(∀c o,c≠z->c≠TO->c≠i1->c≠i2->s.heap.get? c=some o->h'.get? c=some o)->Q (some (.ref s.heap.objs.size)) {s with heap:=h'}):wpAny (model prog w) A (pyNext (.ref z)) Q E s:=by
 obtain⟨hTI,h1,h2,hz⟩:=hz;have lt:∀{a:Addr}{o:Obj},s.heap.get? a=some o->s.heap.objs.size≠a:=λe=>qr (Heap.lt_size e);have n1:s.heap.objs.size≠i1:=by obtain⟨_,e,_⟩:=h1;exact lt e
 have n2:s.heap.objs.size≠i2:=by obtain⟨_,e,_⟩:=h2;exact lt e
 rcases hz with⟨hz,a,b,hTO⟩|⟨T,f,oT,hz,hT,t1,t2,t3⟩
 ·exact wpAny_pyNext_zip_item D hz hTI hTO h1 h2 hl1 hl2 hx hy λh' a1 a2 a3 a4 a5 a6 a7=>hQ h' ⟨a7 _ _ D.TIz D.TITO D.TIi1 D.TIi2 hTI,a3,a4,.inr ⟨_,false,_,a1,a5,lt hz,n1,n2⟩⟩ a5 a7
 ·have hT':s.TypeIs (.ref z) "zip":=⟨_,hz,rfl⟩;unfold pyNext;exact wpAny_bind (wpAny_attempt (wpAny_callSpecial?_slot (name:=Str.ofString "__next__") hT' F.slot_zip_next (wpAny_call_entry F.slot_zip_next hT' F.entry_zip_next (Dx D hz hTI hT h1 h2 hl1 hl2 hx hy λh' a1 a2 a3 a4 a5 a6=>wpAny_pure (hQ h' ⟨a6 _ _ D.TIz D.TIi1 D.TIi2 hTI,a2,a3,.inr ⟨_,true,_,a1,a6 _ _ t1 t2 t3 hT,t1,t2,t3⟩⟩ a4 λc o c1 _ c3 c4 e=>a6 c o c1 c3 c4 e)) (F.args_zip_next_1 _))))
theorem Gy{z TI TO i1 i2 l1 l2:Addr}{k:Nat}{xs ys:Array Value}{Q:Option Value->Shared->Prop}(hh:A.handled=none)(D:ZipApart z TI TO i1 i2 l1 l2)(hz:Zs s.heap z TI TO i1 i2 l1 l2 k)(hl1:s.heap.IsList l1 xs)(hl2:s.heap.IsList l2 ys)(hend:xs[k]?=none\/ys[k]?=none)(hQ:∀h',(∀c o,c≠z->c≠TO->c≠i1->c≠i2->s.heap.get? c=some o->h'.get? c=some o)->Q none {s with heap:=h'}):wpAny (model prog w) A (pyNext (.ref z)) Q E s:=by
 obtain⟨hTI,h1,h2,hz⟩:=hz;rcases hz with⟨hz,a,b,hTO⟩|⟨T,f,oT,hz,hT,t1,t2,t3⟩
 ·exact wpAny_pyNext_zip_end hh D hz hTI hTO h1 h2 hl1 hl2 hend hQ
 ·have hT':s.TypeIs (.ref z) "zip":=⟨_,hz,rfl⟩;unfold pyNext;refine wpAny_bind (wpAny_attempt (wpAny_callSpecial?_slot (name:=Str.ofString "__next__") hT' F.slot_zip_next (wpAny_call_entry F.slot_zip_next hT' F.entry_zip_next (E_ hh D hz hTI hT h1 h2 hl1 hl2 hend λh' e hk he=>?_) (F.args_zip_next_1 _))));obtain⟨o,ho,hc⟩:=he;refine wpAny_bind (wpAny_isInstance (T:="StopIteration") (b:=true) ⟨o,ho,hc⟩ isSubtype_stop ?_);exact wpAny_pure (hQ _ λc o c1 _ c3 c4 e=>hk c o c1 c3 c4 e)
end
end WkZ
namespace WkZ
open PySem PySem.Spec PyProof.Rows
open Sem (wp)
theorem w_:typeLookup (.type "zip") "keys"=pure none:=am_miss_of_fast (by first|decide+kernel|rfl)
theorem sV:typeLookup (.type "zip") "__getattr__"=pure none:=am_miss_of_fast (by first|decide+kernel|rfl)
theorem mQ:entryFor table "zip.__getattribute__"=some Builtin.«object.__getattribute__»:=entryFor_alias (id':="object.__getattribute__") (by kernel_rfl) (by decide+kernel) (by decide+kernel) (by kernel_rfl)
theorem v_(a:Addr)(vs:Array Value)(name:Str)(u:Tok)(hmiss:typeLookup (.type "zip") name=pure none)(hname:(["__module__","__name__","__qualname__","__doc__","__annotations__"]:List Str).contains name=false)(hsz:name.length+100<=sizeLine:=by size_fits):Meets (Builtin.«object.__getattribute__» ⟨[.ref a,.str name u],[]⟩) (λA R s=>s.heap.get? a=some {cls:=.type "zip",dict:=none,data:=.fields vs,slots:=#[]}/\raisesAttr (.ref a) name A R s):=Meets.of_wp λprog w A R s hs=>by
  obtain⟨hp,g,d,tk,os⟩:=s;obtain⟨hx,hs⟩:=hs;have hT:(⟨hp,g,d,tk,os⟩:Shared).TypeIs (.ref a) "zip":=⟨_,hx,rfl⟩;unfold Builtin.«object.__getattribute__»;repeat (any_goals (first|assumption|wp_step))
  simp only[hname,cO,if_false];repeat (any_goals (first|assumption|wp_step))
  exact wpAny_raiseAttrError hs.1 hs.2 (attrMsg_fits (by decide+kernel) hsz)
section
variable {prog:Program}{w:World}{A:Around}{E:Value->Shared->Prop}
theorem Fc{s:Shared}{a:Addr}{vs:Array Value}{Q:Option Value->Shared->Prop}(hx:s.heap.get? a=some {cls:=.type "zip",dict:=none,data:=.fields vs,slots:=#[]})(hA:A.handled=none)(h:∀h' tk,(∀b ob,s.heap.get? b=some ob->h'.get? b=some ob)->Q none {s with heap:=h',toks:=tk}):wpAny (model prog w) A (getAttr? (.ref a) "keys") Q E s:=by
 obtain⟨hp,g,d,tk,os⟩:=s;have hT:∀tk',(⟨hp,g,d,tk',os⟩:Shared).TypeIs (.ref a) "zip":=λ_=>⟨_,hx,rfl⟩;have hmiss:=w_;have hname:(["__module__","__name__","__qualname__","__doc__","__annotations__"]:List Str).contains "keys"=false:=by decide+kernel
 have hsz:("keys":Str).length+100<=sizeLine:=by first|size_fits|decide+kernel
 have f1:=sub_AttributeError;have f3:=kI.lookup;have f4:=kI.bind (.ref a);have f5:=sV;unfold getAttr? getAttrBy? getAttrBy;repeat (any_goals (first|assumption|exact hT _|((with_reducible show wpAny _ _ (call (Value.builtin "zip.__getattribute__") _ _) _ _ _);refine call_meets kI (hT _) mQ (PySem.F.args_zip_getattribute_2 _ _) (v_ a vs "keys" _ hmiss hname hsz) ⟨hx,hA,λh' tk' e hx'=>?_⟩)|wp_step))
 obtain⟨t',u',he⟩:=hx'.there;show wpAny _ _ (getattributeRaised _ _ _ _ _ _ _) _ _ _;unfold getattributeRaised;repeat (any_goals (first|assumption|wp_step))
 all_goals first|exact h _ _ hx'.keeps|(dsimp only;repeat (any_goals (first|assumption|exact h _ _ hx'.keeps|wp_step)))
end
end WkZ
namespace WkZ
open PySem PySem.Spec PyProof.Rows L2
theorem Zs.mono{h h':Heap}{S z TI TO i1 i2 l1 l2:Addr}{k:Nat}(q:Zs h z TI TO i1 i2 l1 l2 k)(kp:∀c o,c≠S->h.get? c=some o->h'.get? c=some o)(hS:∃o,h'.get? S=some o)(sz:z≠S)(sI:TI≠S)(sO:TO≠S)(s1:i1≠S)(s2:i2≠S):Zs h' z TI TO i1 i2 l1 l2 k:=by
 obtain⟨a,b,c,d⟩:=q;refine⟨kp _ _ sI a,b.at λo e=>kp _ _ s1 e,c.at λo e=>kp _ _ s2 e,?_⟩;rcases d with⟨d,x,y,e⟩|⟨T,f,oT,d,e,t1,t2,t3⟩
 ·exact .inl ⟨kp _ _ sz d,x,y,kp _ _ sO e⟩
 ·by_cases z:T=S
  ·obtain⟨o,ho⟩:=hS;exact .inr ⟨T,f,o,kp _ _ sz d,by rw[z];exact ho,t1,t2,t3⟩
  ·exact .inr ⟨T,f,oT,kp _ _ sz d,kp _ _ z e,t1,t2,t3⟩
section
variable {prog:Program}{w:World}{A:Around}{E:Value->Shared->Prop}
theorem xX{R:Result->Shared->Prop}{S z TI TO i1 i2 l1 l2:Addr}{xs ys:Array Value}{res:Value}(hh:A.handled=none)(D:ZipApart z TI TO i1 i2 l1 l2)(nz:z≠S)(nI:TI≠S)(nO:TO≠S)(n1:i1≠S)(n2:i2≠S)(m1:l1≠S)(m2:l2≠S):∀(rest:List (Key×Value))(k:Nat)(acc:List (Key×Value))(ix:Int)(t:Tok)(s:Shared),xs.size=k+rest.length->acc.length+rest.length<=sizeLine->(∀(j:Nat)(q:Key×Value),rest[j]?=some q->∃u:Value,xs[k+j]?=some u/\ys[k+j]?=some q.2/\nQ q.1 u=true)->Zs s.heap z TI TO i1 i2 l1 l2 k->s.heap.IsList l1 xs->s.heap.IsList l2 ys->s.heap.DictOf (cM prog w) S acc->(∀h' tk,h'.DictOf (cM prog w) S (merged acc rest)->(∀b o,b≠S->b≠z->b≠TO->b≠i1->b≠i2->s.heap.get? b=some o->h'.get? b=some o)->R (.ok (.ret res)) {s with heap:=h',toks:=tk})->codeAny (model prog w) A (.builtin "dict.update.loop" ⟨[.ref S,.ref z,.int ix t,res],[]⟩) R s
 |[],k,acc,ix,t,s,hsz,hln,ht,hz,hl1,hl2,hm,hR=>by
  refine codeAny_builtin zD ?_;rw[Around.under_plainId nZ _];show wpAny _ A.in1 (pyNext (.ref z)>>=_) _ _ s;refine wpAny_bind (Gy (A:=A.in1) hh D hz hl1 hl2 (.inl (eV (by rw[hsz];exact aN _))) λh' he=>?_);show wpAny _ A.in1 (Builtin.Dict.addKeywords S []>>=_) _ _ _;refine wpAny_bind (wpAny_pure (wpAny_pure ?_));exact hR h' s.toks (hm.at λo e=>he _ o nz.symm nO.symm n1.symm n2.symm e) λb o _ b1 b2 b3 b4 e=>he b o b1 b2 b3 b4 e
 |q::rest,k,acc,ix,t,s,hsz,hln,ht,hz,hl1,hl2,hm,hR=>by
  obtain⟨u,hu,hv,hk⟩:=ht 0 q rfl;rw[bG]at hsz hln;refine codeAny_builtin zD ?_;rw[Around.under_plainId nZ _];show wpAny _ A.in1 (pyNext (.ref z)>>=_) _ _ s;have hSlt:S<s.heap.objs.size:=by obtain⟨o,ho,_⟩:=hm.typeIs;exact Heap.lt_size ho
  refine wpAny_bind (Fb D hz hl1 hl2 hu hv λh1 hz1 hp1 hs1=>?_);have hl11:h1.IsList l1 xs:=hl1.at λo e=>hs1 _ o D.l1z D.l1TO D.l1i1 D.l1i2 e;have hl21:h1.IsList l2 ys:=hl2.at λo e=>hs1 _ o D.l2z D.l2TO D.l2i1 D.l2i2 e;have hm1:h1.DictOf (cM prog w) S acc:=hm.at λo e=>hs1 _ o nz.symm nO.symm n1.symm n2.symm e;show wpAny _ A.in1 (holding [Value.ref s.heap.objs.size] _>>=_) _ _ _;refine wpAny_bind (wpAny_holding ?_);refine wpAny_bind (wpAny_tryCatch ?_);unfold Builtin.Dict.pairItems;refine wpAny_bind (wpAny_typeOf (T:="tuple") ⟨_,hp1,rfl⟩ ?_);rw[if_pos (by first|decide|rfl|simp)];refine wpAny_bind (wpAny_seqItems hp1 rfl (wpAny_pure ?_));show wpAny _ A.in1 (holding [u,q.2] (dictSet S u q.2)) _ _ _;refine wpAny_holding (wpAny_dictSet_pairs (knd:=cM prog w) (k:=q.1) hk hm1 (λh2 hm2 hs2=>?_) (by omega));refine wpAny_pure ⟨plainId_quiet nZ _,xX (xs:=xs) (ys:=ys) hh D nz nI nO n1 n2 m1 m2 rest (k+1) (stored acc q.1 q.2) (ix+1) 0 _ (show xs.size=k+1+rest.length by omega) ?_ (λj q' e=>?_) ?_ ?_ ?_ hm2 λh' tk hd' kk=>?_⟩
  ·have z:=stored_length_le acc q.1 q.2;omega
  ·obtain⟨u',hu',hv',hk'⟩:=ht (j+1) q' (by simpa using e);rw[show k+1+j=k+(j+1) by omega];exact⟨u',hu',hv',hk'⟩
  ·refine hz1.mono (S:=S) (λc o hc e=>hs2.extBut c o hc e) ?_ nz nI nO n1 n2;obtain⟨o,ho,_⟩:=Heap.DictOf.typeIs (s:={s with heap:=h2}) hm2;exact⟨o,ho⟩
  ·exact hl11.extBut hs2.extBut m1
  ·exact hl21.extBut hs2.extBut m2
  ·exact hR h' tk hd' λc oc h3 h4 h5 h6 h7 e=>kk c oc h3 h4 h5 h6 h7 (hs2.extBut c oc h3 (hs1 c oc h4 h5 h6 h7 e))
theorem xb{s:Shared}{z TI TO i1 i2 l1 l2:Addr}{xs ys:Array Value}{prs:List (Key×Value)}{Q:Value->Shared->Prop}(hh:A.handled=none)(D:ZipApart z TI TO i1 i2 l1 l2)(hzz:IsZip s.heap z TI TO .none)(hz:Zs s.heap z TI TO i1 i2 l1 l2 0)(hO:TO<s.heap.objs.size)(hl1:s.heap.IsList l1 xs)(hl2:s.heap.IsList l2 ys)(hsz:xs.size=prs.length)(hln:prs.length<=sizeLine)(ht:∀(j:Nat)(q:Key×Value),prs[j]?=some q->∃u:Value,xs[j]?=some u/\ys[j]?=some q.2/\nQ q.1 u=true)(h:∀h' tk,h'.DictOf (cM prog w) s.heap.objs.size (merged [] prs)->(∀b o,b≠z->b≠TO->b≠i1->b≠i2->s.heap.get? b=some o->h'.get? b=some o)->Q (.ref s.heap.objs.size) {s with heap:=h',toks:=tk}):wpAny (model prog w) A (call (.type "dict") [.ref z]) Q E s:=by
 refine callType_codes (Q₁:=λobj s₁=>obj=.ref s.heap.objs.size/\s₁={s with heap:=s.heap.push {cls:=.type "dict",data:=.dict #[]}}) PySem.F.kt_called_dict (PySem.F.kt_typeCall_dict_1 _) PySem.F.entry_dict_init (kt_code_dict_new _ ⟨rfl,rfl⟩) ?_;rintro obj s₁⟨rfl,rfl⟩;have hnew:(s.heap.push {cls:=.type "dict",data:=.dict #[]}).DictOf (cM prog w) s.heap.objs.size []:=Heap.DictOf.new s.heap;have k0:∀b o,s.heap.get? b=some o->(s.heap.push {cls:=.type "dict",data:=.dict #[]}).get? b=some o:=λb o e=>Heap.get?_push_of_some _ e;refine⟨hnew.typeIs,PySem.F.args_dict_init_2 _ _,?_⟩;unfold Builtin.«dict.__init__»;refine wpAny_bind ?_;unfold Builtin.Dict.selfAndRest;refine wpAny_bind (wpAny_notOrdered_dict hnew.typeIs ?_);show wpAny _ _ (pure (s.heap.objs.size,[Value.ref z])) _ _ _;refine wpAny_pure ?_;show wpAny _ _ (Builtin.Dict.updateFrom "dict.__init__" s.heap.objs.size (.ref z) [] .none) _ _ _;unfold Builtin.Dict.updateFrom;refine wpAny_bind (wpAny_typeOf (T:="zip") ⟨_,k0 _ _ hzz,rfl⟩ ?_);rw[if_pos (by first|decide|rfl|simp)];refine wpAny_bind (Fc (k0 _ _ hzz) hh λh1 tk1 hk1=>?_);rw[if_pos (show(none:Option Value).isNone=true from rfl)];refine wpAny_bind (wpAny_rule ?_);have kk:∀b o,s.heap.get? b=some o->h1.get? b=some o:=λb o e=>hk1 _ _ (k0 _ _ e);refine wpAny_bind (wpAny_pyIter_zip (kk _ _ hzz) ?_);have lt:∀{a:Addr}{o:Obj},s.heap.get? a=some o->a≠s.heap.objs.size:=λe=>bF (Heap.lt_size e);have hzS:=lt hzz;have hIS:=lt hz.1;have h1S:i1≠s.heap.objs.size:=by obtain⟨_,e,_⟩:=hz.2.1;exact lt e
 have h2S:i2≠s.heap.objs.size:=by obtain⟨_,e,_⟩:=hz.2.2.1;exact lt e
 have l1S:l1≠s.heap.objs.size:=by obtain⟨_,e,_⟩:=hl1;exact lt e
 have l2S:l2≠s.heap.objs.size:=by obtain⟨_,e,_⟩:=hl2;exact lt e
 have hOS:TO≠s.heap.objs.size:=bF hO;have hd1:h1.DictOf (cM prog w) s.heap.objs.size []:=hnew.at λo e=>hk1 _ _ e;have key:=xX (prog:=prog) (w:=w) (A:=A.in1) (R:=wants (λr s₂=>r=.none/\Q (.ref s.heap.objs.size) s₂) E) (S:=s.heap.objs.size) (xs:=xs) (ys:=ys) (res:=Value.none) hh D hzS hIS hOS h1S h2S l1S l2S prs 0 [] 0 0 {s with heap:=h1,toks:=tk1} (by rw[hsz,qw]) (by rw[qB,qw];exact hln) (λj q e=>by rw[qw];exact ht j q e) (hz.mono (S:=s.heap.objs.size) (λc o _ e=>kk c o e) (by obtain⟨o,ho,_⟩:=Heap.DictOf.typeIs (s:={s with heap:=h1}) hd1;exact⟨o,ho⟩) hzS hIS hOS h1S h2S) (hl1.at λo e=>kk _ _ e) (hl2.at λo e=>kk _ _ e) hd1 (λh' tk hd' k=>⟨rfl,h h' tk hd' λb o b1 b2 b3 b4 e=>k b o (lt e) b1 b2 b3 b4 (kk _ _ e)⟩);first
  |exact wpAny_pure ⟨plainId_quiet nZ _,key⟩
  |exact wpAny_bind (wpAny_pure (wpAny_pure ⟨plainId_quiet nZ _,key⟩))
end
end WkZ
namespace WkZ
open PySem PySem.Spec PyProof.Rows L2
theorem Cs{P:Program}{w:World}:∀{kvs:List (Key×V)}{us vs:List Value},cG (kvs.map λkv=>kV kv.1) us->cG (kvs.map λkv=>kv.2) vs->∃prs:List (Key×Value),KV kvs prs/\prs.length=us.length/\∀(j:Nat)(q:Key×Value),prs[j]?=some q->∃u:Value,us[j]?=some u/\vs[j]?=some q.2/\nQ q.1 u=true
 |[],us,vs,r1,r2=>by
  rw[jA]at r1 r2;cases r1;exact⟨[],.nil,rfl,λj q e=>by simp at e⟩
 |kv::kvs,us,vs,r1,r2=>by
  rw[bo]at r1 r2;cases r1 with
  |@cons _ u _ us a1 b1=>
   cases r2 with
   |@cons _ v _ vs a2 b2=>
    obtain⟨prs,r,hl,hp⟩:=Cs (P:=P) (w:=w) b1 b2
    refine⟨(kv.1,v)::prs,.cons ⟨rfl,a2⟩ r,by rw[bG,bG,hl],λj q e=>?_⟩
    cases j with
    |zero=>
     have e':(kv.1,v)=q:=a0 e
     subst e'
     exact⟨u,rfl,rfl,pG (P:=P) (w:=w) a1⟩
    |succ j=>
     obtain⟨u',e1,e2,e3⟩:=hp j q (by simpa using e)
     exact⟨u',by simpa using e1,by simpa using e2,e3⟩
def Jd(K:aj)(ta:TA):TE:=λσ H Q=>ta σ H λvs H1=>∃(a b:Addr)(kvs:List (Key×V)),vs=[.ref a,.ref b]/\bZ K H1 a (kvs.map λkv=>kV kv.1)/\bZ K H1 b (kvs.map λkv=>kv.2)/\∀p,H1 p=none->Q (.ref p) (upd H1 p (.dK (iM [] kvs)))
theorem BD{X:Cx}{e e2:Expr}{ta:TA}{p p2 pos pos2:Pos}(hcalm:X.calm=true)(hg1:Gl X "dict")(hm1:X.mg "dict"=none)(hv:bootBuiltins "dict"=some (.type "dict"))(hg:Gl X "zip")(hm:X.mg "zip"=none)(ha:PA X [e,e2] ta)(hs:starEach [e,e2] X.env=(false,eval e X.env)::starEach [e2] X.env:=by rfl)(hpl:(backTo pos2 (starEach [e2] X.env)).any (·.1)=false:=by rfl):PE X (.Call (.Name "dict" p) [.Call (.Name "zip" p2) [e,e2] [] pos2] [] pos) (Jd X.K ta):=by
 intro pins s σ H Q I h;refine wpAny_Call_Name_kw (rH I hg1 hm1 hv ?_ (by decide) (by decide));refine eU ?_ rfl rfl;show wpAny _ _ (spliced ((false,eval (.Call (.Name "zip" p2) [e,e2] [] pos2) X.env)::backTo pos (starEach [] X.env))) _ _ s;refine Calls.spliced_cons ?_;refine wpAny_Call_Name_kw (rH I hg hm CV ?_ (by decide) (by decide));refine eU (eR (ha pos2 pins s σ H _ I h) λus s1⟨vs,H1,I1,r1,q1⟩=>?_) hs hpl;obtain⟨a,b,kvs,ex,hqx,hqy,q⟩:=q1;subst ex;cases r1 with
 |cons r rr=>
  cases rr with
  |cons r' rr=>
   cases rr
   cases r
   cases r'
   obtain⟨its,rv,p1,hz1⟩:=I1.list hqx
   obtain⟨its2,rv2,p2',_⟩:=I1.list hqy
   have la:a<s1.heap.objs.size:=p1.lt
   have lb:b<s1.heap.objs.size:=p2'.lt
   refine call_zip_2 p1.isList p2'.isList λh' hz hTI hTO h1 h2 hsz hk=>?_
   refine Calls.spliced_nil ?_
   obtain⟨prs,rel,hl,hp⟩:=Cs (P:=X.prog) (w:=X.w) rv rv2
   have I2:Inv X pins σ H1 {s1 with heap:=h'}:=I1.kept (t':=s1.toks) hk
   have lk:kvs.length=prs.length:=rel.length
   have hln:prs.length<=sizeLine:=by rw[<-lk,<-ae (f:=λkv:Key×V=>kV kv.1)];exact hz1
   refine xb (s:={s1 with heap:=h'}) (prs:=prs) (I1.ok.hd hcalm) (PySem.W.ktu_apart s1.heap.objs.size a b la lb) hz ⟨hTI,h1,h2,.inl ⟨hz,_,_,hTO⟩⟩ (Heap.lt_size hTO) (p1.isList.at λo e=>hk _ o e) (p2'.isList.at λo e=>hk _ o e) (by simp[hl]) hln (λj q' e=>?_) λh'' tk hd' k=>?_
   ·obtain⟨u,e1,e2,e3⟩:=hp j q' e;exact⟨u,by simpa using e1,by simpa using e2,e3⟩
   ·have hm:(h'.objs.size==sysModules)=false:=beq_eq_false_iff_ne.mpr (qr I2.big);have hlen:(iM [] kvs).length<=sizeLine:=by refine ay (k4 kvs []) ?_;rw[qB,qw,lk];exact hln
    have hge:s1.heap.objs.size<=h'.objs.size:=by rw[hsz];omega
    refine⟨.ref h'.objs.size,upd H1 h'.objs.size (.dK (iM [] kvs)),I1.laid (t':=tk) (h':=h'') (λc o e=>?_) hge (show fS X.prog X.w _ _ _ (.dK (iM [] kvs))from⟨hlen,hm,merged [] prs,KV.merge rel .nil,hd'⟩),rfl,q _ (I1.hok.fresh hge)⟩;have hc:c<s1.heap.objs.size:=Heap.lt_size e;exact k c o (bF (bB hc (zd _ 4))) (bF (bB hc (zd _ 3))) (bF hc) (bF (bB hc (zd _ 1))) (hk c o e)
end WkZ
namespace Wk
open PySem PySem.Spec PyProof.Rows L2 WkR WkZ
open Vastof (Held State load placesOf admitted Answer distinct)
theorem brnn{b:Bool}{A B:Prop}(h1:b=true->A)(h2:b=false->B):if(!!b)=true then A else B:=by rw[Bool.not_not];exact ED h1 h2
theorem wa:∀(l2 l1:List (Nat×Addr)),((l1++l2).map λx=>x.1).Nodup->iM (rows l1) (rows l2)=rows (l1++l2)
 |[],l1,_=>by rw[cP];rfl
 |x::l2,l1,h=>by
  show iM (putK (rows l1) (Sum.inl (x.1:Int)) (.ref x.2)) (rows l2)=_;have hx:x.1∉l1.map λx=>x.1:=λz=>by rw[aW,bo]at h;exact(be.mp h).2.2 x.1 z x.1 (aY ..) rfl
  rw[gU];unfold dput;rw[if_neg hx,wa l2 (l1++[(x.1,x.2)]) (by simpa using h)];simp
def qp(s:State)(m:Held):State×Answer:=if m.any (λx=>decide (1023<x.1))=true then cX s Fy else if distinct (placesOf m)=false then cX s Vastof.TWICE else if m.any (λx=>decide (4096<x.2.length))=true then cX s Vastof.LONG else match admitted s m with
  |.error k=>cX s k
  |.ok y=>(y.1,cJ y.2)
theorem Ct{H:Hp}:∀{las:List Addr}{m:Held},Paired (λ(la:Addr)(x:Nat×List Nat)=>H la=some (.lst (tx x.2))) las m->gF H ((placesOf m).zip las) m
 |_,_,.nil=>.nil
 |_,_,.cons h t=>.cons ⟨rfl,h⟩ (Ct t)
theorem HZ{H:Hp}{las:List Addr}{m:Held}(h:Paired (λ(la:Addr)(x:Nat×List Nat)=>H la=some (.lst (tx x.2))) las m):las.length=m.length:=lN h
section
variable {P:Program}{w:World}{K:aj}{mg:Str->Option Value}{base:Heap}
def rB(K:aj)(C:Addr):Sp:=λvs H Q _=>∃(q a b:Addr)(D:SD)(s:State)(m:Held)(las:List Addr),vs=[.ref q,.ref a,.ref b]/\fG C H q D s/\bZ K H a (tx (placesOf m))/\bZ K H b (las.map V.ref)/\Paired (λ(la:Addr)(x:Nat×List Nat)=>H la=some (.lst (tx x.2))) las m/\m.length<=4000/\wk C q H (qp s m).1 (qp s m).2 Q
theorem wb{f C:Addr}{fd:FuncData}(F:eJ K "admit_texts" "admit_texts" gR f fd)(b1:mg "len"=none)(b2:mg "all"=none)(b3:mg "set"=none)(b4:mg "any"=none)(b5:mg "dict"=none)(b6:mg "zip"=none)(g1:GI mg "PLACE" (-1))(g2:GI mg "TWICE" (-3))(g3:GI mg "LONG" (-2))(g4:GI mg "TEXT_LIMIT" 4096)(C1:dc P w K mg base 1 "is_place" ["number"] jV)(C2:dc P w K mg base 5 "admit" ["store","batch"] (uu C)):ck P w K mg base eY 6 f fd ["store","places","texts"] (rB K C):=by
 refine F.ok oA ?_ ?_
 ·rintro vs H Q E⟨q,a,b,D,s,m,las,rfl,_⟩;rfl
 ·rintro cdv A outer s H vs Q E hr⟨q,a,b,D,s,m,las,rfl,S,ha,hb,pr,ml,k⟩;have nd:=oA.nd;have hr1:cT 1 _:=hr.mono (by decide);refine⟨_,aq (bH (jj (fh (bz (yh rfl) (by rfl) b2 yG (ai (gN (own:=[("place",4)]) rfl nd (cK (pv 1)) (ei lA (aH gR) rfl rfl (by decide+kernel)) (λs H C cl fp=>bJ (i:=4) nd rfl (Or.inl rfl)) (λs H C cl fp=>eD) (λs H C cl fp=>aS C1 hr1 (ai (pv 4) au))) au)))) (aw (aL (bE (ai (bw g1) au)))) aX) (aq (bH (bh uE (bz xI (by rfl) b1 bf (ai (iL (yw rfl) (by rfl) b3 yF (ai (pv 1) au)) au)) (bz (lE (K:=K) rfl) (by rfl) b1 bf (ai (pv 1) au)) (bC _)) (aw (aL (bE (ai (bw g2) au)))) aX) (aq (bH (fh (bz (yg rfl) (by rfl) b4 yH (ai (gN (own:=[("text",3)]) rfl nd (cK (pv 2)) (ei lA (aH gR) rfl rfl (by decide+kernel)) (λs H C cl fp=>bJ (i:=3) nd rfl (Or.inl rfl)) (λs H C cl fp=>eD) (λs H C cl fp=>mi je (bz (lE (K:=K) rfl) (by rfl) b1 bf (ai (pv 3) au)) (bw g4) (bC _))) au))) (aw (aL (bE (ai (bw g3) au)))) aX) (aw (aL (aS C2 hr (ai (pv 0) (ai (BD rfl (by rfl) b5 Gd (by rfl) b6 (ai (pv 1) (ai (pv 2) au))) au))))))),?_⟩;have ll:las.length=m.length:=HZ pr;have pml:(placesOf m).length=m.length:=ae ..;unfold qp at k;refine⟨_,rfl,a,rfl,⟨_,ha⟩,λL hL=>lF ((placesOf m).map λn=>V.bl (decide (n<=1023))) (by simp[tx]) (by rw[ae,pml];omega) hL ha (λi x y H' R hx hy sm cont=>?_) iA λH1 s1 hq1=>?_⟩
  ·obtain⟨n,hn,rfl⟩:=cD hx;obtain⟨n',hn',rfl⟩:=cD hy;rw[hn]at hn';cases hn';refine⟨rfl,_,rfl,(n:Int),rfl,?_⟩;have e:decide (0<=(n:Int)/\(n:Int)<=1023)=decide (n<=1023):=by
    by_cases z:n<=1023
    ·rw[decide_eq_true z];simp;omega
    ·rw[decide_eq_false z];simp;omega
   rw[e];exact cont H' (Same.refl _)
  ·refine⟨L,(placesOf m).map λn=>decide (n<=1023),rfl,bZ.of (by rw[hq1,aK];rfl),_,rfl,?_⟩;have e1:((placesOf m).map λn=>decide (n<=1023)).all id=!m.any λx=>decide (1023<x.1):=by
    unfold placesOf;rw[aK,Fu,List.not_any_eq_all_not];congr 1;funext x;by_cases z:x.1<=1023
    ·have:¬1023<x.1:=by omega
     simp[z,this]
    ·have:1023<x.1:=by omega
     simp[z,this]
   rw[e1];refine brnn (λh1=>?_) λh1=>?_
   ·rw[if_pos h1]at k;exact⟨one_le,λp hp=>k.same S (s1.trans (aC hp)) (by rw[ao];rfl)⟩
   ·rw[if_neg (by rw[h1];exact aI)]at k;have ha1:=s1.seq ha;refine⟨_,rfl,a,(placesOf m).map λ(n:Nat)=>(n:Int),rfl,by rw[<-de];exact ha1,?_,λq2 hq2=>?_⟩
    ·rw[ae,pml];show _<4096;omega
    refine⟨q2,_,rfl,ao,λu hu1 hu2=>?_⟩;have s2:=s1.trans (aC (o:=Be P w q2 ((placesOf m).map λ(n:Nat)=>(n:Int))) hq2);refine⟨_,rfl,a,_,rfl,s2.seq ha,_,_,rfl,rfl,_,rfl,?_⟩;rw[ae]at hu1 hu2⊢;have hdi:(u=(placesOf m).length)↔distinct (placesOf m)=true:=by rw[hu2,j4,gC]
    refine qY (λh2=>?_) λh2=>?_
    ·have h2:(u:Int)<((placesOf m).length:Nat):=h2;have h3:distinct (placesOf m)=false:=by
      cases z:distinct (placesOf m)with
      |false=>rfl
      |true=>have:=hdi.mpr z;omega
     rw[if_pos h3]at k;exact⟨one_le,λp hp=>k.same S (s2.trans (aC hp)) (by rw[ao];rfl)⟩
    ·have h2:¬(u:Int)<((placesOf m).length:Nat):=h2;have h3:distinct (placesOf m)=true:=hdi.mp (by omega);rw[if_neg (by rw[h3];exact λz=>nomatch z)]at k;refine⟨_,rfl,b,rfl,⟨_,s2.seq hb⟩,λL3 hL3=>lF (m.map λx=>V.bl (decide (4096<x.2.length))) (by simp[ll]) (by rw[ae,ll];omega) hL3 (s2.seq hb) (λi x y H' R hx hy sm cont=>?_) iA λH3 s3 hq3=>?_⟩
     ·obtain⟨la,hla,rfl⟩:=cD hx;obtain⟨r,hr',rfl⟩:=cD hy;obtain⟨r2,hr2,e2⟩:=dM pr hla;rw[hr']at hr2;cases hr2;refine⟨rfl,_,rfl,la,_,rfl,bZ.of (sm _ _ (s2 _ _ e2)),_,_,rfl,rfl,?_⟩;have e:decide ((4096:Int)<((tx r.2).length:Nat))=decide (4096<r.2.length):=by
       rw[show(tx r.2).length=r.2.length from ae ..];by_cases z:4096<r.2.length
       ·rw[decide_eq_true z];simp;omega
       ·rw[decide_eq_false z];simp;omega
      have c0:R (V.bl (decide (4096<r.2.length))) H':=cont H' (Same.refl _);rw[<-e]at c0;exact c0
     ·have s13:=s2.trans s3;refine⟨L3,m.map λx=>decide (4096<x.2.length),rfl,bZ.of (by rw[hq3,aK];rfl),_,rfl,?_⟩;have e3:(m.map λx=>decide (4096<x.2.length)).any id=m.any λx=>decide (4096<x.2.length):=by rw[xg];rfl
      rw[e3];refine ED (λh4=>?_) λh4=>?_
      ·rw[if_pos h4]at k;exact⟨one_le,λp hp=>k.same S (s13.trans (aC hp)) (by rw[ao];rfl)⟩
      ·rw[if_neg (by rw[h4];exact aI)]at k;have zk:((placesOf m).zip las).map (λx=>x.1)=placesOf m:=List.map_fst_zip (by rw[ll,pml];exact aN _);have zv:((placesOf m).zip las).map (λx=>x.2)=las:=List.map_snd_zip (by rw[ll,pml];exact aN _);have hn:(placesOf m).Nodup:=gC.mp h3;refine⟨_,rfl,_,rfl,_,rfl,a,b,rows ((placesOf m).zip las),rfl,?_,?_,λbd hbd=>?_⟩
       ·have:(rows ((placesOf m).zip las)).map (λkv=>kV kv.1)=tx (placesOf m):=by unfold rows tx;rw[aK,<-zk,aK,zk];rfl
        rw[this];exact s13.seq ha
       ·have:(rows ((placesOf m).zip las)).map (λkv=>kv.2)=las.map V.ref:=by
         unfold rows;rw[aK];conv=>rhs;rw[<-zv,aK]
         rfl
        rw[this];exact s13.seq hb
       ·have em:iM [] (rows ((placesOf m).zip las))=rows ((placesOf m).zip las):=wa ((placesOf m).zip las) [] (by rw[qC,zk];exact hn);rw[em];have s4:=s13.trans (aC (o:=.dK (rows ((placesOf m).zip las))) hbd);have S4:=S.same s4;have S3:=S.same s13;have B4:z9 _ D bd ((placesOf m).zip las) m:=⟨ao,(Ct pr).same s4,⟨hn,λx hx=>?_⟩,(aB S3.h1 hbd).symm,(aB S3.h2 hbd).symm,(aB S3.h3 hbd).symm⟩
        ·refine⟨q,bd,D,s,_,m,rfl,S4,B4,λe he H5 r s5 nr hr5=>?_,λs' new hok H5 r D' S5 ea eb ec ed ee ef b3 nr hr5=>?_⟩
         ·simp only[he]at k;exact k.same S (s4.trans s5) (by rw[hr5];rfl)
         ·simp only[hok]at k;exact k _ r D' S5 (FK.after s4 (FK.of3 S4.h1 S4.h2 S4.h3 b3)) (by rw[hr5,sN])
        ·rw[gJ]at h1 h4;have z1:=h1 x hx;have z2:=h4 x hx;simp at z1 z2;exact⟨z1,z2⟩
end
end Wk
namespace Wk
open PySem PySem.Spec PyProof.Rows L2 WkR WkZ
open Vastof (Held State load placesOf admitted Answer distinct ruleOf records renamedAll told renamed)
theorem Cu(r:List (Nat×Nat))(n:Nat):told r n=(nm r n).getD n:=by
 unfold Vastof.told nm;cases r.find? λx=>x.1==n with
 |none=>rfl
 |some x=>rfl
theorem Fd{r:List (Nat×Nat)}(h:∀x∈r,x.1<=1000000000000000000){n:Nat}(hn:1000000000000000000<n):nm r n=none:=by
 unfold nm;cases e:r.find? λx=>x.1==n with
 |none=>rfl
 |some x=>
  have h1:=h x (fI e)
  have h2:=AE e
  have h3:x.1=n:=by simpa using h2
  omega
theorem Fe{r:List (Nat×Nat)}(h:∀x∈r,x.1<=1000000000000000000)(n:Nat):told r n=(nm r (uT n)).getD n:=by
 rw[Cu];by_cases hn:n<=10000000000000000000
 ·have:uT n=n:=by unfold uT;omega
  rw[this]
 ·have:uT n=10000000000000000000:=by unfold uT;omega
  rw[this,Fd h (by omega),Fd h (by omega)]
theorem pT{α β:Type}{F G:α->β->Prop}:∀{l:List α}{m:List β},Paired F l m->(∀x y,x∈l->F x y->G x y)->Paired G l m
 |_,_,.nil,_=>.nil
 |_,_,.cons h t,k=>.cons (k _ _ (aY ..) h) (pT t λx y hx=>k x y (aJ _ hx))
section
variable {P:Program}{w:World}{K:aj}{mg:Str->Option Value}{base:Heap}
def Ff(K:aj)(C:Addr):Sp:=λvs H Q _=>∃(q a b:Addr)(D:SD)(s:State)(t:List Nat)(zs:List Int),vs=[.ref q,.ref a,.ref b]/\fG C H q D s/\bZ K H a (tx t)/\bZ K H b (zs.map V.int)/\zs.length<=1000/\(∀z∈zs,z<=1000000000000000000)/\wk C q H (aR s (.read t zs)).1 (aR s (.read t zs)).2 Q
theorem Gz{f C CR:Addr}{fd:FuncData}(F:eJ K "answer_read" "answer_read" gS f fd)(TR:Gf K CR)(b1:mg "len"=none)(g1:GI mg "PARCEL_LIMIT" 8192)(g2:GI mg "LONG" (-2))(g3:GI mg "RULE" (-11))(g4:GI mg "FORM" (-10))(C1:dc P w K mg base 2 "is_rule" ["rule"] (z7 K))(C2:dc P w K mg base 4 "parcel_records" ["parcel"] (nq K CR))(C3:dc P w K mg base 1 "rule_names" ["rule"] (tN K))(C4:dc P w K mg base 4 "renamed_text" ["text","names"] (xS K))(C5:dc P w K mg base 6 "admit_texts" ["store","places","texts"] (rB K C)):ck P w K mg base eY 7 f fd ["store","parcel","rule"] (Ff K C):=by
 refine F.ok oB ?_ ?_
 ·rintro vs H Q E⟨q,a,b,D,s,t,zs,rfl,_⟩;rfl
 ·rintro cdv A outer s H vs Q E hr⟨q,a,b,D,s,t,zs,rfl,S,ha,hb,zl,zb,k⟩;have nd:=oB.nd;have hu:=eM hr;have hr1:cT 1 _:=hr.mono (by decide);have hr2:cT 2 _:=hr.mono (by decide);have hr4:cT 4 _:=hr.mono (by decide);refine⟨_,aq (bH (bh je (bz (lE (K:=K) rfl) (by rfl) b1 bf (ai (pv 1) au)) (bw g1) (bC _)) (aw (aL (bE (ai (bw g2) au)))) aX) (aq (bH (jj (fh (aS C1 hr2 (ai (pv 2) au)))) (aw (aL (bE (ai (bw g3) au)))) aX) (aq (ba (i:=3) nd rfl (Or.inl rfl) (aS C2 hr4 (ai (pv 1) au))) (aq (bH (gI (x9 (pv 3))) (aw (aL (bE (ai (bw g4) au)))) aX) (aq (ba (i:=4) nd rfl (Or.inr rfl) (aS C3 hr1 (ai (pv 2) au))) (aq (qG (i:=5) (own:=[("record",7)]) rfl nd rfl rfl (um rfl rfl rfl (by decide+kernel)) (cK (pv 3)) (ei lB (aH gS) rfl rfl (by decide+kernel)) (λs H C cl fp=>bJ (i:=7) nd rfl (Or.inl rfl)) (λs H C cl fp=>eD) (λs H C cl fp=>Ei hu (pv 4) (sA (K:=K) rfl (pv 7) rfl) (sA (K:=K) rfl (pv 7) rfl) ⟨rfl,rfl,rfl,rfl⟩)) (aq (qG (i:=6) (own:=[("record",7)]) rfl nd rfl rfl (um rfl rfl rfl (by decide+kernel)) (cK (pv 3)) (ei lB (aH gS) rfl rfl (by decide+kernel)) (λs H C cl fp=>bJ (i:=7) nd rfl (Or.inl rfl)) (λs H C cl fp=>eD) (λs H C cl fp=>aS C4 hr4 (ai (sA (K:=K) rfl (pv 7) rfl) (ai (pv 4) au)))) (aw (aL (aS C5 hr (ai (pv 0) (ai (pv 5) (ai (pv 6) au)))))))))))),?_⟩;have e0:aR s (.read t zs)=nG s t zs:=rfl;rw[e0]at k;unfold nG at k;refine⟨_,rfl,a,_,rfl,ha,_,_,rfl,rfl,_,rfl,?_⟩;rw[show(tx t).length=t.length from ae ..];refine qY (λh1=>?_) λh1=>?_
  ·have h1:(8192:Int)<(t.length:Nat):=h1;rw[if_pos (show e8<t.length by unfold e8;omega)]at k;exact⟨one_le,λp hp=>k.same S (aC hp) (by rw[ao];rfl)⟩
  ·have h1:¬(8192:Int)<(t.length:Nat):=h1;rw[if_neg (show ¬e8<t.length by unfold e8;omega)]at k;refine⟨_,rfl,b,zs,rfl,hb,by omega,λH1 s1=>⟨_,rfl,?_⟩⟩;cases hc:ruleOf zs with
   |none=>
    simp only[hc]at k
    exact iE ⟨one_le,λp hp=>k.same S (s1.trans (aC hp)) (by rw[ao];rfl)⟩
   |some r=>
    simp only[hc]at k
    obtain⟨er,rn⟩:=zI hc
    have rl:2*r.length<=1000:=by rw[er,vQ]at zl;exact zl
    have rb:∀x∈r,x.1<=1000000000000000000/\x.2<=1000000000000000000:=λx hx=>by have i1:=zb (x.1:Int) (by rw[er];exact pC.mpr ⟨x,hx,by simp⟩);have i2:=zb (x.2:Int) (by rw[er];exact pC.mpr ⟨x,hx,by simp⟩);omega
    refine gx ?_
    refine⟨_,rfl,a,t,rfl,s1.seq ha,by omega,λhn H2 s2=>?_,λl hl l5 lt H2 p s2 hp=>?_⟩
    ·simp only[hn]at k;refine⟨_,rfl,_,rfl,?_⟩;exact iE ⟨one_le,λp hp=>k.same S ((s1.trans s2).trans (aC hp)) (by rw[ao];rfl)⟩
    ·simp only[hl]at k;have s12:=s1.trans s2;refine⟨_,rfl,_,rfl,?_⟩;refine gx ?_;rw[er]at hb;refine⟨_,rfl,b,r,rfl,s12.seq hb,by omega,rn,λH3 d s3 nd3 hd3=>?_⟩;have s13:=s12.trans s3;obtain⟨xs,hx1,hx2⟩:=hp.same s3;have xl:xs.length=l.length:=lN hx2;have k:wk C q H (qp s (renamedAll r l)).1 (qp s (renamedAll r l)).2 Q:=k;have ml:(renamedAll r l).length=l.length:=by unfold nP;exact ae ..
     have mp:placesOf (renamedAll r l)=l.map λx=>told r x.1:=by unfold placesOf nP;rw[aK];rfl
     refine⟨_,rfl,p,rfl,⟨_,bZ.of hx1⟩,λL4 nL4=>lF (tx (placesOf (renamedAll r l))) (by rw[mp];simp[tx,xl]) (by rw[ae,xl];omega) nL4 (bZ.of hx1) (λi x y H' R hx hy sm cont=>?_) iA λH4 s4 hq4=>?_⟩
     ·obtain⟨xa,hxa,rfl⟩:=cD hx;obtain⟨n,hn,rfl⟩:=cD hy;obtain⟨rc,hrc,dx,ta,e,nta,hxo,hta⟩:=dM hx2 hxa;rw[mp,a9,hrc]at hn;have hn:told r rc.1=n:=a0 hn;refine⟨rfl,_,rfl,d,rfl,.inl ⟨_,.inl (sm _ _ hd3)⟩,_,rfl,xa,CR,dx,_,_,rfl,sm _ _ hxo,TR.cl,TR.n1,zY ..,_,rfl,xa,CR,dx,_,_,rfl,sm _ _ hxo,TR.cl,TR.n1,zY ..,_,cf (k:=Sum.inl (rc.1:Int)) (.inl (sm _ _ hd3)),?_⟩;rw[q0];have e2:((nm r rc.1).map λm=>V.int (m:Nat)).getD (V.int (rc.1:Nat))=V.int (n:Nat):=by rw[<-hn,Cu];cases nm r rc.1<;>rfl
      rw[e2];exact cont H' (Same.refl _)
     ·have s14:=s13.trans s4;have hx14:H4 p=some (.lst (xs.map V.ref)):=s4 _ _ hx1;have hq5:bZ K H4 p (xs.map V.ref):=bZ.of hx14;refine⟨_,rfl,p,rfl,⟨_,hq5⟩,λL5 nL5=>yP (n:=xs.length) (item:=λi x=>(xs.map V.ref)[i]?=some x) (λi H'=>∃las:List Addr,Same H4 H'/\H' L5=some (.lst (las.map V.ref))/\(∀la∈las,la≠L5)/\Paired (λ(la:Addr)(x:Nat×List Nat)=>H' la=some (.lst (tx x.2))) las ((renamedAll r l).take i)) ⟨[],aC nL5,ao,by simp,.nil⟩ (λi H'⟨_,sm,_⟩=>?_) ?_ λH5⟨las,s5,hL5,nla,pr⟩=>?_⟩
      ·have sq:bZ K H' p (xs.map V.ref):=sm.seq hq5;refine⟨λh=>⟨_,V.ref (xs[i]'h),sq,?_⟩,λh=>⟨_,sq,?_⟩,λx H7 h y=>⟨y.1,y.2 _ sq⟩⟩
       ·rw[a9,bu h];rfl
       ·rw[ae,h];exact aN _
      ·rintro i x H' hi hx⟨las,sm,hL5,nla,pr⟩;obtain⟨xa,hxa,rfl⟩:=cD hx;obtain⟨rc,hrc,dx,ta,e,nta,hxo,hta⟩:=dM hx2 hxa;have hrm:=aP hrc;have s4':=s4.trans sm;refine⟨rfl,zV ⟨_,rfl,xa,CR,dx,_,_,rfl,s4' _ _ hxo,TR.cl,TR.n2,Gg ..,_,rfl,ta,d,rc.2,r,rfl,bZ.of (s4' _ _ hta),?_,s4' _ _ hd3,λx hx=>(rb x hx).2,λH6 la s6 nla6 hla6=>?_⟩⟩
       ·have:=lt rc hrm;omega
       ·have lal:las.length=((renamedAll r l).take i).length:=lN pr;have lal2:las.length<=2000:=by rw[lal,fe,ml];omega
        have neL:la≠L5:=λz=>by rw[z,hL5]at nla6;cases nla6
        refine⟨_,s6 _ _ hL5,?_,las++[la],(sm.trans s6).new nL5,by rw[ao,aW];rfl,λy hy=>?_,?_⟩
        ·rw[ae];exact bW (by omega)
        ·rcases aD.mp hy with z|z
         ·exact nla y z
         ·rw[aE.mp z];exact neL
        ·have et:(renamedAll r l).take (i+1)=(renamedAll r l).take i++[(told r rc.1,renamed (told r) rc.2)]:=by rw[aT];unfold nP;rw[a9,hrc];rfl
         rw[et];refine Paired.snoc (pT pr λy x hy e=>?_) ?_
         ·rw[aA (nla y hy)];exact s6 _ _ e
         ·rw[aA neL,hla6,A2 (nm r) (told r) rc.2 (Fe λx hx=>(rb x hx).1)]
      ·rw[jB (by rw[ml,xl];exact aN _)]at pr;have s15:=s14.trans s5;refine⟨_,rfl,_,rfl,_,rfl,q,L4,L5,D,s,renamedAll r l,las,rfl,S.same s15,bZ.of (s5 _ _ hq4),bZ.of hL5,pr,by rw[ml];omega,?_⟩;exact λH6 r6 D6 S6 f6 hr6=>k H6 r6 D6 S6 (FK.after s15 f6) hr6
end
end Wk
namespace Wk
open PySem
open Vastof (Held State load placesOf Graph graph placeSet reaching closure knot looked above textAt admitted Answer fresh validPlace ready ordered)
theorem wc{s:State}(si:SI s){ps:List Nat}(hv:∀p∈ps,p∈placesOf s.valid)(hc:∀p∈ps,∀x∈aG (graph s) p,x∈ps):∀(k:Nat)(todo listed:List Nat),(∀p∈todo,p∈ps/\p∉listed)->listed.Nodup->(∀y∈listed,y∈ps)->(∀y∈listed,∀z,Reach (graph s) y z->Reach (graph s) z y->z∈listed)->(ordered (graph s) (reaching (graph s)) k todo listed).Nodup/\∀y∈ordered (graph s) (reaching (graph s)) k todo listed,y∈ps
 |0,todo,listed,_,h2,h3,_=>⟨h2,h3⟩
 |k+1,todo,listed,h1,h2,h3,h4=>by
  unfold Vastof.ordered;cases hf:todo.find? λp=>ready (graph s) (reaching (graph s)) listed p with
  |none=>exact⟨h2,h3⟩
  |some p=>
   have hp:=fI hf
   obtain⟨p1,p2⟩:=h1 p hp
   have mk:∀y,y∈knot (reaching (graph s)) p↔Reach (graph s) p y/\Reach (graph s) y p:=λy=>d7 si (hv p p1)
   refine wc si hv hc k _ _ (λy hy=>?_) ?_ (λy hy=>?_) λy hy z r1 r2=>?_
   ·obtain⟨a1,a2⟩:=bj.mp hy;have a2:y∉knot (reaching (graph s)) p:=by simpa using a2
    refine⟨(h1 y a1).1,λz=>?_⟩;rcases aD.mp z with z|z
    ·exact(h1 y a1).2 z
    ·exact a2 z
   ·rw[be];refine⟨h2,(l7 si (hv p p1)).nodup,λa ha b hb e=>?_⟩;subst e;obtain⟨r1,r2⟩:=(mk a).mp hb;exact p2 (h4 a ha p r2 r1)
   ·rcases aD.mp hy with z|z
    ·exact h3 y z
    ·exact((mk y).mp z).1.closed (S:=λy=>y∈ps) (λp q hp hq=>hc p hp q hq) p1
   ·rcases aD.mp hy with q|q
    ·exact aQ _ (h4 y q z r1 r2)
    ·obtain⟨q1,q2⟩:=(mk y).mp q;exact bN _ ((mk z).mpr ⟨q1.trans r1,r2.trans q2⟩)
theorem xY{s:State}(si:SI s){gs:List Nat}(hg:∀p∈gs,p∈placesOf s.valid):(dS (graph s) gs).length<=1024:=by
 have cg:∀x∈gs,x∈keys (graph s):=λx hx=>by rw[b9];exact hg x hx
 obtain⟨pa,pm⟩:=eE si.graph (goals:=gs) cg;have hv:∀p∈closure (graph s) gs,p∈placesOf s.valid:=λp hp=>by have:=jK si.graph cg hp;rw[b9]at this;exact this
 have hc:∀p∈closure (graph s) gs,∀x∈aG (graph s) p,x∈closure (graph s) gs:=λp hp x hx=>by obtain⟨g0,hg0,h0⟩:=(pm p).mp hp;exact(pm x).mpr ⟨g0,hg0,h0.step hx⟩
 obtain⟨h1,h2⟩:=wc si hv hc (closure (graph s) gs).length (closure (graph s) gs) [] (λp hp=>⟨hp,by simp⟩) cA (by simp) (by simp);exact ay (aO h1 h2) (c_ si hg)
theorem places_len{s:State}(si:SI s):(placesOf s.valid).length<=1024:=by unfold placesOf;rw[ae];exact si.valid_len
theorem xZ{s:State}(si:SI s):(graph s).length<=1024:=by
 have h2:(graph s).length=s.valid.length:=by unfold eB;rw[ae]
 rw[h2];exact si.valid_len
theorem Cv{s s':State}{l:Held}{new:List Nat}(h:SI s)(hb:yp l)(ha:admitted s l=.ok (s',new)):new.length<=1024:=by obtain⟨_,_,_,_,_,e,_⟩:=jg h hb ha;rw[e];refine jL (cb _).nodup λx hx=>?_;rw[bA]at hx;obtain⟨t,ht⟩:=b0.mp hx;exact(hb.ok _ (iP.mp ht).1).1
theorem GA(a:Answer):(kG a).length=a.list.length+1:=by unfold kG;rw[bG,ae]
theorem rC{s:State}{z:Int}{f:Nat->Answer}{n:Nat}(h:∀x∈placesOf s.valid,(f x).list.length<=n):(f9 s z f).2.list.length<=n:=by
 unfold f9;cases hc:validPlace s z with
 |error e=>exact aV _
 |ok x=>exact h x (jW hc).2
theorem oR{s:State}{zs:List Int}{f:List Nat->Answer}{n:Nat}(h:∀x:List Nat,(∀p∈x,p∈placesOf s.valid)->(f x).list.length<=n):(dz s zs f).2.list.length<=n:=by
 unfold dz;cases hc:looked s zs with
 |error e=>exact aV _
 |ok x=>exact h x (d_ hc).2.1
theorem Fg{s:State}(si:SI s)(c:bQ):(aR s c).2.list.length<=9000:=by
 have up:∀{n:Nat},n<=1024->n<=9000:=λh=>ay h (by decide);cases c with
 |room n=>
  simp only[aR]
  split
  ·exact aV _
  split<;>exact aV _
 |add p t=>
  show(qx s p t).2.list.length<=_
  unfold qx
  split
  ·exact aV _
  split<;>exact aV _
 |stage p t=>
  show(ma s p t).2.list.length<=_
  unfold ma
  split
  ·exact aV _
  split
  ·exact aV _
  split<;>exact aV _
 |commit=>
  show(kC s).2.list.length<=_
  unfold kC
  split
  ·exact aV _
  ·rename_i y hy;obtain⟨s',new⟩:=y;exact up (Cv si ⟨cq si.sa,si.sk⟩ hy)
 |drop=>exact aV _
 |get z=>
  refine rC λx hx=>?_
  show((textAt s.valid x).getD []).length<=_
  cases e:textAt s.valid x with
  |none=>exact aV _
  |some t=>
   have:=(si.pk _ (si.vp _ ((eg (cq si.va)).mp e))).2.1
   exact ay this (by decide)
 |pinned z=>
  show(match me z with
   |none=>cX s Fy
   |some x=>match textAt s.pins x with
    |some t=>(s,cJ t)
    |none=>cX s Vastof.ABSENT).2.list.length<=_
  cases me z with
  |none=>exact aV _
  |some x=>
   cases e:textAt s.pins x with
   |none=>simp only[e];exact aV _
   |some t=>
    simp only[e]
    have:=(si.pk _ ((eg (cq si.pa)).mp e)).2.1
    exact ay this (by decide)
 |counts=>show 3<=9000;decide
 |valid=>exact up (places_len si)
 |refs z=>exact rC λx hx=>up (ay (uX si.graph x) (xZ si))
 |referrers z=>
  refine rC λx hx=>?_
  show(((graph s).filter _).map _).length<=_
  rw[ae]
  exact up (ay (bp ..) (xZ si))
 |closure g=>exact oR λx hx=>up (c_ si hx)
 |above g=>exact oR λx hx=>up (pb si x)
 |knot z=>
  refine rC λx hx=>?_
  show(knot (reaching (graph s)) x).length<=_
  rw[pf si hx]
  exact up (ay (bp ..) (c_ si (by simpa using hx)))
 |order g=>exact oR λx hx=>up (xY si hx)
 |tops=>exact up (Ao si)
 |take l=>
  show(nE s l).2.list.length<=_
  unfold nE
  cases hc:looked s l with
  |error e=>exact aV _
  |ok x=>
   show(if _ then _ else _:State×Answer).2.list.length<=_
   split
   ·exact aV _
   ·refine up (ay (aO (cb x).nodup λy hy=>?_) (places_len si));exact(d_ hc).2.1 y (bA.mp hy)
 |sweep l=>
  show(md s l).2.list.length<=_
  unfold md
  cases hc:looked s l with
  |error e=>exact aV _
  |ok x=>exact up (ay (bp ..) (places_len si))
 |lose l=>
  show(nF s l).2.list.length<=_
  unfold nF
  cases hc:looked s l with
  |error e=>exact aV _
  |ok x=>exact up (pb si x)
 |freed z l=>
  show(match validPlace s z with
   |.error k=>cX s k
   |.ok x=>dz s l λy=>cJ ((closure (graph s) [x]).filter λz=>!(closure (graph s) y).contains z)).2.list.length<=_
  cases hc:validPlace s z with
  |error e=>exact aV _
  |ok x=>exact oR λy hy=>up (ay (bp ..) (c_ si (by simpa using(jW hc).2)))
 |missing g h=>
  show(jC s g h).2.list.length<=_
  unfold jC
  cases hc:looked s g with
  |error e=>exact aV _
  |ok x=>
   show(match looked s h with
    |.error k=>cX s k
    |.ok y=>(s,cJ ((dS (graph s) x).filter λp=>!(closure (graph s) y).contains p))).2.list.length<=_
   cases looked s h with
   |error e=>exact aV _
   |ok y=>exact up (ay (bp ..) (xY si (d_ hc).2.1))
 |write g=>
  refine oR λx hx=>?_
  unfold xn
  show(if _ then _ else _:Answer).list.length<=_
  split
  ·exact aV _
  ·rename_i h;unfold e8 at h;show(Jv _).length<=_;omega
 |read t r=>
  show(nG s t r).2.list.length<=_
  unfold nG
  split
  ·exact aV _
  ·split
   ·exact aV _
   ·split
    ·exact aV _
    ·rename_i l hl;show(qp s (nP _ l)).2.list.length<=_;unfold qp;split
     ·exact aV _
     ·rename_i h1;split
      ·exact aV _
      ·rename_i h2;split
       ·exact aV _
       ·rename_i h3;split
        ·exact aV _
        ·rename_i y hy;obtain⟨s',new⟩:=y;refine up (Cv si ⟨gC.mp (by simpa using h2),λx hx=>?_⟩ hy);simp at h1 h3;exact⟨h1 _ _ hx,h3 _ _ hx⟩
end Wk
namespace Wk
open PySem PySem.Spec PyProof.Rows L2 WkR WkZ
open Vastof (Held State)
theorem jH{a b:Int}(h:a≠b):¬V.int a=V.int b:=λz=>h (V.int.inj z)
section
variable {P:Program}{w:World}{K:aj}{mg:Str->Option Value}{base:Heap}
def Fh(K:aj)(C:Addr):Sp:=λvs H Q _=>∃(q:Addr)(D:SD)(s:State)(c:Int)(k:bQ),vs=[.ref q,.int c]/\fG C H q D s/\((c=3/\k=.commit)\/(c=4/\k=.drop)\/(c=7/\k=.counts)\/(c=8/\k=.valid)\/(c=15/\k=.tops))/\wk C q H (aR s k).1 (aR s k).2 Q
theorem GB{f C:Addr}{fd:FuncData}(F:eJ K "answer_bare" "answer_bare" lC f fd)(g0:GI mg "COMMIT" 3)(g1:GI mg "DROP" 4)(g2:GI mg "COUNTS" 7)(g3:GI mg "VALID" 8)(C0:dc P w K mg base 6 "answer_commit" ["store"] (i9 C .commit))(C1:dc P w K mg base 1 "answer_drop" ["store"] (i9 C .drop))(C2:dc P w K mg base 2 "answer_counts" ["store"] (i9 C .counts))(C3:dc P w K mg base 1 "answer_valid" ["store"] (i9 C .valid))(C4:dc P w K mg base 4 "answer_tops" ["store"] (i9 C .tops)):ck P w K mg base eY 7 f fd ["store","call"] (Fh K C):=by
 refine F.ok vE ?_ ?_
 ·rintro vs H Q E⟨q,D,s,c,k,rfl,_⟩;rfl
 ·rintro cdv A outer s H vs Q E hr⟨q,D,s,c,k,rfl,S,hk,kk⟩;have hr1:cT 1 _:=hr.mono (by decide);have hr2:cT 2 _:=hr.mono (by decide);have hr4:cT 4 _:=hr.mono (by decide);have hr6:cT 6 _:=hr.mono (by decide);refine⟨_,aq (bH (bh fA (pv 1) (bw g0) (bC _)) (aw (aL (aS C0 hr6 (ai (pv 0) au)))) aX) (aq (bH (bh fA (pv 1) (bw g1) (bC _)) (aw (aL (aS C1 hr1 (ai (pv 0) au)))) aX) (aq (bH (bh fA (pv 1) (bw g2) (bC _)) (aw (aL (aS C2 hr2 (ai (pv 0) au)))) aX) (aq (bH (bh fA (pv 1) (bw g3) (bC _)) (aw (aL (aS C3 hr1 (ai (pv 0) au)))) aX) (aw (aL (aS C4 hr4 (ai (pv 0) au))))))),?_⟩;rcases hk with⟨rfl,rfl⟩|⟨rfl,rfl⟩|⟨rfl,rfl⟩|⟨rfl,rfl⟩|⟨rfl,rfl⟩
  ·exact⟨_,rfl,rfl,_,rfl,wQ rfl ⟨_,rfl,q,D,s,rfl,S,kk⟩⟩
  ·exact⟨_,rfl,rfl,_,rfl,i8 (jH (by decide)) ⟨_,rfl,rfl,_,rfl,wQ rfl ⟨_,rfl,q,D,s,rfl,S,kk⟩⟩⟩
  ·exact⟨_,rfl,rfl,_,rfl,i8 (jH (by decide)) ⟨_,rfl,rfl,_,rfl,i8 (jH (by decide)) ⟨_,rfl,rfl,_,rfl,wQ rfl ⟨_,rfl,q,D,s,rfl,S,kk⟩⟩⟩⟩
  ·exact⟨_,rfl,rfl,_,rfl,i8 (jH (by decide)) ⟨_,rfl,rfl,_,rfl,i8 (jH (by decide)) ⟨_,rfl,rfl,_,rfl,i8 (jH (by decide)) ⟨_,rfl,rfl,_,rfl,wQ rfl ⟨_,rfl,q,D,s,rfl,S,kk⟩⟩⟩⟩⟩
  ·exact⟨_,rfl,rfl,_,rfl,i8 (jH (by decide)) ⟨_,rfl,rfl,_,rfl,i8 (jH (by decide)) ⟨_,rfl,rfl,_,rfl,i8 (jH (by decide)) ⟨_,rfl,rfl,_,rfl,i8 (jH (by decide)) ⟨_,rfl,q,D,s,rfl,S,kk⟩⟩⟩⟩⟩
def Ar(K:aj)(C:Addr):Sp:=λvs H Q _=>∃(q:Addr)(D:SD)(s:State)(c z:Int)(k:bQ),vs=[.ref q,.int c,.int z]/\fG C H q D s/\((c=0/\k=(.room z))\/(c=5/\k=(.get z))\/(c=6/\k=(.pinned z))\/(c=9/\k=(.refs z))\/(c=10/\k=(.referrers z))\/(c=13/\k=(.knot z)))/\wk C q H (aR s k).1 (aR s k).2 Q
theorem we{f C:Addr}{fd:FuncData}(F:eJ K "answer_with_number" "answer_with_number" gj f fd)(g0:GI mg "ROOM" 0)(g1:GI mg "GET" 5)(g2:GI mg "PINNED" 6)(g3:GI mg "REFS" 9)(g4:GI mg "REFERRERS" 10)(C0:dc P w K mg base 2 "answer_room" ["store","n"] (EU C))(C1:dc P w K mg base 3 "answer_get" ["store","p"] (i_ C .get))(C2:dc P w K mg base 2 "answer_pinned" ["store","p"] (i_ C .pinned))(C3:dc P w K mg base 3 "answer_refs" ["store","p"] (i_ C .refs))(C4:dc P w K mg base 3 "answer_referrers" ["store","p"] (i_ C .referrers))(C5:dc P w K mg base 4 "answer_knot" ["store","p"] (i_ C .knot)):ck P w K mg base eY 5 f fd ["store","call","number"] (Ar K C):=by
 refine F.ok nA ?_ ?_
 ·rintro vs H Q E⟨q,D,s,c,z,k,rfl,_⟩;rfl
 ·rintro cdv A outer s H vs Q E hr⟨q,D,s,c,z,k,rfl,S,hk,kk⟩;have hr2:cT 2 _:=hr.mono (by decide);have hr3:cT 3 _:=hr.mono (by decide);have hr4:cT 4 _:=hr.mono (by decide);refine⟨_,aq (bH (bh fA (pv 1) (bw g0) (bC _)) (aw (aL (aS C0 hr2 (ai (pv 0) (ai (pv 2) au))))) aX) (aq (bH (bh fA (pv 1) (bw g1) (bC _)) (aw (aL (aS C1 hr3 (ai (pv 0) (ai (pv 2) au))))) aX) (aq (bH (bh fA (pv 1) (bw g2) (bC _)) (aw (aL (aS C2 hr2 (ai (pv 0) (ai (pv 2) au))))) aX) (aq (bH (bh fA (pv 1) (bw g3) (bC _)) (aw (aL (aS C3 hr3 (ai (pv 0) (ai (pv 2) au))))) aX) (aq (bH (bh fA (pv 1) (bw g4) (bC _)) (aw (aL (aS C4 hr3 (ai (pv 0) (ai (pv 2) au))))) aX) (aw (aL (aS C5 hr4 (ai (pv 0) (ai (pv 2) au))))))))),?_⟩;rcases hk with⟨rfl,rfl⟩|⟨rfl,rfl⟩|⟨rfl,rfl⟩|⟨rfl,rfl⟩|⟨rfl,rfl⟩|⟨rfl,rfl⟩
  ·exact⟨_,rfl,rfl,_,rfl,wQ rfl ⟨_,rfl,_,rfl,q,D,s,z,rfl,S,kk⟩⟩
  ·exact⟨_,rfl,rfl,_,rfl,i8 (jH (by decide)) ⟨_,rfl,rfl,_,rfl,wQ rfl ⟨_,rfl,_,rfl,q,D,s,z,rfl,S,kk⟩⟩⟩
  ·exact⟨_,rfl,rfl,_,rfl,i8 (jH (by decide)) ⟨_,rfl,rfl,_,rfl,i8 (jH (by decide)) ⟨_,rfl,rfl,_,rfl,wQ rfl ⟨_,rfl,_,rfl,q,D,s,z,rfl,S,kk⟩⟩⟩⟩
  ·exact⟨_,rfl,rfl,_,rfl,i8 (jH (by decide)) ⟨_,rfl,rfl,_,rfl,i8 (jH (by decide)) ⟨_,rfl,rfl,_,rfl,i8 (jH (by decide)) ⟨_,rfl,rfl,_,rfl,wQ rfl ⟨_,rfl,_,rfl,q,D,s,z,rfl,S,kk⟩⟩⟩⟩⟩
  ·exact⟨_,rfl,rfl,_,rfl,i8 (jH (by decide)) ⟨_,rfl,rfl,_,rfl,i8 (jH (by decide)) ⟨_,rfl,rfl,_,rfl,i8 (jH (by decide)) ⟨_,rfl,rfl,_,rfl,i8 (jH (by decide)) ⟨_,rfl,rfl,_,rfl,wQ rfl ⟨_,rfl,_,rfl,q,D,s,z,rfl,S,kk⟩⟩⟩⟩⟩⟩
  ·exact⟨_,rfl,rfl,_,rfl,i8 (jH (by decide)) ⟨_,rfl,rfl,_,rfl,i8 (jH (by decide)) ⟨_,rfl,rfl,_,rfl,i8 (jH (by decide)) ⟨_,rfl,rfl,_,rfl,i8 (jH (by decide)) ⟨_,rfl,rfl,_,rfl,i8 (jH (by decide)) ⟨_,rfl,_,rfl,q,D,s,z,rfl,S,kk⟩⟩⟩⟩⟩⟩
def Fj(K:aj)(C:Addr):Sp:=λvs H Q _=>∃(q a:Addr)(D:SD)(s:State)(c:Int)(zs:List Int)(k:bQ),vs=[.ref q,.int c,.ref a]/\fG C H q D s/\bZ K H a (zs.map V.int)/\zs.length<=100000/\((c=11/\k=(.closure zs))\/(c=12/\k=(.above zs))\/(c=14/\k=(.order zs))\/(c=16/\k=(.take zs))\/(c=17/\k=(.sweep zs))\/(c=18/\k=(.lose zs))\/(c=21/\k=(.write zs)))/\wk C q H (aR s k).1 (aR s k).2 Q
theorem yZ{f C:Addr}{fd:FuncData}(F:eJ K "answer_with_list" "answer_with_list" hC f fd)(g0:GI mg "CLOSURE" 11)(g1:GI mg "ABOVE" 12)(g2:GI mg "ORDER" 14)(g3:GI mg "TAKE" 16)(g4:GI mg "SWEEP" 17)(g5:GI mg "LOSE" 18)(C0:dc P w K mg base 3 "answer_closure" ["store","goals"] (fZ K C .closure))(C1:dc P w K mg base 3 "answer_above" ["store","goals"] (fZ K C .above))(C2:dc P w K mg base 4 "answer_order" ["store","goals"] (fZ K C .order))(C3:dc P w K mg base 4 "answer_take" ["store","places"] (fZ K C .take))(C4:dc P w K mg base 3 "answer_sweep" ["store","roots"] (fZ K C .sweep))(C5:dc P w K mg base 3 "answer_lose" ["store","places"] (fZ K C .lose))(C6:dc P w K mg base 4 "answer_write" ["store","goals"] (fZ K C .write)):ck P w K mg base eY 5 f fd ["store","call","places"] (Fj K C):=by
 refine F.ok pz ?_ ?_
 ·rintro vs H Q E⟨q,a,D,s,c,zs,k,rfl,_⟩;rfl
 ·rintro cdv A outer s H vs Q E hr⟨q,a,D,s,c,zs,k,rfl,S,ha,hz,hk,kk⟩;have hr3:cT 3 _:=hr.mono (by decide);have hr4:cT 4 _:=hr.mono (by decide);refine⟨_,aq (bH (bh fA (pv 1) (bw g0) (bC _)) (aw (aL (aS C0 hr3 (ai (pv 0) (ai (pv 2) au))))) aX) (aq (bH (bh fA (pv 1) (bw g1) (bC _)) (aw (aL (aS C1 hr3 (ai (pv 0) (ai (pv 2) au))))) aX) (aq (bH (bh fA (pv 1) (bw g2) (bC _)) (aw (aL (aS C2 hr4 (ai (pv 0) (ai (pv 2) au))))) aX) (aq (bH (bh fA (pv 1) (bw g3) (bC _)) (aw (aL (aS C3 hr4 (ai (pv 0) (ai (pv 2) au))))) aX) (aq (bH (bh fA (pv 1) (bw g4) (bC _)) (aw (aL (aS C4 hr3 (ai (pv 0) (ai (pv 2) au))))) aX) (aq (bH (bh fA (pv 1) (bw g5) (bC _)) (aw (aL (aS C5 hr3 (ai (pv 0) (ai (pv 2) au))))) aX) (aw (aL (aS C6 hr4 (ai (pv 0) (ai (pv 2) au)))))))))),?_⟩;rcases hk with⟨rfl,rfl⟩|⟨rfl,rfl⟩|⟨rfl,rfl⟩|⟨rfl,rfl⟩|⟨rfl,rfl⟩|⟨rfl,rfl⟩|⟨rfl,rfl⟩
  ·exact⟨_,rfl,rfl,_,rfl,wQ rfl ⟨_,rfl,_,rfl,q,a,D,s,zs,rfl,S,ha,hz,kk⟩⟩
  ·exact⟨_,rfl,rfl,_,rfl,i8 (jH (by decide)) ⟨_,rfl,rfl,_,rfl,wQ rfl ⟨_,rfl,_,rfl,q,a,D,s,zs,rfl,S,ha,hz,kk⟩⟩⟩
  ·exact⟨_,rfl,rfl,_,rfl,i8 (jH (by decide)) ⟨_,rfl,rfl,_,rfl,i8 (jH (by decide)) ⟨_,rfl,rfl,_,rfl,wQ rfl ⟨_,rfl,_,rfl,q,a,D,s,zs,rfl,S,ha,hz,kk⟩⟩⟩⟩
  ·exact⟨_,rfl,rfl,_,rfl,i8 (jH (by decide)) ⟨_,rfl,rfl,_,rfl,i8 (jH (by decide)) ⟨_,rfl,rfl,_,rfl,i8 (jH (by decide)) ⟨_,rfl,rfl,_,rfl,wQ rfl ⟨_,rfl,_,rfl,q,a,D,s,zs,rfl,S,ha,hz,kk⟩⟩⟩⟩⟩
  ·exact⟨_,rfl,rfl,_,rfl,i8 (jH (by decide)) ⟨_,rfl,rfl,_,rfl,i8 (jH (by decide)) ⟨_,rfl,rfl,_,rfl,i8 (jH (by decide)) ⟨_,rfl,rfl,_,rfl,i8 (jH (by decide)) ⟨_,rfl,rfl,_,rfl,wQ rfl ⟨_,rfl,_,rfl,q,a,D,s,zs,rfl,S,ha,hz,kk⟩⟩⟩⟩⟩⟩
  ·exact⟨_,rfl,rfl,_,rfl,i8 (jH (by decide)) ⟨_,rfl,rfl,_,rfl,i8 (jH (by decide)) ⟨_,rfl,rfl,_,rfl,i8 (jH (by decide)) ⟨_,rfl,rfl,_,rfl,i8 (jH (by decide)) ⟨_,rfl,rfl,_,rfl,i8 (jH (by decide)) ⟨_,rfl,rfl,_,rfl,wQ rfl ⟨_,rfl,_,rfl,q,a,D,s,zs,rfl,S,ha,hz,kk⟩⟩⟩⟩⟩⟩⟩
  ·exact⟨_,rfl,rfl,_,rfl,i8 (jH (by decide)) ⟨_,rfl,rfl,_,rfl,i8 (jH (by decide)) ⟨_,rfl,rfl,_,rfl,i8 (jH (by decide)) ⟨_,rfl,rfl,_,rfl,i8 (jH (by decide)) ⟨_,rfl,rfl,_,rfl,i8 (jH (by decide)) ⟨_,rfl,rfl,_,rfl,i8 (jH (by decide)) ⟨_,rfl,_,rfl,q,a,D,s,zs,rfl,S,ha,hz,kk⟩⟩⟩⟩⟩⟩⟩
def As(K:aj)(C:Addr):Sp:=λvs H Q _=>∃(q a:Addr)(D:SD)(s:State)(c z:Int)(zs:List Int)(k:bQ),vs=[.ref q,.int c,.int z,.ref a]/\fG C H q D s/\H a=some (.lst (zs.map V.int))/\zs.length<=100000/\((∃t:List Nat,zs=t.map (λ(n:Nat)=>(n:Int))/\(c=1/\k=.add z t\/c=2/\k=.stage z t))\/(c=19/\k=.freed z zs))/\wk C q H (aR s k).1 (aR s k).2 Q
theorem BE{f C:Addr}{fd:FuncData}(F:eJ K "answer_with_number_and_row" "answer_with_number_and_row" eh f fd)(g0:GI mg "ADD" 1)(g1:GI mg "STAGE" 2)(C0:dc P w K mg base 6 "answer_add" ["store","p","text"] (Hb C))(C1:dc P w K mg base 3 "answer_stage" ["store","p","text"] (Co C))(C2:dc P w K mg base 3 "answer_freed" ["store","p","roots"] (Ae K C .freed)):ck P w K mg base eY 7 f fd ["store","call","p","row"] (As K C):=by
 refine F.ok ji ?_ ?_
 ·rintro vs H Q E⟨q,a,D,s,c,z,zs,k,rfl,_⟩;rfl
 ·rintro cdv A outer s H vs Q E hr⟨q,a,D,s,c,z,zs,k,rfl,S,ha,hz,hk,kk⟩;have hr3:cT 3 _:=hr.mono (by decide);refine⟨_,aq (bH (bh fA (pv 1) (bw g0) (bC _)) (aw (aL (aS C0 hr (ai (pv 0) (ai (pv 2) (ai (pv 3) au)))))) aX) (aq (bH (bh fA (pv 1) (bw g1) (bC _)) (aw (aL (aS C1 hr3 (ai (pv 0) (ai (pv 2) (ai (pv 3) au)))))) aX) (aw (aL (aS C2 hr3 (ai (pv 0) (ai (pv 2) (ai (pv 3) au))))))),?_⟩;rcases hk with⟨t,rfl,⟨rfl,rfl⟩|⟨rfl,rfl⟩⟩|⟨rfl,rfl⟩
  ·rw[<-de]at ha;exact⟨_,rfl,rfl,_,rfl,wQ rfl ⟨_,rfl,_,rfl,_,rfl,q,a,D,s,z,t,rfl,S,ha,kk⟩⟩
  ·rw[<-de]at ha;exact⟨_,rfl,rfl,_,rfl,i8 (jH (by decide)) ⟨_,rfl,rfl,_,rfl,wQ rfl ⟨_,rfl,_,rfl,_,rfl,q,a,D,s,z,t,rfl,S,ha,kk⟩⟩⟩
  ·exact⟨_,rfl,rfl,_,rfl,i8 (jH (by decide)) ⟨_,rfl,rfl,_,rfl,i8 (jH (by decide)) ⟨_,rfl,_,rfl,_,rfl,q,a,D,s,z,zs,rfl,S,bZ.of ha,hz,kk⟩⟩⟩
def x5(K:aj)(C:Addr):Sp:=λvs H Q _=>∃(q a b:Addr)(D:SD)(s:State)(c:Int)(zs ys:List Int)(k:bQ),vs=[.ref q,.int c,.ref a,.ref b]/\fG C H q D s/\H a=some (.lst (zs.map V.int))/\zs.length<=100000/\H b=some (.lst (ys.map V.int))/\ys.length<=1000/\((c=20/\k=.missing zs ys)\/(∃t:List Nat,zs=t.map (λ(n:Nat)=>(n:Int))/\(∀z∈ys,z<=1000000000000000000)/\c=22/\k=.read t ys))/\wk C q H (aR s k).1 (aR s k).2 Q
theorem Au{f C:Addr}{fd:FuncData}(F:eJ K "answer_with_two_rows" "answer_with_two_rows" fO f fd)(g0:GI mg "MISSING" 20)(C0:dc P w K mg base 4 "answer_missing" ["store","goals","there"] (Ap K C .missing))(C1:dc P w K mg base 7 "answer_read" ["store","parcel","rule"] (Ff K C)):ck P w K mg base eY 8 f fd ["store","call","first","second"] (x5 K C):=by
 refine F.ok l3 ?_ ?_
 ·rintro vs H Q E⟨q,a,b,D,s,c,zs,ys,k,rfl,_⟩;rfl
 ·rintro cdv A outer s H vs Q E hr⟨q,a,b,D,s,c,zs,ys,k,rfl,S,ha,hz,hb,hy,hk,kk⟩;have hr4:cT 4 _:=hr.mono (by decide);refine⟨_,aq (bH (bh fA (pv 1) (bw g0) (bC _)) (aw (aL (aS C0 hr4 (ai (pv 0) (ai (pv 2) (ai (pv 3) au)))))) aX) (aw (aL (aS C1 hr (ai (pv 0) (ai (pv 2) (ai (pv 3) au)))))),?_⟩;rcases hk with⟨rfl,rfl⟩|⟨t,rfl,hb2,rfl,rfl⟩
  ·exact⟨_,rfl,rfl,_,rfl,wQ rfl ⟨_,rfl,_,rfl,_,rfl,q,a,b,D,s,zs,ys,rfl,S,bZ.of ha,hz,bZ.of hb,by omega,kk⟩⟩
  ·rw[<-de]at ha;exact⟨_,rfl,rfl,_,rfl,i8 (jH (by decide)) ⟨_,rfl,_,rfl,_,rfl,q,a,b,D,s,t,ys,rfl,S,bZ.of ha,bZ.of hb,hy,hb2,kk⟩⟩
end
end Wk
namespace Wk
open PySem PySem.Spec PyProof.Rows L2 WkR WkZ
open Vastof (Held State)
def Fk(c:Int)(k:bQ):Prop:=(c=3/\k=.commit)\/(c=4/\k=.drop)\/(c=7/\k=.counts)\/(c=8/\k=.valid)\/(c=15/\k=.tops)
def H_(c z:Int)(k:bQ):Prop:=(c=0/\k=(.room z))\/(c=5/\k=(.get z))\/(c=6/\k=(.pinned z))\/(c=9/\k=(.refs z))\/(c=10/\k=(.referrers z))\/(c=13/\k=(.knot z))
def Fl(c:Int)(zs:List Int)(k:bQ):Prop:=(c=11/\k=(.closure zs))\/(c=12/\k=(.above zs))\/(c=14/\k=(.order zs))\/(c=16/\k=(.take zs))\/(c=17/\k=(.sweep zs))\/(c=18/\k=(.lose zs))\/(c=21/\k=(.write zs))
def y0(c z:Int)(zs:List Int)(k:bQ):Prop:=(∃t:List Nat,zs=t.map (λ(n:Nat)=>(n:Int))/\(c=1/\k=.add z t\/c=2/\k=.stage z t))\/(c=19/\k=.freed z zs)
def Ia(c:Int)(zs ys:List Int)(k:bQ):Prop:=(c=20/\k=.missing zs ys)\/(∃t:List Nat,zs=t.map (λ(n:Nat)=>(n:Int))/\(∀z∈ys,z<=1000000000000000000)/\c=22/\k=.read t ys)
inductive iY(zs:List Int)(n:Nat):bQ->Nat->Prop
 |bare {c k}:zs[n]?=some c->Fk c k->iY zs n k (n+1)
 |num {c z k}:zs[n]?=some c->zs[n+1]?=some z->H_ c z k->iY zs n k (n+2)
 |list {c:Int} {l:Nat} {k}:zs[n]?=some c->zs[n+1]?=some (l:Int)->n+2+l<=zs.length->l<=100000->Fl c ((zs.drop (n+2)).take l) k->iY zs n k (n+2+l)
 |numrow {c z:Int} {l:Nat} {k}:zs[n]?=some c->zs[n+1]?=some z->zs[n+2]?=some (l:Int)->n+3+l<=zs.length->l<=100000->y0 c z ((zs.drop (n+3)).take l) k->iY zs n k (n+3+l)
 |tworows {c:Int} {l m:Nat} {k}:zs[n]?=some c->zs[n+1]?=some (l:Int)->n+2+l<=zs.length->l<=100000->zs[n+2+l]?=some (m:Int)->n+2+l+1+m<=zs.length->m<=1000->Ia c ((zs.drop (n+2)).take l) ((zs.drop (n+2+l+1)).take m) k->iY zs n k (n+2+l+1+m)
abbrev AG(c:Int)(l:List Int):Bool:=Ip (.int c) (l.map V.int)
theorem GC{c:Int}{k:bQ}(h:Fk c k):AG c [3,4,7,8,15]=true:=by rcases h with⟨rfl,_⟩|⟨rfl,_⟩|⟨rfl,_⟩|⟨rfl,_⟩|⟨rfl,_⟩<;>decide
theorem Ib{c z:Int}{k:bQ}(h:H_ c z k):AG c [3,4,7,8,15]=false/\AG c [0,5,6,9,10,13]=true:=by rcases h with⟨rfl,_⟩|⟨rfl,_⟩|⟨rfl,_⟩|⟨rfl,_⟩|⟨rfl,_⟩|⟨rfl,_⟩<;>decide
theorem GD{c:Int}{zs:List Int}{k:bQ}(h:Fl c zs k):AG c [3,4,7,8,15]=false/\AG c [0,5,6,9,10,13]=false/\AG c [11,12,14,16,17,18,21]=true:=by rcases h with⟨rfl,_⟩|⟨rfl,_⟩|⟨rfl,_⟩|⟨rfl,_⟩|⟨rfl,_⟩|⟨rfl,_⟩|⟨rfl,_⟩<;>decide
theorem Dy{c z:Int}{zs:List Int}{k:bQ}(h:y0 c z zs k):AG c [3,4,7,8,15]=false/\AG c [0,5,6,9,10,13]=false/\AG c [11,12,14,16,17,18,21]=false/\AG c [1,2,19]=true:=by rcases h with⟨_,_,⟨rfl,_⟩|⟨rfl,_⟩⟩|⟨rfl,_⟩<;>decide
theorem Ic{c:Int}{zs ys:List Int}{k:bQ}(h:Ia c zs ys k):AG c [3,4,7,8,15]=false/\AG c [0,5,6,9,10,13]=false/\AG c [11,12,14,16,17,18,21]=false/\AG c [1,2,19]=false/\AG c [20,22]=true:=by rcases h with⟨rfl,_⟩|⟨_,_,_,rfl,_⟩<;>decide
def FK2(q y:Addr)(H H':Hp):Prop:=∀b o,H b=some o->b≠q->b≠y->(∀kvs,o≠.dK kvs)->H' b=some o
theorem fG.but{C CT:Addr}{H H':Hp}{q y:Addr}{D:SD}{s:State}{dx:Addr}{fs:List (Str×V)}(S:fG C H q D s)(hy:H y=some (.ins CT dx fs))(b:g8 y H H')(n:q≠y):fG C H' q D s:=by have d:∀{a:Addr}{kvs:List (Key×V)},H a=some (.dK kvs)->H' a=some (.dK kvs):=λe=>b _ _ e (cn e hy (λz=>nomatch z));have t:∀{l:List (Nat×Addr)}{d:Held},gF H l d->gF H' l d:=λh=>L2.Paired.mapP h λ_ _ e=>⟨e.1,b _ _ e.2 (cn e.2 hy (λz=>nomatch z))⟩;exact⟨b _ _ S.ob n,d S.h1,d S.h2,d S.h3,d S.h4,t S.t1,t S.t2,t S.t3,t S.t4,S.r1,S.r2,S.r4,S.n12,S.n13,S.n14,S.n23,S.n24,S.n34,S.si⟩
theorem BF{K:aj}{H H':Hp}{a y CT dx:Addr}{fs:List (Str×V)}{xs:List V}(hS:bZ K H a xs)(hy:H y=some (.ins CT dx fs))(b:g8 y H H'):bZ K H' a xs:=by
 rcases hS with(h|⟨o,h⟩)|h
 ·exact .inl (.inl (b _ _ h (cn h hy (λz=>nomatch z))))
 ·exact .inl (.inr ⟨o,b _ _ h (cn h hy (λz=>nomatch z))⟩)
 ·exact .inr h
section
variable {P:Program}{w:World}{K:aj}{mg:Str->Option Value}{base:Heap}
def Fm(K:aj)(C CT:Addr):Sp:=λvs H Q _=>∃(q y dx a:Addr)(D:SD)(s:State)(zs:List Int)(n:Nat)(k:bQ)(n':Nat),vs=[.ref q,.ref y]/\fG C H q D s/\q≠y/\H y=some (.ins CT dx (tf a n))/\bZ K H a (zs.map V.int)/\iY zs n k n'/\∀H' r D',fG C H' q D' (aR s k).1->H' y=some (.ins CT dx (tf a n'))->FK2 q y H H'->H' r=some (.lst (Aa (aR s k).2))->Q (.ref r) H'
theorem hG{K:aj}{σ:L2.St}{H:Hp}{R:Bool->Hp->Prop}{t:TA}{c:Int}(ls:List Int)(hz:ls.length<=100)(ht:∀(H:Hp)(Q:List V->Hp->Prop),Q (ls.map V.int) H->t σ H Q)(hv:σ[2]?=some (some (.int c)))(h:∀H',Same H H'->R (AG c ls) H'):xr (BU (rIn K false) (fg 2) (D4 t)) σ H R:=by
 refine⟨_,hv,ht _ _ ⟨?_,λp hp=>⟨p,_,rfl,.inr (xp.of ao),rfl,?_,?_⟩⟩⟩
 ·rw[ae];exact cB (bW (by omega))
 ·rw[bU];intro x hx;obtain⟨z,_,rfl⟩:=az.mp hx;rfl
 ·exact⟨_,rfl,h _ (aC hp)⟩
end
end Wk
namespace Wk
open PySem PySem.Spec PyProof.Rows L2 WkR WkZ
open Vastof (Held State)
structure He(mg:Str->Option Value):Prop where
 c0:GI mg "ROOM" 0
 c1:GI mg "ADD" 1
 c2:GI mg "STAGE" 2
 c3:GI mg "COMMIT" 3
 c4:GI mg "DROP" 4
 c5:GI mg "GET" 5
 c6:GI mg "PINNED" 6
 c7:GI mg "COUNTS" 7
 c8:GI mg "VALID" 8
 c9:GI mg "REFS" 9
 c10:GI mg "REFERRERS" 10
 c11:GI mg "CLOSURE" 11
 c12:GI mg "ABOVE" 12
 c13:GI mg "KNOT" 13
 c14:GI mg "ORDER" 14
 c15:GI mg "TOPS" 15
 c16:GI mg "TAKE" 16
 c17:GI mg "SWEEP" 17
 c18:GI mg "LOSE" 18
 c19:GI mg "FREED" 19
 c20:GI mg "MISSING" 20
 c21:GI mg "WRITE" 21
 c22:GI mg "READ" 22
section
variable {P:Program}{w:World}{K:aj}{mg:Str->Option Value}{base:Heap}
theorem GF{f C CT:Addr}{fd:FuncData}(F:eJ K "answer_next" "answer_next" lD f fd)(N:He mg)(T:Bv K CT)(M1:Ag P w K mg base 1 CT "take_number" ["self"] (jS K CT))(M2:Ag P w K mg base 2 CT "take_row" ["self"] (sQ K CT))(C1:dc P w K mg base 7 "answer_bare" ["store","call"] (Fh K C))(C2:dc P w K mg base 5 "answer_with_number" ["store","call","number"] (Ar K C))(C3:dc P w K mg base 5 "answer_with_list" ["store","call","places"] (Fj K C))(C4:dc P w K mg base 7 "answer_with_number_and_row" ["store","call","p","row"] (As K C))(C5:dc P w K mg base 8 "answer_with_two_rows" ["store","call","first","second"] (x5 K C)):ck P w K mg base eY 9 f fd ["store","tape"] (Fm K C CT):=by
 refine F.ok oE ?_ ?_
 ·rintro vs H Q E⟨q,y,dx,a,D,s,zs,n,k,n',rfl,_⟩;rfl
 ·rintro cdv A outer s H vs Q E hr⟨q,y,dx,a,D,s,zs,n,k,n',rfl,S,qy,hy,hS,hc,kk⟩;have nd:=oE.nd;have hr1:cT 1 _:=hr.mono (by decide);have hr2:cT 2 _:=hr.mono (by decide);have hr5:cT 5 _:=hr.mono (by decide);have hr7:cT 7 _:=hr.mono (by decide);refine⟨_,aq (ba (i:=2) nd rfl (Or.inl rfl) (jT M1 T.cl hr1 (pv 1))) (aq (bH (bh jU (pv 2) (jk (ai (bw N.c3) (ai (bw N.c4) (ai (bw N.c7) (ai (bw N.c8) (ai (bw N.c15) au)))))) rfl) (aw (aL (aS C1 hr7 (ai (pv 0) (ai (pv 2) au))))) aX) (aq (bH (bh jU (pv 2) (jk (ai (bw N.c0) (ai (bw N.c5) (ai (bw N.c6) (ai (bw N.c9) (ai (bw N.c10) (ai (bw N.c13) au))))))) rfl) (aw (aL (aS C2 hr5 (ai (pv 0) (ai (pv 2) (ai (jT M1 T.cl hr1 (pv 1)) au)))))) aX) (aq (bH (bh jU (pv 2) (jk (ai (bw N.c11) (ai (bw N.c12) (ai (bw N.c14) (ai (bw N.c16) (ai (bw N.c17) (ai (bw N.c18) (ai (bw N.c21) au)))))))) rfl) (aw (aL (aS C3 hr5 (ai (pv 0) (ai (pv 2) (ai (jT M2 T.cl hr2 (pv 1)) au)))))) aX) (aq (bH (bh jU (pv 2) (jk (ai (bw N.c1) (ai (bw N.c2) (ai (bw N.c19) au)))) rfl) (aq (ba (i:=3) nd rfl (Or.inl rfl) (jT M1 T.cl hr1 (pv 1))) (aw (aL (aS C4 hr7 (ai (pv 0) (ai (pv 2) (ai (pv 3) (ai (jT M2 T.cl hr2 (pv 1)) au)))))))) aX) (aq (bH (bh jU (pv 2) (jk (ai (bw N.c20) (ai (bw N.c22) au))) rfl) (aq (ba (i:=4) nd rfl (Or.inl rfl) (jT M2 T.cl hr2 (pv 1))) (aw (aL (aS C5 hr (ai (pv 0) (ai (pv 2) (ai (pv 4) (ai (jT M2 T.cl hr2 (pv 1)) au)))))))) aX) CF))))),?_⟩;have hcn:∃c,zs[n]?=some c:=by cases hc<;>exact⟨_,by assumption⟩
  obtain⟨c,hcn⟩:=hcn;have fin:∀{H1:Hp},g8 y H H1->H1 y=some (.ins CT dx (tf a n'))->wk C q H1 (aR s k).1 (aR s k).2 Q:=λ{H1}b hy1 H' r D' S' fk hr'=>
   kk H' r D' S' (fk _ _ hy1 qy.symm (λkvs z=>nomatch z)) (λb' o e n1 n2 n3=>fk b' o (b b' o e n2) n1 n3) hr'
  refine⟨_,rfl,y,dx,_,rfl,hy,rA _ _ (by decide+kernel) (by decide+kernel),y,dx,a,zs,n,c,rfl,hy,hS,hcn,λH1 hy1 b1=>?_⟩;have ce:∀{c'},zs[n]?=some c'->c'=c:=λh=>by rw[hcn]at h;exact(a0 h).symm
  have step1:∀{H1 H2:Hp}{m:Nat},g8 y H H1->H1 y=some (.ins CT dx (tf a m))->Same H1 H2->g8 y H H2/\H2 y=some (.ins CT dx (tf a m))/\fG C H2 q D s/\bZ K H2 a (zs.map V.int):=λb hy1 s1=>
   ⟨b.same s1,s1 _ _ hy1,S.but hy (b.same s1) qy,BF hS hy (b.same s1)⟩
  cases hc with
  |bare h1 hk=>
   cases ce h1
   refine hG [3,4,7,8,15] (by decide) (λ_ _ h=>h) rfl λH2 s2=>?_
   rw[GC hk]
   obtain⟨b2,y2,S2,_⟩:=step1 b1 hy1 s2
   exact iE ⟨_,rfl,_,rfl,q,D,s,c,k,rfl,S2,hk,fin b2 y2⟩
  |@num _ z _ h1 h2 hk=>
   cases ce h1
   obtain⟨i1,i2⟩:=Ib hk
   refine hG [3,4,7,8,15] (by decide) (λ_ _ h=>h) rfl λH2 s2=>?_
   rw[i1]
   refine gx ?_
   refine hG [0,5,6,9,10,13] (by decide) (λ_ _ h=>h) rfl λH3 s3=>?_
   rw[i2]
   obtain⟨b3,y3,S3,q3⟩:=step1 b1 hy1 (s2.trans s3)
   refine iE ⟨_,rfl,_,rfl,_,rfl,y,dx,_,rfl,y3,rA _ _ (by decide+kernel) (by decide+kernel),y,dx,a,zs,n+1,z,rfl,y3,q3,h2,λH4 hy4 b4=>?_⟩
   have b34:g8 y H H4:=λb o e nb=>b4 b o (b3 b o e nb) nb
   exact⟨q,D,s,c,z,k,rfl,S.but hy b34 qy,hk,fin b34 hy4⟩
  |@list _ l _ h1 h2 h3 h4 hk=>
   cases ce h1
   obtain⟨i1,i2,i3⟩:=GD hk
   refine hG [3,4,7,8,15] (by decide) (λ_ _ h=>h) rfl λH2 s2=>?_
   rw[i1]
   refine gx ?_
   refine hG [0,5,6,9,10,13] (by decide) (λ_ _ h=>h) rfl λH3 s3=>?_
   rw[i2]
   refine gx ?_
   refine hG [11,12,14,16,17,18,21] (by decide) (λ_ _ h=>h) rfl λH4 s4=>?_
   rw[i3]
   obtain⟨b4,y4,S4,q4⟩:=step1 b1 hy1 ((s2.trans s3).trans s4)
   refine iE ⟨_,rfl,_,rfl,_,rfl,y,dx,_,rfl,y4,rA _ _ (by decide+kernel) (by decide+kernel),y,dx,a,zs,n+1,l,rfl,y4,q4,h2,by omega,λH5 r hy5 b5 nr ry hr5=>?_⟩
   have b45:g8 y H H5:=λb o e nb=>b5 b o (b4 b o e nb) nb
   refine⟨q,r,D,s,c,(zs.drop (n+2)).take l,k,rfl,S.but hy b45 qy,bZ.of hr5,?_,hk,fin b45 hy5⟩
   exact ay (lP ..) h4
  |@numrow _ z l _ h1 h2 h3 h4 h5 hk=>
   cases ce h1
   obtain⟨i1,i2,i3,i4⟩:=Dy hk
   refine hG [3,4,7,8,15] (by decide) (λ_ _ h=>h) rfl λH2 s2=>?_
   rw[i1]
   refine gx ?_
   refine hG [0,5,6,9,10,13] (by decide) (λ_ _ h=>h) rfl λH3 s3=>?_
   rw[i2]
   refine gx ?_
   refine hG [11,12,14,16,17,18,21] (by decide) (λ_ _ h=>h) rfl λH4 s4=>?_
   rw[i3]
   refine gx ?_
   refine hG [1,2,19] (by decide) (λ_ _ h=>h) rfl λH5 s5=>?_
   rw[i4]
   obtain⟨b5,y5,S5,q5⟩:=step1 b1 hy1 (((s2.trans s3).trans s4).trans s5)
   refine iE ⟨_,rfl,y,dx,_,rfl,y5,rA _ _ (by decide+kernel) (by decide+kernel),y,dx,a,zs,n+1,z,rfl,y5,q5,h2,λH6 hy6 b6=>?_⟩
   have b56:g8 y H H6:=λb o e nb=>b6 b o (b5 b o e nb) nb
   refine⟨_,rfl,_,rfl,_,rfl,_,rfl,y,dx,_,rfl,hy6,rA _ _ (by decide+kernel) (by decide+kernel),y,dx,a,zs,n+2,l,rfl,hy6,BF hS hy b56,h3,by omega,λH7 r hy7 b7 nr ry hr7=>?_⟩
   have b67:g8 y H H7:=λb o e nb=>b7 b o (b56 b o e nb) nb
   refine⟨q,r,D,s,c,z,(zs.drop (n+3)).take l,k,rfl,S.but hy b67 qy,hr7,?_,hk,fin b67 hy7⟩
   exact ay (lP ..) h5
  |@tworows _ l m _ h1 h2 h3 h4 h5 h6 h7 hk=>
   cases ce h1
   obtain⟨i1,i2,i3,i4,i5⟩:=Ic hk
   refine hG [3,4,7,8,15] (by decide) (λ_ _ h=>h) rfl λH2 s2=>?_
   rw[i1]
   refine gx ?_
   refine hG [0,5,6,9,10,13] (by decide) (λ_ _ h=>h) rfl λH3 s3=>?_
   rw[i2]
   refine gx ?_
   refine hG [11,12,14,16,17,18,21] (by decide) (λ_ _ h=>h) rfl λH4 s4=>?_
   rw[i3]
   refine gx ?_
   refine hG [1,2,19] (by decide) (λ_ _ h=>h) rfl λH5 s5=>?_
   rw[i4]
   refine gx ?_
   refine hG [20,22] (by decide) (λ_ _ h=>h) rfl λH6 s6=>?_
   rw[i5]
   obtain⟨b6,y6,S6,q6⟩:=step1 b1 hy1 ((((s2.trans s3).trans s4).trans s5).trans s6)
   refine iE ⟨_,rfl,y,dx,_,rfl,y6,rA _ _ (by decide+kernel) (by decide+kernel),y,dx,a,zs,n+1,l,rfl,y6,q6,h2,by omega,λH7 r hy7 b7 nr ry hr7=>?_⟩
   have b67:g8 y H H7:=λb o e nb=>b7 b o (b6 b o e nb) nb
   refine⟨_,rfl,_,rfl,_,rfl,_,rfl,y,dx,_,rfl,hy7,rA _ _ (by decide+kernel) (by decide+kernel),y,dx,a,zs,n+2+l,m,rfl,hy7,BF hS hy b67,h5,by omega,λH8 r8 hy8 b8 nr8 ry8 hr8=>?_⟩
   have b78:g8 y H H8:=λb o e nb=>b8 b o (b67 b o e nb) nb
   refine⟨q,r,r8,D,s,c,(zs.drop (n+2)).take l,(zs.drop (n+2+l+1)).take m,k,rfl,S.but hy b78 qy,b8 _ _ hr7 ry,?_,hr8,?_,hk,fin b78 hy8⟩
   ·exact ay (lP ..) h4
   ·exact ay (lP ..) h7
end
end Wk
namespace Wk
open PyVastof (shape whole)
open VastofNeutral (callOf asked1 encode whole60 natural)
theorem l8{l:List Int}{c:List (List Int)}{t:List Int}(h:cY shape l=some (c,t)):∃p r nn kk xs,l=p::r/\shape p=some (nn,kk)/\nn<=r.length/\hX kk (r.drop nn)=some (xs,t)/\c=(p::r.take nn)::xs:=by
 cases l with
 |nil=>cases h
 |cons p r=>
  unfold cY at h
  dsimp only at h
  cases hs:shape p with
  |none=>rw[hs]at h;cases h
  |some x=>
   obtain⟨nn,kk⟩:=x
   rw[hs]at h
   simp only at h
   split at h
   ·cases h
   ·rename_i hl;cases hr:hX kk (r.drop nn)with
    |none=>rw[hr]at h;cases h
    |some y=>
     obtain⟨xs,t'⟩:=y
     rw[hr]at h
     simp only[cH,eC]at h
     obtain⟨h1,h2⟩:=h
     exact⟨p,r,nn,kk,xs,rfl,hs,by omega,by rw[<-h2];exact hr,h1.symm⟩
theorem Cw{l:List Int}{x t:List Int}(h:BP l=some (x,t)):∃n:Nat,l[0]?=some (n:Int)/\1+n<=l.length/\x=(l.drop 1).take n/\t=l.drop (1+n):=by
 cases l with
 |nil=>cases h
 |cons z r=>
  unfold BP at h
  dsimp only at h
  split at h
  ·rename_i hz;simp only[cH,eC]at h;refine⟨z.toNat,?_,?_,?_,?_⟩
   ·simp;omega
   ·simp;omega
   ·rw[<-h.1];rfl
   ·rw[<-h.2,Nat.add_comm];rfl
  ·cases h
theorem l9{l:List Int}{xs:List (List Int)}{t:List Int}(h:hX 1 l=some (xs,t)):∃n:Nat,l[0]?=some (n:Int)/\1+n<=l.length/\xs=[(l.drop 1).take n]/\t=l.drop (1+n):=by
 unfold hX at h;cases hr:BP l with
 |none=>rw[hr]at h;cases h
 |some y=>
  obtain⟨x,s⟩:=y
  rw[hr]at h
  obtain⟨n,a1,a2,a3,a4⟩:=Cw hr
  have h:some ([x],s)=some (xs,t):=h
  simp only[cH,eC]at h
  exact⟨n,a1,a2,by rw[<-h.1,a3],by rw[<-h.2,a4]⟩
theorem x6{l:List Int}{xs:List (List Int)}{t:List Int}(h:hX 2 l=some (xs,t)):∃n m:Nat,l[0]?=some (n:Int)/\1+n<=l.length/\l[1+n]?=some (m:Int)/\1+n+1+m<=l.length/\xs=[(l.drop 1).take n,(l.drop (1+n+1)).take m]/\t=l.drop (1+n+1+m):=by
 unfold hX at h;cases hr:BP l with
 |none=>rw[hr]at h;cases h
 |some y=>
  obtain⟨x,s⟩:=y
  rw[hr]at h
  obtain⟨n,a1,a2,a3,a4⟩:=Cw hr
  simp only at h
  cases hr2:hX 1 s with
  |none=>rw[hr2]at h;cases h
  |some y2=>
   obtain⟨x2,s2⟩:=y2
   rw[hr2]at h
   obtain⟨m,b1,b2,b3,b4⟩:=l9 hr2
   simp only[cH,eC]at h
   rw[a4]at b1 b2 b3 b4
   rw[cz]at b1
   rw[dF]at b2
   rw[cQ]at b3 b4
   exact⟨n,m,a1,a2,b1,by omega,by rw[<-h.1,a3,b3],by rw[<-h.2,b4,Nat.add_assoc (1+n) 1 m]⟩
theorem drop_cons{zs:List Int}{n:Nat}{p:Int}{r:List Int}(h:zs.drop n=p::r):zs[n]?=some p/\r=zs.drop (n+1)/\n<zs.length:=by
 have h1:(zs.drop n)[0]?=some p:=by rw[h];rfl
 rw[cz]at h1;refine⟨h1,?_,(aM.mp h1).1⟩;have:(zs.drop n).drop 1=r:=by rw[h];rfl
 rw[cQ]at this;exact this.symm
theorem GG{zs:List Int}{n:Nat}{p:Int}{t:List Int}(hs:shape p=some (0,0))(h:cY shape (zs.drop n)=some ([[p]],t)):zs[n]?=some p/\t=zs.drop (n+1)/\n+1<=zs.length:=by
 obtain⟨p',r,nn,kk,xs,e1,e2,e3,e4,e5⟩:=l8 h;obtain⟨d1,d2,d3⟩:=drop_cons e1;have ep:p=p':=by injection e5 with e _;injection e
 subst ep;rw[hs]at e2;simp only[cH,eC]at e2;obtain⟨rfl,rfl⟩:=e2;have e4:some ([],r)=some (xs,t):=e4;simp only[cH,eC]at e4;exact⟨d1,by rw[<-e4.2,d2],d3⟩
theorem Ie{zs:List Int}{n:Nat}{p x:Int}{t:List Int}(hs:shape p=some (1,0))(h:cY shape (zs.drop n)=some ([[p,x]],t)):zs[n]?=some p/\zs[n+1]?=some x/\t=zs.drop (n+2)/\n+2<=zs.length:=by
 obtain⟨p',r,nn,kk,xs,e1,e2,e3,e4,e5⟩:=l8 h;obtain⟨d1,d2,d3⟩:=drop_cons e1;have ep:p=p':=by injection e5 with e _;injection e
 subst ep;rw[hs]at e2;simp only[cH,eC]at e2;obtain⟨rfl,rfl⟩:=e2;have e4:some ([],r.drop 1)=some (xs,t):=e4;simp only[cH,eC]at e4;have er:[x]=r.take 1:=by injection e5 with e _;injection e
 cases r with
 |nil=>simp at e3
 |cons y r=>
  have ey:x=y:=by simpa using er
  subst ey
  obtain⟨f1,f2,f3⟩:=drop_cons d2.symm
  exact⟨d1,f1,by rw[<-e4.2];exact f2,f3⟩
theorem in_list{zs:List Int}{n:Nat}{p:Int}{a t:List Int}(hs:shape p=some (0,1))(h:cY shape (zs.drop n)=some ([[p],a],t)):zs[n]?=some p/\∃l:Nat,zs[n+1]?=some (l:Int)/\n+2+l<=zs.length/\a=(zs.drop (n+2)).take l/\t=zs.drop (n+2+l):=by
 obtain⟨p',r,nn,kk,xs,e1,e2,e3,e4,e5⟩:=l8 h;obtain⟨d1,d2,d3⟩:=drop_cons e1;have ep:p=p':=by injection e5 with e _;injection e
 subst ep;rw[hs]at e2;simp only[cH,eC]at e2;obtain⟨rfl,rfl⟩:=e2;have e4:hX 1 r=some (xs,t):=e4;obtain⟨l,b1,b2,b3,b4⟩:=l9 e4;rw[d2]at b1 b2 b3 b4;rw[cz]at b1;rw[dF]at b2;rw[cQ]at b3 b4;have ex:[a]=xs:=by injection e5
 rw[b3]at ex;refine⟨d1,l,b1,by omega,?_,?_⟩
 ·injection ex
 ·rw[b4];congr 1;omega
theorem Dz{zs:List Int}{n:Nat}{p x:Int}{a t:List Int}(hs:shape p=some (1,1))(h:cY shape (zs.drop n)=some ([[p,x],a],t)):zs[n]?=some p/\zs[n+1]?=some x/\∃l:Nat,zs[n+2]?=some (l:Int)/\n+3+l<=zs.length/\a=(zs.drop (n+3)).take l/\t=zs.drop (n+3+l):=by
 obtain⟨p',r,nn,kk,xs,e1,e2,e3,e4,e5⟩:=l8 h;obtain⟨d1,d2,d3⟩:=drop_cons e1;have ep:p=p':=by injection e5 with e _;injection e
 subst ep;rw[hs]at e2;simp only[cH,eC]at e2;obtain⟨rfl,rfl⟩:=e2;have er:[x]=r.take 1:=by injection e5 with e _;injection e
 obtain⟨l,b1,b2,b3,b4⟩:=l9 e4;have ex:[a]=xs:=by injection e5
 cases r with
 |nil=>simp at e3
 |cons y r=>
  have ey:x=y:=by simpa using er
  subst ey
  obtain⟨f1,f2,f3⟩:=drop_cons d2.symm
  have f2:(x::r).drop 1=zs.drop (n+2):=f2
  rw[f2]at b1 b2 b3 b4
  rw[cz]at b1
  rw[dF]at b2
  rw[cQ]at b3 b4
  rw[b3]at ex
  refine⟨d1,f1,l,b1,by omega,?_,?_⟩
  ·injection ex
  ·rw[b4];congr 1;omega
theorem Ig{zs:List Int}{n:Nat}{p:Int}{a b t:List Int}(hs:shape p=some (0,2))(h:cY shape (zs.drop n)=some ([[p],a,b],t)):zs[n]?=some p/\∃l m:Nat,zs[n+1]?=some (l:Int)/\n+2+l<=zs.length/\zs[n+2+l]?=some (m:Int)/\n+2+l+1+m<=zs.length/\a=(zs.drop (n+2)).take l/\b=(zs.drop (n+2+l+1)).take m/\t=zs.drop (n+2+l+1+m):=by
 obtain⟨p',r,nn,kk,xs,e1,e2,e3,e4,e5⟩:=l8 h;obtain⟨d1,d2,d3⟩:=drop_cons e1;have ep:p=p':=by injection e5 with e _;injection e
 subst ep;rw[hs]at e2;simp only[cH,eC]at e2;obtain⟨rfl,rfl⟩:=e2;have e4:hX 2 r=some (xs,t):=e4;obtain⟨l,m,b1,b2,b5,b6,b3,b4⟩:=x6 e4;rw[d2]at b1 b2 b3 b4 b5 b6;rw[cz]at b1 b5;rw[dF]at b2 b6;rw[cQ,cQ]at b3;rw[cQ]at b4;have ex:[a,b]=xs:=by injection e5
 rw[b3]at ex;have i1:n+1+(1+l)=n+2+l:=by omega
 have i2:n+1+(1+l+1)=n+2+l+1:=by omega
 have i3:n+1+(1+l+1+m)=n+2+l+1+m:=by omega
 rw[i1]at b5;rw[i3]at b4;rw[i2]at ex;injection ex with x1 x2;injection x2 with x2 _;exact⟨d1,l,m,b1,by omega,b5,by omega,x1,x2,b4⟩
theorem pq{a:List Int}(h:(a.all λ(z:Int)=>natural z 8)=true):Jw a=true/\a=(a.map λb=>b.toNat).map λ(n:Nat)=>(n:Int):=by
 rw[bU]at h;have h:∀x∈a,0<=x/\x<256:=λx hx=>by have:=h x hx;unfold VastofNeutral.natural at this;simp at this;exact this
 constructor
 ·unfold Jw;rw[bU];intro x hx;have:=h x hx;simp;omega
 ·rw[aK];conv=>lhs;rw[<-nN a]
  refine bK λx hx=>?_;have:=h x hx;show x=((x.toNat:Nat):Int);omega
theorem sW{a:List Int}(h:(a.all λ(z:Int)=>natural z 8)=true):i7 a=some (a.map λb=>b.toNat):=by unfold i7;rw[if_pos (pq h).1]
theorem Fn{a:List Int}(h:(a.all λ(z:Int)=>whole60 z)=true):∀z∈a,z<=1000000000000000000:=λz hz=>by rw[bU]at h;have:=h z hz;unfold VastofNeutral.whole60 at this;simp at this;exact this.2
theorem ux{zs:List Int}{n l:Nat}(h:n+l<=zs.length):((zs.drop n).take l).length=l:=by rw[fe,dF];omega
def GH(p:Int)(c:List (List Int)):Nat->Nat->Prop
 |0,0=>c=[[p]]
 |1,0=>∃x,c=[[p,x]]
 |0,1=>∃a,c=[[p],a]
 |1,1=>∃x a,c=[[p,x],a]
 |0,2=>∃a b,c=[[p],a,b]
 |_,_=>True
theorem sX{P:Int->Nat->Nat->Prop}{p:Int}{n k:Nat}(h:shape p=some (n,k))(h0:P 0 1 0)(h1:P 1 1 1)(h2:P 2 1 1)(h3:P 3 0 0)(h4:P 4 0 0)(h5:P 5 1 0)(h6:P 6 1 0)(h7:P 7 0 0)(h8:P 8 0 0)(h9:P 9 1 0)(h10:P 10 1 0)(h11:P 11 0 1)(h12:P 12 0 1)(h13:P 13 1 0)(h14:P 14 0 1)(h15:P 15 0 0)(h16:P 16 0 1)(h17:P 17 0 1)(h18:P 18 0 1)(h19:P 19 1 1)(h20:P 20 0 2)(h21:P 21 0 1)(h22:P 22 0 2):P p n k:=by
 have go:∀{i:Int}{a b:Nat}{e:Option (Nat×Nat)},P i a b->(if p=i then some (a,b)else e)=some (n,k)->P p n k\/e=some (n,k):=λ{i a b e}h q=>by
  by_cases z:p=i
  ·rw[if_pos z]at q;injection q with q;injection q with q1 q2;exact .inl (z▸q1▸q2▸h)
  ·rw[if_neg z]at q;exact .inr q
 unfold PyVastof.shape at h;rcases go h0 h with r|h
 ·exact r
 rcases go h1 h with r|h
 ·exact r
 rcases go h2 h with r|h
 ·exact r
 rcases go h3 h with r|h
 ·exact r
 rcases go h4 h with r|h
 ·exact r
 rcases go h5 h with r|h
 ·exact r
 rcases go h6 h with r|h
 ·exact r
 rcases go h7 h with r|h
 ·exact r
 rcases go h8 h with r|h
 ·exact r
 rcases go h9 h with r|h
 ·exact r
 rcases go h10 h with r|h
 ·exact r
 rcases go h11 h with r|h
 ·exact r
 rcases go h12 h with r|h
 ·exact r
 rcases go h13 h with r|h
 ·exact r
 rcases go h14 h with r|h
 ·exact r
 rcases go h15 h with r|h
 ·exact r
 rcases go h16 h with r|h
 ·exact r
 rcases go h17 h with r|h
 ·exact r
 rcases go h18 h with r|h
 ·exact r
 rcases go h19 h with r|h
 ·exact r
 rcases go h20 h with r|h
 ·exact r
 rcases go h21 h with r|h
 ·exact r
 rcases go h22 h with r|h
 ·exact r
 cases h
theorem take1{r:List Int}(h:1<=r.length):∃x,r.take 1=[x]:=by
 cases r with
 |nil=>cases h
 |cons x r=>exact⟨x,rfl⟩
theorem frm{l:List Int}{c:List (List Int)}{t:List Int}(h:cY shape l=some (c,t)):∃p n k,shape p=some (n,k)/\GH p c n k:=by
 obtain⟨p,r,n,k,xs,_,hs,hn,hr,rfl⟩:=l8 h;refine⟨p,n,k,hs,?_⟩;have f00:n=0->k=0->GH p ((p::r.take n)::xs) 0 0:=by rintro rfl rfl;have hr:some ([],r.drop 0)=some (xs,t):=hr;injection hr with hr;injection hr with e _;subst e;rfl
 have f10:n=1->k=0->GH p ((p::r.take n)::xs) 1 0:=by rintro rfl rfl;have hr:some ([],r.drop 1)=some (xs,t):=hr;injection hr with hr;injection hr with e _;subst e;obtain⟨x,e⟩:=take1 hn;rw[e];exact⟨x,rfl⟩
 have f01:n=0->k=1->GH p ((p::r.take n)::xs) 0 1:=by rintro rfl rfl;obtain⟨_,_,_,e,_⟩:=l9 hr;subst e;exact⟨_,rfl⟩
 have f11:n=1->k=1->GH p ((p::r.take n)::xs) 1 1:=by rintro rfl rfl;obtain⟨_,_,_,e,_⟩:=l9 hr;subst e;obtain⟨x,e⟩:=take1 hn;rw[e];exact⟨x,_,rfl⟩
 have f02:n=0->k=2->GH p ((p::r.take n)::xs) 0 2:=by rintro rfl rfl;obtain⟨_,_,_,_,_,_,e,_⟩:=x6 hr;subst e;exact⟨_,_,rfl⟩
 exact sX (P:=λ_ a b=>n=a->k=b->GH p ((p::r.take n)::xs) a b) hs f10 f11 f11 f00 f00 f10 f10 f00 f00 f10 f10 f01 f01 f10 f01 f00 f01 f01 f01 f11 f02 f01 f02 rfl rfl
theorem Fo{l:List Int}{c:List (List Int)}{t:List Int}(h:cY shape l=some (c,t)):whole c=c:=by
 obtain⟨p,n,k,hs,hf⟩:=frm h;revert hf;refine sX (P:=λp n k=>GH p c n k->whole c=c) hs ?_ ?_ ?_ ?_ ?_ ?_ ?_ ?_ ?_ ?_ ?_ ?_ ?_ ?_ ?_ ?_ ?_ ?_ ?_ ?_ ?_ ?_ ?_
 ·rintro⟨x,rfl⟩;rfl
 ·rintro⟨x,a,rfl⟩;rfl
 ·rintro⟨x,a,rfl⟩;rfl
 ·rintro rfl;rfl
 ·rintro rfl;rfl
 ·rintro⟨x,rfl⟩;rfl
 ·rintro⟨x,rfl⟩;rfl
 ·rintro rfl;rfl
 ·rintro rfl;rfl
 ·rintro⟨x,rfl⟩;rfl
 ·rintro⟨x,rfl⟩;rfl
 ·rintro⟨a,rfl⟩;rfl
 ·rintro⟨a,rfl⟩;rfl
 ·rintro⟨x,rfl⟩;rfl
 ·rintro⟨a,rfl⟩;rfl
 ·rintro rfl;rfl
 ·rintro⟨a,rfl⟩;rfl
 ·rintro⟨a,rfl⟩;rfl
 ·rintro⟨a,rfl⟩;rfl
 ·rintro⟨x,a,rfl⟩;rfl
 ·rintro⟨a,b,rfl⟩;rfl
 ·rintro⟨a,rfl⟩;rfl
 ·rintro⟨a,b,rfl⟩;rfl
theorem BG{a b:Bool}(h:(a&&b)=true):b=true:=(kF.mp h).2
theorem wg{a b:Bool}(h:(a&&b)=true):a=true:=(kF.mp h).1
theorem iC{q:Int->Bool}{a:List Int}{m:Nat}(h:(a.all q&&decide (a.length<=m))=true):a.length<=m:=of_decide_eq_true (BG h)
theorem GJ{zs:List Int}{n:Nat}{c:List (List Int)}{t:List Int}(h:cY shape (zs.drop n)=some (c,t))(ha:asked1 c=true):∃k n',iY zs n k n'/\callOf c=some k/\t=zs.drop n'/\n'<=zs.length:=by
 have bare:∀{p:Int}{k:bQ},shape p=some (0,0)->cY shape (zs.drop n)=some ([[p]],t)->Fk p k->callOf [[p]]=some k->∃k n',iY zs n k n'/\callOf [[p]]=some k/\t=zs.drop n'/\n'<=zs.length:=λ{p k}hs h hk hc=>by obtain⟨a1,a2,a3⟩:=GG hs h;exact⟨k,n+1,.bare a1 hk,hc,a2,a3⟩
 have num:∀{p x:Int}{k:bQ},shape p=some (1,0)->cY shape (zs.drop n)=some ([[p,x]],t)->H_ p x k->callOf [[p,x]]=some k->∃k n',iY zs n k n'/\callOf [[p,x]]=some k/\t=zs.drop n'/\n'<=zs.length:=λ{p x k}hs h hk hc=>by obtain⟨a1,a2,a3,a4⟩:=Ie hs h;exact⟨k,n+2,.num a1 a2 hk,hc,a3,a4⟩
 have list:∀{p:Int}{a:List Int}{k:bQ},shape p=some (0,1)->cY shape (zs.drop n)=some ([[p],a],t)->a.length<=1000->Fl p a k->callOf [[p],a]=some k->∃k n',iY zs n k n'/\callOf [[p],a]=some k/\t=zs.drop n'/\n'<=zs.length:=λ{p a k}hs h hl hk hc=>by
  obtain⟨a1,l,a2,a3,a4,a5⟩:=in_list hs h;have el:a.length=l:=by rw[a4];exact ux a3
  refine⟨k,n+2+l,.list a1 a2 a3 (by omega) (a4▸hk),hc,a5,a3⟩
 have numrow:∀{p x:Int}{a:List Int}{k:bQ},shape p=some (1,1)->cY shape (zs.drop n)=some ([[p,x],a],t)->a.length<=20000->y0 p x a k->callOf [[p,x],a]=some k->∃k n',iY zs n k n'/\callOf [[p,x],a]=some k/\t=zs.drop n'/\n'<=zs.length:=λ{p x a k}hs h hl hk hc=>by
  obtain⟨a1,a2,l,a3,a4,a5,a6⟩:=Dz hs h;have el:a.length=l:=by rw[a5];exact ux a4
  refine⟨k,n+3+l,.numrow a1 a2 a3 a4 (by omega) (a5▸hk),hc,a6,a4⟩
 have two:∀{p:Int}{a b:List Int}{k:bQ},shape p=some (0,2)->cY shape (zs.drop n)=some ([[p],a,b],t)->a.length<=20000->b.length<=1000->Ia p a b k->callOf [[p],a,b]=some k->∃k n',iY zs n k n'/\callOf [[p],a,b]=some k/\t=zs.drop n'/\n'<=zs.length:=λ{p a b k}hs h hl hm hk hc=>by
  obtain⟨a1,l,m,a2,a3,a4,a5,a6,a7,a8⟩:=Ig hs h;have el:a.length=l:=by rw[a6];exact ux a3
  have em:b.length=m:=by rw[a7];exact ux a5
  refine⟨k,n+2+l+1+m,.tworows a1 a2 a3 (by omega) a4 a5 (by omega) (a6▸a7▸hk),hc,a8,a5⟩
 obtain⟨p,n0,k0,hs,hf⟩:=frm h;revert hf;refine sX (P:=λp n0 k0=>GH p c n0 k0->∃k n',iY zs n k n'/\callOf c=some k/\t=zs.drop n'/\n'<=zs.length) hs ?_ ?_ ?_ ?_ ?_ ?_ ?_ ?_ ?_ ?_ ?_ ?_ ?_ ?_ ?_ ?_ ?_ ?_ ?_ ?_ ?_ ?_ ?_
 ·rintro⟨x,rfl⟩;exact num rfl h (.inl ⟨rfl,rfl⟩) rfl
 ·rintro⟨x,a,rfl⟩;have ha:=BG (ha:(_&&(a.all (λz=>natural z 8)&&decide (a.length<=20000)))=true);refine numrow rfl h (iC ha) (.inl ⟨_,(pq (wg ha)).2,.inl ⟨rfl,rfl⟩⟩) ?_;show(i7 _).map _=_;rw[sW (wg ha)];rfl
 ·rintro⟨x,a,rfl⟩;have ha:=BG (ha:(_&&(a.all (λz=>natural z 8)&&decide (a.length<=20000)))=true);refine numrow rfl h (iC ha) (.inl ⟨_,(pq (wg ha)).2,.inr ⟨rfl,rfl⟩⟩) ?_;show(i7 _).map _=_;rw[sW (wg ha)];rfl
 ·rintro rfl;exact bare rfl h (.inl ⟨rfl,rfl⟩) rfl
 ·rintro rfl;exact bare rfl h (.inr (.inl ⟨rfl,rfl⟩)) rfl
 ·rintro⟨x,rfl⟩;exact num rfl h (.inr (.inl ⟨rfl,rfl⟩)) rfl
 ·rintro⟨x,rfl⟩;exact num rfl h (.inr (.inr (.inl ⟨rfl,rfl⟩))) rfl
 ·rintro rfl;exact bare rfl h (.inr (.inr (.inl ⟨rfl,rfl⟩))) rfl
 ·rintro rfl;exact bare rfl h (.inr (.inr (.inr (.inl ⟨rfl,rfl⟩)))) rfl
 ·rintro⟨x,rfl⟩;exact num rfl h (.inr (.inr (.inr (.inl ⟨rfl,rfl⟩)))) rfl
 ·rintro⟨x,rfl⟩;exact num rfl h (.inr (.inr (.inr (.inr (.inl ⟨rfl,rfl⟩))))) rfl
 ·rintro⟨a,rfl⟩;exact list rfl h (iC ha) (.inl ⟨rfl,rfl⟩) rfl
 ·rintro⟨a,rfl⟩;exact list rfl h (iC ha) (.inr (.inl ⟨rfl,rfl⟩)) rfl
 ·rintro⟨x,rfl⟩;exact num rfl h (.inr (.inr (.inr (.inr (.inr ⟨rfl,rfl⟩))))) rfl
 ·rintro⟨a,rfl⟩;exact list rfl h (iC ha) (.inr (.inr (.inl ⟨rfl,rfl⟩))) rfl
 ·rintro rfl;exact bare rfl h (.inr (.inr (.inr (.inr ⟨rfl,rfl⟩)))) rfl
 ·rintro⟨a,rfl⟩;exact list rfl h (iC ha) (.inr (.inr (.inr (.inl ⟨rfl,rfl⟩)))) rfl
 ·rintro⟨a,rfl⟩;exact list rfl h (iC ha) (.inr (.inr (.inr (.inr (.inl ⟨rfl,rfl⟩))))) rfl
 ·rintro⟨a,rfl⟩;exact list rfl h (iC ha) (.inr (.inr (.inr (.inr (.inr (.inl ⟨rfl,rfl⟩)))))) rfl
 ·rintro⟨x,a,rfl⟩;have ha:=iC (BG (ha:(_&&(a.all (λz=>whole60 z)&&decide (a.length<=1000)))=true));exact numrow rfl h (by omega) (.inr ⟨rfl,rfl⟩) rfl
 ·rintro⟨a,b,rfl⟩;have ha:((a.all (λz=>whole60 z)&&decide (a.length<=1000))&&(b.all (λz=>whole60 z)&&decide (b.length<=1000)))=true:=ha;have h1:=iC (wg ha);exact two rfl h (by omega) (iC (BG ha)) (.inl ⟨rfl,rfl⟩) rfl
 ·rintro⟨a,rfl⟩;exact list rfl h (iC ha) (.inr (.inr (.inr (.inr (.inr (.inr ⟨rfl,rfl⟩)))))) rfl
 ·rintro⟨a,b,rfl⟩;have ha:((a.all (λz=>natural z 8)&&decide (a.length<=20000))&&(b.all (λz=>whole60 z)&&decide (b.length<=1000)))=true:=ha;refine two rfl h (iC (wg ha)) (iC (BG ha)) (.inr ⟨_,(pq (wg (wg ha))).2,Fn (wg (BG ha)),rfl,rfl⟩) ?_;show(i7 _).map _=_;rw[sW (wg (wg ha))];rfl
theorem sY{f:Nat}{l:List Int}{cs:List (List (List Int))}(h:gu shape f l=some cs):(l=[]/\cs=[])\/∃f' c t cs',cY shape l=some (c,t)/\gu shape f' t=some cs'/\cs=c::cs'/\l≠[]:=by
 cases l with
 |nil=>
  unfold gu at h
  exact .inl ⟨rfl,(a0 h).symm⟩
 |cons p r=>
  cases f with
  |zero=>cases h
  |succ f=>
   unfold gu at h
   cases hc:cY shape (p::r)with
   |none=>rw[hc]at h;cases h
   |some x=>
    obtain⟨c,t⟩:=x
    rw[hc]at h
    dsimp only at h
    cases hs:gu shape f t with
    |none=>rw[hs]at h;cases h
    |some cs'=>
     rw[hs]at h
     exact .inr ⟨f,c,t,cs',rfl,hs,(a0 h).symm,by simp⟩
theorem Av{cs:List (List (List Int))}:∀{f:Nat}{l:List Int},gu shape f l=some cs->∀c∈cs,whole c=c:=by
 induction cs with
 |nil=>intro f l _ c hc;cases hc
 |cons c0 cs ih=>
  intro f l h c hc
  rcases sY h with⟨_,e⟩|⟨f',c',t,cs',h1,h2,e,_⟩
  ·cases e
  ·injection e with e1 e2;subst e1;subst e2;rcases aF.mp hc with rfl|hc
   ·exact Fo h1
   ·exact ih h2 c hc
end Wk
namespace Wk
open PySem PySem.Spec PyProof.Rows L2 WkR WkZ
open Vastof (Held State)
open PyVastof (shape)
open VastofNeutral (callOf asked1 encode)
theorem GK{X:Cx}{k:Nat}{x:Str}{C:Addr}{ps:List Str}{sp:Sp}{p pos:Pos}(M:G3 X.prog X.w X.K X.mg X.base k x C ps sp)(hr:cT (k+1) X.A)(hg:Gl X x:=by rfl)(hdb:(x==("__debug__":Str))=false:=by decide):PE X (.Call (.Name x p) [] [] pos) (BZ C sp [] E0 nv):=by obtain⟨f,fd,M,F,m,b⟩:=M.ex;exact D9 M F hr hg m b .nil B_ hdb
def tT(H H':Hp):Prop:=∀b o,H b=some o->(∀kvs,o≠.dK kvs)->H' b=some o
theorem tT.seq{K:aj}{H H':Hp}{a:Addr}{xs:List V}(k:tT H H')(h:bZ K H a xs):bZ K H' a xs:=by
 rcases h with(h|⟨o,h⟩)|h
 ·exact .inl (.inl (k _ _ h λ_ z=>nomatch z))
 ·exact .inl (.inr ⟨o,k _ _ h λ_ z=>nomatch z⟩)
 ·exact .inr h
theorem tT.new{H H':Hp}{d:Addr}{o:HO}(k:tT H H')(h:H d=none):tT H (upd H' d o):=λb u e n=>by rw[aA (aB e h)];exact k b u e n
def del(H:Hp)(d:Addr):Hp:=λb=>if b=d then none else H b
theorem y8{H:Hp}{d b:Addr}(h:b≠d):del H d b=H b:=if_neg h
theorem Aw{H:Hp}{d b:Addr}{o:HO}(h:del H d b=some o):b≠d/\H b=some o:=by
 by_cases e:b=d
 ·unfold del at h;rw[if_pos e]at h;cases h
 ·rw[y8 e]at h;exact⟨e,h⟩
theorem fG.del{C:Addr}{H:Hp}{q td:Addr}{D:SD}{s:State}{od:Obj}{u:HO}(S:fG C H q D s)(ht:H td=some (.frz od u)):fG C (Wk.del H td) q D s:=by
 have g:∀{b:Addr}{o:HO},H b=some o->(o≠.frz od u)->Wk.del H td b=some o:=λe n=>by rw[y8 (cn e ht n)];exact e
 have t:∀{l:List (Nat×Addr)}{d:Held},gF H l d->gF (Wk.del H td) l d:=λh=>L2.Paired.mapP h λ_ _ e=>⟨e.1,g e.2 (λz=>nomatch z)⟩;exact⟨g S.ob (λz=>nomatch z),g S.h1 (λz=>nomatch z),g S.h2 (λz=>nomatch z),g S.h3 (λz=>nomatch z),g S.h4 (λz=>nomatch z),t S.t1,t S.t2,t S.t3,t S.t4,S.r1,S.r2,S.r4,S.n12,S.n13,S.n14,S.n23,S.n24,S.n34,S.si⟩
theorem Ax{zs:List Int}(h:qz zs=true):∃cs,gu shape zs.length zs=some cs/\cs.length<=120/\(∀c∈cs,asked1 c=true)/\kz zs=ze (DG fm xk cs):=by
 unfold qz at h;cases hc:gu shape zs.length zs with
 |none=>
  have e:tz zs=none:=by unfold tz;rw[hc]
  rw[e]at h
  cases h
 |some cs=>
  have e:tz zs=some cs:=by unfold tz;rw[hc];show some (cs.map PyVastof.whole)=_;rw[show cs.map PyVastof.whole=cs from(bK (Av hc)).trans (nN cs)]
  rw[e]at h
  simp only[dG]at h
  obtain⟨h1,h2⟩:=h
  unfold PyFlat.atMost at h1
  unfold VastofNeutral.asked at h2
  simp only[dG,bU]at h2
  refine⟨cs,rfl,by simpa using h1,h2.1,?_⟩
  unfold kz
  rw[e]
  rfl
section
variable {P:Program}{w:World}{K:aj}{mg:Str->Option Value}{base:Heap}
def Fp(K:aj):Sp:=λvs H Q _=>∃(a:Addr)(zs:List Int),vs=[.ref a]/\bZ K H a (zs.map V.int)/\qz zs=true/\∀(H':Hp)(p:Addr),H' p=some (.lst ((kz zs).map V.int))->Q (.ref p) H'
theorem BH{f C CT:Addr}{fd:FuncData}(F:eJ K "answers" "answers" su f fd)(T:Bv K CT)(b1:mg "len"=none)(M1:G3 P w K mg base 1 "Store" C ["self"] (oO C))(M2:G3 P w K mg base 1 "Tape" CT ["self","calls"] (qo CT))(M3:Ag P w K mg base 1 CT "is_ended" ["self"] (sP K CT))(C1:dc P w K mg base 9 "answer_next" ["store","tape"] (Fm K C CT)):ck P w K mg base eY 10 f fd ["calls"] (Fp K):=by
 refine F.ok vF ?_ ?_
 ·rintro vs H Q E⟨a,zs,rfl,_⟩;rfl
 ·rintro cdv A outer s H vs Q E hr⟨a,zs,rfl,hS,hask,k⟩;have nd:=vF.nd;have hr1:cT 1 _:=hr.mono (by decide);have hr2:cT 2 _:=hr.mono (by decide);refine⟨_,aq (ba (i:=1) nd rfl (Or.inl rfl) (GK M1 hr2)) (aq (ba (i:=2) nd rfl (Or.inl rfl) (EF M2 hr2 (ai (pv 0) au))) (aq (ba (i:=3) nd rfl (Or.inl rfl) (bE au)) (aq (jd PassesOwn.never (jj (fh (jT M3 T.cl hr1 (pv 2)))) (aq (ba (i:=4) nd rfl (Or.inl rfl) (mn (aS C1 hr (ai (pv 1) (ai (pv 2) au))))) (aq (dr (gH aU bR bS eX (pv 3) (ai (bz (lE (K:=K) rfl) (by rfl) b1 bf (ai (pv 4) au)) au))) (aw (dr (gH aU cu cv fU (pv 3) (ai (pv 4) au))))))) (aw (aL (pv 3)))))),?_⟩;obtain⟨cs,hcs,hcl,hca,hans⟩:=Ax hask;intro q d0 n0 m0 e0;refine⟨q,d0,rfl,ao,λH1 D1 S1 bt1=>⟨rfl,?_⟩⟩;have s1:Same H H1:=Same.made n0 m0 bt1;refine⟨_,rfl,λy dx n1 m1 e1=>?_⟩;refine⟨y,dx,a,rfl,ao,λH2 hy2 bt2=>⟨rfl,?_⟩⟩;have s2:Same H1 H2:=Same.made n1 m1 bt2;have S2:=S1.same s2;have qy:q≠y:=aB S1.ob n1;have ny:H y=none:=s1.free n1;have s12:=s1.trans s2;refine⟨aV _,λtd ntd=>?_⟩;have ntd0:H td=none:=s12.free ntd;have tdq:td≠q:=(aB S2.ob ntd).symm;have tdy:td≠y:=(aB hy2 ntd).symm;have s3:=aC (o:=.lst []) ntd;refine⟨λm σ' H'=>∃(D:SD)(st:State)(n f:Nat)(acc:List Int)(cs2:List (List (List Int)))(v4:Option V),σ'=[some (.ref a),some (.ref q),some (.ref y),some (.ref td),v4]/\fG C (del H' td) q D st/\H' y=some (.ins CT dx (tf a n))/\tT H H'/\H' td=some (.lst (acc.map V.int))/\kz zs=acc++ze (DG fm st cs2)/\gu shape f (zs.drop n)=some cs2/\(∀c∈cs2,asked1 c=true)/\acc.length+10000*cs2.length<=1200000/\m=cs2.length,⟨_,D1,xk,0,zs.length,[],cs,none,rfl,S2.same (λb o e=>by rw[y8 (aB e ntd)];exact s3 _ _ e),s3 _ _ hy2,λb o e _=>s3 _ _ (s12 _ _ e),ao,by rw[hans];rfl,hcs,hca,by simp;omega,rfl⟩,?_⟩;rintro m σ' H'⟨D,st,n,f,acc,cs2,v4,rfl,S',hy',kn,htd,ha,hc2,hca2,hln,rfl⟩;have hS':=kn.seq hS;refine⟨_,rfl,y,dx,_,rfl,hy',rA _ _ (by decide+kernel) (by decide+kernel),y,dx,a,zs,n,rfl,hy',hS',_,rfl,?_⟩;refine eP (λhlt=>?_) λhge=>?_
  ·refine⟨_,λ_ _ h=>h,?_⟩;have hlt:n<zs.length:=by omega
   rcases sY hc2 with⟨h1,_⟩|⟨f',c,t,cs',h1,h2,rfl,_⟩
   ·rw[List.drop_eq_nil_iff]at h1;omega
   obtain⟨kc,n',hat,hk,rfl,_⟩:=GJ h1 (hca2 c (aY ..));refine⟨td,_,htd,trivial,λod=>?_⟩;have bq:g8 td H' (upd H' td (.frz od (.lst (acc.map V.int)))):=(g8.refl _ _).put;have hy3:(upd H' td (.frz od (.lst (acc.map V.int)))) y=some (.ins CT dx (tf a n)):=bq _ _ hy' tdy.symm;have S3:fG C (upd H' td (.frz od (.lst (acc.map V.int)))) q D st:=S'.same λb o e=>by obtain⟨n1,e1⟩:=Aw e;exact bq _ _ e1 n1
   have kn3:tT H (upd H' td (.frz od (.lst (acc.map V.int)))):=kn.new ntd0;have htd3:(upd H' td (.frz od (.lst (acc.map V.int)))) td=some (.frz od (.lst (acc.map V.int))):=ao;generalize upd H' td (.frz od (.lst (acc.map V.int)))=H3 at hy3 S3 kn3 htd3;refine⟨_,rfl,_,rfl,q,y,dx,a,D,st,zs,n,kc,n',rfl,S3,qy,hy3,kn3.seq hS,hat,λH4 r D' S4 hy4 fk hr4=>?_⟩;have htd4:H4 td=some (.frz od (.lst (acc.map V.int))):=fk _ _ htd3 tdq tdy λ_ z=>nomatch z;refine⟨htd4,?_⟩;have rtd:r≠td:=cn hr4 htd4 (λz=>nomatch z);have S5:=S4.del htd4;have kn4:tT H H4:=λb o e nk=>fk b o (kn3 b o e nk) (aB e n0) (aB e ny) nk;have stp:fm st c=((aR st kc).1,encode (aR st kc).2):=by unfold fm;rw[hk]
   have el:=Fg S3.si kc;have ee:=GA (aR st kc).2;generalize hen:encode (aR st kc).2=en at stp ee;have hr5:(upd H4 td (.lst (acc.map V.int))) r=some (.lst (en.map V.int)):=by rw[aA rtd,hr4];unfold Aa;rw[hen]
   have htd5:(upd H4 td (.lst (acc.map V.int))) td=some (.lst (acc.map V.int)):=ao;have hln2:acc.length+10000*(cs'.length+1)<=1200000:=hln;refine⟨_,rfl,.inl ⟨rfl,_,bZ.of htd5⟩,_,rfl,r,_,rfl,bZ.of hr5,td,_,_,rfl,rfl,htd5,?_,?_⟩
   ·rw[ae];exact lK (by omega)
   rw[mh];have hr6:(upd H4 td (.lst (acc.map V.int++[V.int ((en.map V.int).length:Nat)]))) r=some (.lst (en.map V.int)):=by rw[aA rtd];rw[aA rtd]at hr5;exact hr5
   refine⟨_,rfl,.inl ⟨rfl,_,bZ.of ao⟩,_,rfl,td,r,_,_,rfl,rfl,ao,hr6,?_,?_⟩
   ·rw[bD,ae,ae];exact cB (lK (by simp;omega))
   rw[mh];refine⟨cs'.length,by simp,D',(aR st kc).1,n',f',acc++((en.length:Int)::en),cs',_,rfl,S5.same λb o e=>?_,by rw[aA tdy.symm];exact hy4,kn4.new ntd0,?_,?_,h2,λc' hc'=>hca2 c' (aJ _ hc'),?_,rfl⟩
   ·obtain⟨n1,e1⟩:=Aw e;rw[y8 n1,aA n1];exact e1
   ·rw[ao];simp
   ·rw[ha];show acc++ze ((fm st c).2::DG fm (fm st c).1 cs')=_;rw[stp];unfold ze;simp
   ·simp;omega
  ·have hge:zs.length<=n:=hge;rw[gr hge]at hc2;have e0:cs2=[]:=by
    rcases sY hc2 with⟨_,h⟩|⟨_,_,_,_,_,_,_,h⟩
    ·exact h
    ·exact absurd rfl h
   subst e0;have ha:kz zs=acc++[]:=ha;rw[cP]at ha;exact⟨_,rfl,k H' td (by rw[ha];exact htd)⟩
end
end Wk
namespace Wk
open PySem PySem.Spec PyProof.Rows L2 WkR WkZ
structure FAt(K:aj)(mg:Str->Option Value)(x:Str)(st:Stmt)(f:Addr)(fd:FuncData):Prop where
 fn:eJ K x x st f fd
 mg:mg x=some (.ref f)
def At(K:aj)(mg:Str->Option Value)(x:Str)(st:Stmt):Prop:=∃f fd,FAt K mg x st f fd
theorem nB(P:Program)(w:World){K:aj}{mg:Str->Option Value}(base:Heap){k:Nat}{x:Str}{st:Stmt}{ps:List Str}{sp:Sp}(A:At K mg x st)(ok:∀f fd,eJ K x x st f fd->ck P w K mg base eY k f fd ps sp)(hn:ps.length=1:=by rfl)(b:∀(kV doc pm:Value)(an:Option Addr)(cdv ct u0:Value),bindArgs (dO x x (ip st) (gX st) (aH st) .none kV doc pm an cdv ct) ⟨[u0],[]⟩=pure (ps.zip [u0]):=by intros;rfl):dc P w K mg base k x ps sp:=by obtain⟨f,fd,F⟩:=A;refine⟨f,fd,ok f fd F.fn,F.mg,F.fn.kp,F.fn.binds λ_ _ _ _ _ _ us hl=>?_⟩;rw[hn]at hl;match us,hl with|[_],_=>exact b ..
theorem fT(P:Program)(w:World){K:aj}{mg:Str->Option Value}(base:Heap){k:Nat}{x:Str}{st:Stmt}{ps:List Str}{sp:Sp}(A:At K mg x st)(ok:∀f fd,eJ K x x st f fd->ck P w K mg base eY k f fd ps sp)(hn:ps.length=2:=by rfl)(b:∀(kV doc pm:Value)(an:Option Addr)(cdv ct u0 u1:Value),bindArgs (dO x x (ip st) (gX st) (aH st) .none kV doc pm an cdv ct) ⟨[u0,u1],[]⟩=pure (ps.zip [u0,u1]):=by intros;rfl):dc P w K mg base k x ps sp:=by obtain⟨f,fd,F⟩:=A;refine⟨f,fd,ok f fd F.fn,F.mg,F.fn.kp,F.fn.binds λ_ _ _ _ _ _ us hl=>?_⟩;rw[hn]at hl;match us,hl with|[_,_],_=>exact b ..
theorem sZ(P:Program)(w:World){K:aj}{mg:Str->Option Value}(base:Heap){k:Nat}{x:Str}{st:Stmt}{ps:List Str}{sp:Sp}(A:At K mg x st)(ok:∀f fd,eJ K x x st f fd->ck P w K mg base eY k f fd ps sp)(hn:ps.length=3:=by rfl)(b:∀(kV doc pm:Value)(an:Option Addr)(cdv ct u0 u1 u2:Value),bindArgs (dO x x (ip st) (gX st) (aH st) .none kV doc pm an cdv ct) ⟨[u0,u1,u2],[]⟩=pure (ps.zip [u0,u1,u2]):=by intros;rfl):dc P w K mg base k x ps sp:=by obtain⟨f,fd,F⟩:=A;refine⟨f,fd,ok f fd F.fn,F.mg,F.fn.kp,F.fn.binds λ_ _ _ _ _ _ us hl=>?_⟩;rw[hn]at hl;match us,hl with|[_,_,_],_=>exact b ..
theorem Je(P:Program)(w:World){K:aj}{mg:Str->Option Value}(base:Heap){k:Nat}{x:Str}{st:Stmt}{ps:List Str}{sp:Sp}(A:At K mg x st)(ok:∀f fd,eJ K x x st f fd->ck P w K mg base eY k f fd ps sp)(hn:ps.length=4:=by rfl)(b:∀(kV doc pm:Value)(an:Option Addr)(cdv ct u0 u1 u2 u3:Value),bindArgs (dO x x (ip st) (gX st) (aH st) .none kV doc pm an cdv ct) ⟨[u0,u1,u2,u3],[]⟩=pure (ps.zip [u0,u1,u2,u3]):=by intros;rfl):dc P w K mg base k x ps sp:=by obtain⟨f,fd,F⟩:=A;refine⟨f,fd,ok f fd F.fn,F.mg,F.fn.kp,F.fn.binds λ_ _ _ _ _ _ us hl=>?_⟩;rw[hn]at hl;match us,hl with|[_,_,_,_],_=>exact b ..
theorem bV{K:aj}{h:Heap}{mg:Str->Option Value}(X:K.In h)(G:h.Ns mainGlobals mg){x:Str}{st:Stmt}{f:Addr}{oc:Value}{od an:Option Addr}{osl:Array (Option Value)}{kV doc pm cdv ct:Value}(a:PySem.W.nsIn K mainGlobals x=some (some (.ref f)))(l:K.lookup f=some ⟨oc,od,.func (dO x x (ip st) (gX st) (aH st) .none kV doc pm an cdv ct),osl⟩)(c:jx K cdv x=true)(k:eG K (.ref f)=true):At K mg x st:=⟨f,_,A1 l c k,PySem.W.mg_of X G a⟩
theorem cN{K:aj}{h:Heap}{mg:Str->Option Value}(X:K.In h)(G:h.Ns mainGlobals mg){x:Str}{v:Int}{t:Tok}(a:PySem.W.nsIn K mainGlobals x=some (some (.int v t))):GI mg x v:=⟨t,PySem.W.mg_of X G a⟩
theorem pU{K:aj}{C:Addr}{f:Str}(h:dy K (.ref C) f=some none):gf K C f:=h
theorem y9{K:aj}{C:Addr}{qual:Str}{st:Stmt}{f:Addr}{oc:Value}{od an:Option Addr}{osl:Array (Option Value)}{kV doc pm cdv ct:Value}(mk:Az K C=true)(a:dy K (.ref C) "__init__"=some (some (.ref f)))(i:qt K (.ref f)=true)(kc:eG K (.ref C)=true)(l:K.lookup f=some ⟨oc,od,.func (dO "__init__" qual (ip st) (gX st) (aH st) .none kV doc pm an cdv ct),osl⟩)(c:jx K cdv qual=true)(k:eG K (.ref f)=true):∃f fd,Mk K C f/\eJ K "__init__" qual st f fd:=⟨f,_,⟨mk,a,i,kc⟩,A1 l c k⟩
theorem y_{K:aj}{C:Addr}{m qual:Str}{st:Stmt}{f:Addr}{oc:Value}{od an:Option Addr}{osl:Array (Option Value)}{kV doc pm cdv ct:Value}(a:dy K (.ref C) m=some (some (.ref f)))(i:qt K (.ref f)=true)(l:K.lookup f=some ⟨oc,od,.func (dO m qual (ip st) (gX st) (aH st) .none kV doc pm an cdv ct),osl⟩)(c:jx K cdv qual=true)(k:eG K (.ref f)=true):∃f fd,zj K C m f/\eJ K m qual st f fd:=⟨f,_,⟨a,i,k⟩,A1 l c k⟩
theorem all_mk{P:Program}{w:World}{K:aj}{mg:Str->Option Value}{fa CS CR CT:Addr}(hfa:mg "answers"=some (.ref fa))(hb_len:mg "len"=none)(hb_ord:mg "ord"=none)(hb_str:mg "str"=none)(hb_sorted:mg "sorted"=none)(hb_set:mg "set"=none)(hb_sum:mg "sum"=none)(hb_all:mg "all"=none)(hb_range:mg "range"=none)(hb_any:mg "any"=none)(hb_list:mg "list"=none)(hb_reversed:mg "reversed"=none)(hb_min:mg "min"=none)(hb_dict:mg "dict"=none)(hb_zip:mg "zip"=none)(hg_ZERO:GI mg "ZERO" 48)(hg_NINE:GI mg "NINE" 57)(hg_MOST_DIGITS:GI mg "MOST_DIGITS" 19)(hg_BEYOND_ALL:GI mg "BEYOND_ALL" 10000000000000000000)(hg_AT:GI mg "AT" 64)(hg_SEMICOLON:GI mg "SEMICOLON" 59)(hg_DIGITS_LIMIT:GI mg "DIGITS_LIMIT" 9)(hg_COLON:GI mg "COLON" 58)(hg_LINE_END:GI mg "LINE_END" 10)(hg_DOT:GI mg "DOT" 46)(hg_LAST_PLACE:GI mg "LAST_PLACE" 1023)(hg_PLACE:GI mg "PLACE" (-1))(hg_ABSENT:GI mg "ABSENT" (-7))(hg_NO_REFUSAL:GI mg "NO_REFUSAL" 0)(hg_LIST_LIMIT:GI mg "LIST_LIMIT" 64)(hg_LIMIT:GI mg "LIMIT" (-9))(hg_CLASH:GI mg "CLASH" (-4))(hg_BROKEN:GI mg "BROKEN" (-5))(hg_FULL:GI mg "FULL" (-6))(hg_ROOM_LIMIT:GI mg "ROOM_LIMIT" 65536)(hg_LONG:GI mg "LONG" (-2))(hg_TEXT_LIMIT:GI mg "TEXT_LIMIT" 4096)(hg_TWICE:GI mg "TWICE" (-3))(hg_STAGE_LIMIT:GI mg "STAGE_LIMIT" 64)(hg_HELD:GI mg "HELD" (-8))(hg_PARCEL_LIMIT:GI mg "PARCEL_LIMIT" 8192)(hg_RULE:GI mg "RULE" (-11))(hg_FORM:GI mg "FORM" (-10))(hg_COMMIT:GI mg "COMMIT" 3)(hg_DROP:GI mg "DROP" 4)(hg_COUNTS:GI mg "COUNTS" 7)(hg_VALID:GI mg "VALID" 8)(hg_ROOM:GI mg "ROOM" 0)(hg_GET:GI mg "GET" 5)(hg_PINNED:GI mg "PINNED" 6)(hg_REFS:GI mg "REFS" 9)(hg_REFERRERS:GI mg "REFERRERS" 10)(hg_CLOSURE:GI mg "CLOSURE" 11)(hg_ABOVE:GI mg "ABOVE" 12)(hg_ORDER:GI mg "ORDER" 14)(hg_TAKE:GI mg "TAKE" 16)(hg_SWEEP:GI mg "SWEEP" 17)(hg_LOSE:GI mg "LOSE" 18)(hg_ADD:GI mg "ADD" 1)(hg_STAGE:GI mg "STAGE" 2)(hg_MISSING:GI mg "MISSING" 20)(hg_KNOT:GI mg "KNOT" 13)(hg_TOPS:GI mg "TOPS" 15)(hg_FREED:GI mg "FREED" 19)(hg_WRITE:GI mg "WRITE" 21)(hg_READ:GI mg "READ" 22)(TS:gE K CS)(TR:Gf K CR)(TT:Bv K CT)(mS:mg "Store"=some (.ref CS))(mR:mg "Record"=some (.ref CR))(mT:mg "Tape"=some (.ref CT))(A_numeral_end:At K mg "numeral_end" k8)(A_byte_stands:At K mg "byte_stands" k7)(A_number_between:At K mg "number_between" iR)(A_numeral:At K mg "numeral" oX)(A_digits_end:At K mg "digits_end" mE)(A_mention_spans:At K mg "mention_spans" jn)(A_mentioned_numbers:At K mg "mentioned_numbers" fw)(A_renamed_text:At K mg "renamed_text" j6)(A_Record:∃f fd,Mk K CR f/\eJ K "__init__" "Record.__init__" iU f fd)(A_field_end:At K mg "field_end" ou)(A_record_at:At K mg "record_at" ox)(A_parcel_records:At K mg "parcel_records" iV)(A_is_place:At K mg "is_place" qc)(A_load_of:At K mg "load_of" oY)(A_place_refusal:At K mg "place_refusal" jq)(A_list_refusal:At K mg "list_refusal" gh)(A_keys_of:At K mg "keys_of" rZ)(A_without:At K mg "without" lX)(A_told_numbers:At K mg "told_numbers" iy)(A_is_rule:At K mg "is_rule" o5)(A_rule_names:At K mg "rule_names" mK)(A_clashes:At K mg "clashes" oZ)(A_is_broken:At K mg "is_broken" kT)(A_new_places:At K mg "new_places" jO)(A_batch_refusal:At K mg "batch_refusal" gY)(A_admit:At K mg "admit" yy)(A_answer_room:At K mg "answer_room" k9)(A_text_refusal:At K mg "text_refusal" j8)(A_answer_add:At K mg "answer_add" mF)(A_answer_stage:At K mg "answer_stage" j9)(A_answer_commit:At K mg "answer_commit" jr)(A_answer_drop:At K mg "answer_drop" k_)(A_answer_get:At K mg "answer_get" mG)(A_answer_pinned:At K mg "answer_pinned" js)(A_answer_counts:At K mg "answer_counts" jt)(A_spread:At K mg "spread" vn)(A_referrers_among:At K mg "referrers_among" iw)(A_closure_of:At K mg "closure_of" mH)(A_above_of:At K mg "above_of" qd)(A_answer_valid:At K mg "answer_valid" kb)(A_answer_refs:At K mg "answer_refs" lx)(A_answer_referrers:At K mg "answer_referrers" fN)(A_answer_closure:At K mg "answer_closure" iS)(A_answer_above:At K mg "answer_above" kg)(A_knot_of:At K mg "knot_of" o4)(A_answer_knot:At K mg "answer_knot" ly)(A_answer_freed:At K mg "answer_freed" kj)(A_let_go:At K mg "let_go" vr)(A_are_needed:At K mg "are_needed" jP)(A_answer_take:At K mg "answer_take" lj)(A_answer_sweep:At K mg "answer_sweep" ka)(A_answer_lose:At K mg "answer_lose" lq)(A_Store:∃f fd,Mk K CS f/\eJ K "__init__" "Store.__init__" jo f fd)(A_Tape:∃f fd,Mk K CT f/\eJ K "__init__" "Tape.__init__" kq f fd)(A_is_ended:∃f fd,zj K CT "is_ended" f/\eJ K "is_ended" "Tape.is_ended" ju f fd)(A_take_number:∃f fd,zj K CT "take_number" f/\eJ K "take_number" "Tape.take_number" g_ f fd)(A_take_row:∃f fd,zj K CT "take_row" f/\eJ K "take_row" "Tape.take_row" jv f fd)(A_finish_order:At K mg "finish_order" eO)(A_knots_among:At K mg "knots_among" lu)(A_heads_of:At K mg "heads_of" qe)(A_needs_of:At K mg "needs_of" qf)(A_needers_of:At K mg "needers_of" mI)(A_copying_order:At K mg "copying_order" gZ)(A_top_places:At K mg "top_places" mJ)(A_answer_tops:At K mg "answer_tops" lz)(A_answer_order:At K mg "answer_order" kh)(A_answer_missing:At K mg "answer_missing" iT)(A_parcel_of:At K mg "parcel_of" oy)(A_answer_write:At K mg "answer_write" km)(A_admit_texts:At K mg "admit_texts" gR)(A_answer_read:At K mg "answer_read" gS)(A_answer_bare:At K mg "answer_bare" lC)(A_answer_with_number:At K mg "answer_with_number" gj)(A_answer_with_list:At K mg "answer_with_list" hC)(A_answer_with_number_and_row:At K mg "answer_with_number_and_row" eh)(A_answer_with_two_rows:At K mg "answer_with_two_rows" fO)(A_answer_next:At K mg "answer_next" lD)(A_answers:At K mg "answers" su):∃fd:FuncData,(∀(s:Shared)(us:List Value),us.length=(["calls"]:List Str).length->BindsTo s fd ⟨us,[]⟩ ((["calls"]:List Str).zip us))/\∀base:Heap,K.In base->base.Ns mainGlobals mg->ck P w K mg base eY 10 fa fd ["calls"] (Fp K):=by
 have N:He mg:=⟨hg_ROOM,hg_ADD,hg_STAGE,hg_COMMIT,hg_DROP,hg_GET,hg_PINNED,hg_COUNTS,hg_VALID,hg_REFS,hg_REFERRERS,hg_CLOSURE,hg_ABOVE,hg_KNOT,hg_ORDER,hg_TOPS,hg_TAKE,hg_SWEEP,hg_LOSE,hg_FREED,hg_MISSING,hg_WRITE,hg_READ⟩;obtain⟨f,fd,F⟩:=A_answers;have e:=hfa.symm.trans F.mg;cases e;refine⟨fd,?_,λbase _ _=>?_⟩
 ·obtain⟨oc,od,kV,doc,pm,an,cdv,ct,osl,rfl,lk,hcd⟩:=F.fn.ex;exact λs us hu=>match us,hu with|[_],_=>.of_eq rfl
 have C_numeral_end:=fT P w base A_numeral_end λ_ _ F=>vG F hb_len hg_ZERO hg_NINE;have C_byte_stands:=sZ P w base A_byte_stands λ_ _ F=>vI F hb_len;have C_number_between:=sZ P w base A_number_between λ_ _ F=>qZ F hg_ZERO hg_MOST_DIGITS hg_BEYOND_ALL;have C_numeral:=nB P w base A_numeral λ_ _ F=>Bk F hb_ord hb_str;have C_digits_end:=fT P w base A_digits_end λ_ _ F=>wR F hg_AT hg_SEMICOLON C_numeral_end C_byte_stands;have C_mention_spans:=nB P w base A_mention_spans λ_ _ F=>sy F hb_len C_digits_end;have C_mentioned_numbers:=nB P w base A_mentioned_numbers λ_ _ F=>yJ F hb_sorted hb_set C_mention_spans C_number_between;have C_renamed_text:=fT P w base A_renamed_text λ_ _ F=>Bl F C_mention_spans C_number_between C_numeral;have Mk_Record:G3 P w K mg base 1 "Record" CR ["self","place","text","end"] (sC CR):=by obtain⟨f,fd,M,F⟩:=A_Record;exact⟨f,fd,M,zX F TR,mR,F.binds (ps:=["self","place","text","end"]) λ_ _ _ _ _ _ us hl=>match us,hl with|[_,_,_,_],_=>rfl⟩
 have C_field_end:=fT P w base A_field_end λ_ _ F=>yL F hg_DIGITS_LIMIT hg_COLON C_numeral_end C_byte_stands;have C_record_at:=fT P w base A_record_at λ_ _ F=>yN F hg_LINE_END C_field_end C_byte_stands C_number_between Mk_Record;have C_parcel_records:=nB P w base A_parcel_records λ_ _ F=>ra F TR hb_len hg_DOT C_byte_stands C_record_at;have C_is_place:=nB P w base A_is_place λ_ _ F=>z0 F hg_LAST_PLACE;have C_load_of:=nB P w base A_load_of λ_ _ F=>Bn F TS hb_sum hb_len;have C_place_refusal:=fT P w base A_place_refusal λ_ _ F=>sD F TS hg_PLACE hg_ABSENT hg_NO_REFUSAL C_is_place;have C_list_refusal:=fT P w base A_list_refusal λ_ _ F=>ud F TS hb_len hb_all hg_LIST_LIMIT hg_PLACE hg_ABSENT hg_NO_REFUSAL hg_LIMIT C_is_place;have C_keys_of:=nB P w base A_keys_of λ_ _ F=>Bo F;have C_without:=fT P w base A_without λ_ _ F=>Bp F C_keys_of;have C_told_numbers:=nB P w base A_told_numbers λ_ _ F=>Gj F hb_len hb_range;have C_is_rule:=nB P w base A_is_rule λ_ _ F=>Bq F hb_len hb_any hb_set C_told_numbers;have C_rule_names:=nB P w base A_rule_names λ_ _ F=>wU F hb_len hb_range;have C_clashes:=fT P w base A_clashes λ_ _ F=>Br F TS hb_any;have C_is_broken:=sZ P w base A_is_broken λ_ _ F=>yR F TS hb_all;have C_new_places:=fT P w base A_new_places λ_ _ F=>wV F TS hb_sorted;have C_batch_refusal:=sZ P w base A_batch_refusal λ_ _ F=>sF F TS hb_sum hb_len hg_CLASH hg_BROKEN hg_FULL hg_NO_REFUSAL C_clashes C_is_broken C_load_of C_new_places;have C_admit:=fT P w base A_admit λ_ _ F=>ET F TS hg_NO_REFUSAL C_mentioned_numbers C_batch_refusal C_new_places;have C_answer_room:=fT P w base A_answer_room λ_ _ F=>Gn F TS hg_ROOM_LIMIT hg_LIMIT hg_FULL C_load_of;have C_text_refusal:=fT P w base A_text_refusal λ_ _ F=>ue F hb_len hg_PLACE hg_LONG hg_NO_REFUSAL hg_TEXT_LIMIT C_is_place;have C_answer_add:=sZ P w base A_answer_add λ_ _ F=>HP F TS hb_len hg_NO_REFUSAL C_text_refusal C_admit;have C_answer_stage:=sZ P w base A_answer_stage λ_ _ F=>EV F TS hb_len hg_NO_REFUSAL hg_TWICE hg_LIMIT hg_STAGE_LIMIT C_text_refusal;have C_answer_commit:=nB P w base A_answer_commit λ_ _ F=>Dl F TS C_admit;have C_answer_drop:=nB P w base A_answer_drop λ_ _ F=>Gp F TS hb_len;have C_answer_get:=fT P w base A_answer_get λ_ _ F=>HQ F TS hg_NO_REFUSAL C_place_refusal;have C_answer_pinned:=fT P w base A_answer_pinned λ_ _ F=>Dm F TS hg_PLACE hg_ABSENT C_is_place;have C_answer_counts:=nB P w base A_answer_counts λ_ _ F=>Dn F TS hb_len C_load_of;have C_spread:=sZ P w base A_spread λ_ _ F=>Dq F hb_len hb_list hb_sorted;have C_referrers_among:=fT P w base A_referrers_among λ_ _ F=>yS F TS;have C_closure_of:=fT P w base A_closure_of λ_ _ F=>wW F TS C_spread;have C_above_of:=fT P w base A_above_of λ_ _ F=>Ac F TS C_spread C_referrers_among;have C_answer_valid:=nB P w base A_answer_valid λ_ _ F=>EW F TS hb_sorted;have C_answer_refs:=fT P w base A_answer_refs λ_ _ F=>Gq F TS hg_NO_REFUSAL C_place_refusal;have C_answer_referrers:=fT P w base A_answer_referrers λ_ _ F=>yT F TS hg_NO_REFUSAL hb_sorted C_place_refusal;have C_answer_closure:=fT P w base A_answer_closure λ_ _ F=>Bt F hg_NO_REFUSAL C_list_refusal C_closure_of;have C_answer_above:=fT P w base A_answer_above λ_ _ F=>EX F hg_NO_REFUSAL C_list_refusal C_above_of;have C_knot_of:=fT P w base A_knot_of λ_ _ F=>Bu F C_keys_of C_closure_of C_above_of;have C_answer_knot:=fT P w base A_answer_knot λ_ _ F=>Gr F hg_NO_REFUSAL C_place_refusal C_knot_of;have C_answer_freed:=sZ P w base A_answer_freed λ_ _ F=>EY F hg_NO_REFUSAL C_place_refusal C_list_refusal C_closure_of C_without;have C_let_go:=fT P w base A_let_go λ_ _ F=>Dt F TS;have C_are_needed:=fT P w base A_are_needed λ_ _ F=>wY F TS hb_any C_keys_of C_without;have C_answer_take:=fT P w base A_answer_take λ_ _ F=>Gs F hb_sorted hb_set hg_NO_REFUSAL hg_HELD C_list_refusal C_are_needed C_let_go;have C_answer_sweep:=fT P w base A_answer_sweep λ_ _ F=>EZ F TS hb_sorted hg_NO_REFUSAL C_list_refusal C_closure_of C_let_go C_without;have C_answer_lose:=fT P w base A_answer_lose λ_ _ F=>Gu F hg_NO_REFUSAL C_list_refusal C_above_of C_let_go;have Mk_Store:G3 P w K mg base 1 "Store" CS ["self"] (oO CS):=by obtain⟨f,fd,M,F⟩:=A_Store;exact⟨f,fd,M,wZ F TS hg_ROOM_LIMIT,mS,F.binds (ps:=["self"]) λ_ _ _ _ _ _ us hl=>match us,hl with|[_],_=>rfl⟩
 have Mk_Tape:G3 P w K mg base 1 "Tape" CT ["self","calls"] (qo CT):=by obtain⟨f,fd,M,F⟩:=A_Tape;exact⟨f,fd,M,yU F TT,mT,F.binds (ps:=["self","calls"]) λ_ _ _ _ _ _ us hl=>match us,hl with|[_,_],_=>rfl⟩
 have Mt_is_ended:Ag P w K mg base 1 CT "is_ended" ["self"] (sP K CT):=by obtain⟨f,fd,M,F⟩:=A_is_ended;exact⟨f,fd,M,Af F TT hb_len,F.binds (ps:=["self"]) λ_ _ _ _ _ _ us hl=>match us,hl with|[_],_=>rfl⟩
 have Mt_take_number:Ag P w K mg base 1 CT "take_number" ["self"] (jS K CT):=by obtain⟨f,fd,M,F⟩:=A_take_number;exact⟨f,fd,M,vW F TT,F.binds (ps:=["self"]) λ_ _ _ _ _ _ us hl=>match us,hl with|[_],_=>rfl⟩
 have Mt_take_row:Ag P w K mg base 2 CT "take_row" ["self"] (sQ K CT):=by obtain⟨f,fd,M,F⟩:=A_take_row;exact⟨f,fd,M,Ah F TT Mt_take_number,F.binds (ps:=["self"]) λ_ _ _ _ _ _ us hl=>match us,hl with|[_],_=>rfl⟩
 have C_finish_order:=fT P w base A_finish_order λ_ _ F=>Du F TS hb_len;have C_knots_among:=fT P w base A_knots_among λ_ _ F=>vX F hb_reversed C_referrers_among C_finish_order C_spread;have C_heads_of:=nB P w base A_heads_of λ_ _ F=>Ak F;have C_needs_of:=fT P w base A_needs_of λ_ _ F=>Al F TS hb_list C_heads_of;have C_needers_of:=nB P w base A_needers_of λ_ _ F=>w8 F;have C_copying_order:=fT P w base A_copying_order λ_ _ F=>sU F TS hb_len hb_min C_knots_among C_closure_of C_needs_of C_needers_of C_keys_of;have C_top_places:=nB P w base A_top_places λ_ _ F=>w9 F TS hb_len hb_sorted C_knots_among C_needs_of C_needers_of;have C_answer_tops:=nB P w base A_answer_tops λ_ _ F=>Gx F C_top_places;have C_answer_order:=fT P w base A_answer_order λ_ _ F=>E7 F hg_NO_REFUSAL C_list_refusal C_copying_order;have C_answer_missing:=sZ P w base A_answer_missing λ_ _ F=>BA F hg_NO_REFUSAL C_list_refusal C_copying_order C_closure_of C_without;have C_parcel_of:=fT P w base A_parcel_of λ_ _ F=>yY F hb_len hg_COLON hg_LINE_END hg_DOT C_numeral;have C_answer_write:=fT P w base A_answer_write λ_ _ F=>E9 F TS hb_len hg_NO_REFUSAL hg_PARCEL_LIMIT hg_LONG C_list_refusal C_copying_order C_parcel_of;have C_admit_texts:=sZ P w base A_admit_texts λ_ _ F=>wb F hb_len hb_all hb_set hb_any hb_dict hb_zip hg_PLACE hg_TWICE hg_LONG hg_TEXT_LIMIT C_is_place C_admit;have C_answer_read:=sZ P w base A_answer_read λ_ _ F=>Gz F TR hb_len hg_PARCEL_LIMIT hg_LONG hg_RULE hg_FORM C_is_rule C_parcel_records C_rule_names C_renamed_text C_admit_texts;have C_answer_bare:=fT P w base A_answer_bare λ_ _ F=>GB F hg_COMMIT hg_DROP hg_COUNTS hg_VALID C_answer_commit C_answer_drop C_answer_counts C_answer_valid C_answer_tops;have C_answer_with_number:=sZ P w base A_answer_with_number λ_ _ F=>we F hg_ROOM hg_GET hg_PINNED hg_REFS hg_REFERRERS C_answer_room C_answer_get C_answer_pinned C_answer_refs C_answer_referrers C_answer_knot;have C_answer_with_list:=sZ P w base A_answer_with_list λ_ _ F=>yZ F hg_CLOSURE hg_ABOVE hg_ORDER hg_TAKE hg_SWEEP hg_LOSE C_answer_closure C_answer_above C_answer_order C_answer_take C_answer_sweep C_answer_lose C_answer_write;have C_answer_with_number_and_row:=Je P w base A_answer_with_number_and_row λ_ _ F=>BE F hg_ADD hg_STAGE C_answer_add C_answer_stage C_answer_freed;have C_answer_with_two_rows:=Je P w base A_answer_with_two_rows λ_ _ F=>Au F hg_MISSING C_answer_missing C_answer_read;have C_answer_next:=fT P w base A_answer_next λ_ _ F=>GF F N TT Mt_take_number Mt_take_row C_answer_bare C_answer_with_number C_answer_with_list C_answer_with_number_and_row C_answer_with_two_rows;exact BH F.fn TT hb_len Mk_Store Mk_Tape Mt_is_ended C_answer_next
end Wk
open PySem PySem.W PyProof.Rows
namespace PySem.W.Fast
def tw10723036056831280174:=0
def tw13795028887911801145:=0
def tw10936234532570482889:=0
def tw14393018156927086516:=0
def tw17201922837357000358:=0
def tw15706287329467355538:=0
def tw5610525590415676577:=0
def tw603486012259823073:=0
def tw17871247590399664494:=0
def tw6041053179351767963:=0
def tw5464249130604568966:=0
def tw6732278136485273779:=0
def tw7622189213463338994:=0
def tw16174237402835755387:=0
def tw14789482734357322005:=0
def tw5998494316730675169:=0
def tw1237526107529894201:=0
def tw16304565214788822550:=0
def tw15125423096398002144:=0
def tw14572249696005534516:=0
def tw17424819923214408536:=0
def tw17235964942018880215:=0
def tw17474461844812460091:=0
def tw10025015153582402229:=0
def tw9977026232950597503:=0
def tw4840127217396280452:=0
def tw15775989241504466113:=0
def tw18252925682981180556:=0
def tw9574805877783558897:=0
def tw6207773726543376145:=0
def tw10150988716436111599:=0
def tw8118704802549390767:=0
def tw16862958971802559462:=0
def tw18240806775723622372:=0
def tw4342867232268040657:=0
def tw10353778443560018815:=0
def tw16394815191063230352:=0
def tw5912266353053777477:=0
def tw7816989920790793035:=0
def tw214454400744862830:=0
def tw2109410343653944801:=0
def tw6015704712414688886:=0
def tw1554584568194709685:=0
def tw5804504055334757306:=0
def tw6260147234644865162:=0
def tw232297665792613526:=0
def tw9079681527583114734:=0
def tw7208709200728349070:=0
def tw10795157461845898480:=0
def tw14193258694994167347:=0
def tw8531451241703630431:=0
def tw7106683893391058475:=0
def tw16387022208759470859:=0
def tw6145375187490077810:=0
def tw11027984605552882506:=0
def tw6338053471255714645:=0
def tw3352323186957587111:=0
def tw6904628740407729532:=0
def tw5806208854460035055:=0
def tw4575039209377161658:=0
def tw14543462549960401075:=0
def tw3487249874013337614:=0
def tw16749538982210282344:=0
def tw8229013586942777765:=0
def tw13602091314188303294:=0
def tw17571503179911574729:=0
def tw11615946715458401024:=0
def tw15403442492034275414:=0
def tw11652973927777354184:=0
def tw843819534633094708:=0
def tw10841204879860307494:=0
def tw12976911033455317034:=0
def tw9158507980027585920:=0
def tw5825792313732346668:=0
def tw14246440985096974751:=0
def tw3190215137685277797:=0
def tw11488027043248453054:=0
def tw8001742289018564232:=0
def tw11495751939406106708:=0
def tw12367394079222807227:=0
def tw15360632761404678556:=0
def tw12825258020666788590:=0
def tw9916777170484728280:=0
def tw2585115622954289193:=0
def tw9607004641181137597:=0
def tw3591444309777576351:=0
def tw16832096241318177402:=0
def tw3622915012365686068:=0
def tw15123499007188489250:=0
def tw16427823838878823635:=0
def tw13400411421562002038:=0
def tw13825053743020837403:=0
def tw9073920814311922137:=0
def tw13149829570517762996:=0
def tw3122020562625336519:=0
def tw13821860584890187824:=0
def tw16177959487822128076:=0
def tw14780526270765586854:=0
def tw6946074458599248089:=0
def tw14325088060341036659:=0
def tw805775450752351307:=0
def tw6043315379395508466:=0
def tw3405179063177105757:=0
def tw4816907523599795659:=0
def tw12653318778108207120:=0
def tw2116845558231558496:=0
def tw7724315880047083701:=0
def tw9212588093587222128:=0
def tw7071286483728533438:=0
def tw18337001603520712490:=0
def tw12757924221705925289:=0
def tw9703497187077513126:=0
def tw979258937289749552:=0
def tw300018392712914048:=0
def tw17527178540424504429:=0
def tw5841171991157957572:=0
def tw16746435799132505901:=0
def tw17071171014428278598:=0
def tw2952748988410363648:=0
def tw17102373685810314662:=0
def tw13719349525247892500:=0
def tw11378607379266207884:=0
def tw18141824278032135343:=0
def tw5916852986772712862:=0
def tw18140146412258391040:=0
def tw11370107630912554465:=0
def tw10414316745266937372:=0
def tw9674464979355642421:=0
def tw6413324145811409215:=0
def tw14210447723258612418:=0
def tw16323264195108062922:=0
def tw14892531328913882209:=0
def tw8692826841429147312:=0
def tw7202112697112968502:=0
def tw11113949268682802421:=0
def tw13836286996732064145:=0
def tw12336328572286847761:=0
def tw6829243274526464666:=0
def tw10299682247904991547:=0
def tw7954274055779314236:=0
def tw12199167169503856714:=0
def tw1457505034611973759:=0
def tw188523319200999785:=0
def tw12495110169347380033:=0
def tw4030624065766000882:=0
def tw9805671761963994862:=0
def tw17598793822435852503:=0
def tw12958228102965021184:=0
def tw12683818256902078859:=0
def tw4165263065041301118:=0
def tw8513570766638211787:=0
def tw549860279119969468:=0
def tw5120926694257751883:=0
def tw5419051812553121377:=0
def tw11173843552297940739:=0
def tw15996574599314957908:=0
def tw16737000468693517737:=0
def tw6060564345152819330:=0
def tw6637124639930869607:=0
def tw6726802929367500773:=0
def tw10637538285775990573:=0
def tw14974843410082335796:=0
def tw11668043795098230012:=0
def tw16657102762407879342:=0
def tw16760175416601997791:=0
def tw12636243746994600028:=0
def tw13314591181389170419:=0
def tw9014843549224892896:=0
def tw8787984426765943733:=0
def tw6168322082623014511:=0
def tw16390368046497838715:=0
def tw9901038804487892232:=0
def tw10864578685702209330:=0
def tw5726798835107853381:=0
def tw10488430347377000123:=0
def tw7237375258305431471:=0
def tw17337026849054000538:=0
def tw11055490392698054619:=0
def tw2154475453518085869:=0
def tw3276975498895197602:=0
def tw3584570827487827260:=0
def tw16635353006849657401:=0
def tw883231707831183732:=0
def tw1413120511772937474:=0
def tw4695293645648940766:=0
def tw12635457402305049002:=0
def tw6097680920439627055:=0
def tw3644509668816639792:=0
def tw13730346616187399917:=0
def tw7150769735743555626:=0
def tw12411226608055216665:=0
def tw7069479866093319839:=0
def tw7934026560579354913:=0
def tw14411919489817957914:=0
def tw15996832816255086327:=0
def tw15129911171383562775:=0
def tw7030277738859575990:=0
def tw4707041481784870956:=0
def tw13369689737134875665:=0
def tw18302505422446361673:=0
def tw859697077334868371:=0
def tw15827384256299667048:=0
def tw9505712059851366332:=0
def tw8013507008194721947:=0
def tw4553051891808568370:=0
def tw593470383407398230:=0
def tw2423901464821233813:=0
def tw11502652798792352325:=0
def tw16149637451374128765:=0
def tw539042602007530098:=0
def tw13305090002282872720:=0
def tw16162153114434331874:=0
def tw2117160790382623665:=0
def tw17165596130192001910:=0
def tw5371257881257092755:=0
def tw5324037273402953698:=0
def tw14665580352160443632:=0
def tw1509373553164160148:=0
def tw6799870759448601111:=0
def tw2653455600807566306:=0
def tw11275606640859312917:=0
def tw16858605782187266494:=0
def tw13861746569807403908:=0
def tw8432402829535675970:=0
def tw2937980011810288462:=0
def tw12027868945033262656:=0
def tw13845415474285604772:=0
def tw4678715072047130891:=0
def tw10018230685774047617:=0
def tw705976562546391235:=0
def tw2265880537191784310:=0
def tw331265997174668058:=0
def tw7696939401676802024:=0
def tw5361006049558507455:=0
def tw9072179222373490667:=0
def tw14391467605525024934:=0
def tw14880196875675857001:=0
def tw10820828908010164873:=0
def tw15777197030780688775:=0
def tw16640933713901781568:=0
def tw9117468078395085774:=0
def tw5227721804051638984:=0
def tw14521538330868064320:=0
def tw3162531353621060599:=0
def tw12194547274478418172:=0
def tw13759221198687570180:=0
def tw4575527333723208337:=0
def tw17402200492560083996:=0
def tw3642631743294416438:=0
def tw3307796524506669575:=0
def tw16689461372461585490:=0
def tw402558918499820722:=0
def tw11482593799098201254:=0
def tw15300426933055022489:=0
def tw2852430542700269524:=0
def tw2725079938239219516:=0
def tw8261704466550811765:=0
def tw8654228928610073278:=0
def tw1107684475900679522:=0
def tw603045432652016997:=0
def tw3642505353708146333:=0
def tw6670976172762085265:=0
def tw14901183868711821914:=0
def tw14835295497779187896:=0
def tw122982386124005332:=0
def tw13848247587124292051:=0
def tw4068946426487237750:=0
def tw8737230988888680388:=0
def tw14731322400872336739:=0
def tw8953198426191024000:=0
def tw12487220708679552329:=0
def tw12022827046244053830:=0
def tw13167578813610372255:=0
def tw17527498941775278833:=0
def tw9408248056987368486:=0
def tw14938105800182569594:=0
def tw4409832742861798461:=0
def tw11621762610807934104:=0
def tw6593556554696382793:=0
def tw1813127015374921034:=0
def tw12455781663817839118:=0
def tw6504052608253224892:=0
def tw18005956359652361764:=0
def tw3819506797245876480:=0
def tw11706489911819586985:=0
def tw13949649034059351277:=0
def tw18193549438274150761:=0
def tw13434566688250427975:=0
def tw6189103526033995019:=0
def tw6621223528737099644:=0
def tw12418463262550170772:=0
def tw9345454044014570240:=0
def tw5050948179953111005:=0
def tw11867798695416353449:=0
def tw11712864405698263009:=0
def tw14876785347212516116:=0
def tw4622290551699335109:=0
def tw1333733188042286080:=0
def tw11462552672240766668:=0
def tw10273404424398185409:=0
def tw15545848525505045038:=0
def tw10267393162774297767:=0
def tw12539252612810323972:=0
def tw2557168378408465182:=0
def tw5349760309326862212:=0
def tw5889148152360552719:=0
def tw9203802250012417080:=0
def tw8645928064245449936:=0
def tw1709780826856954242:=0
def tw17915751622136806415:=0
def tw801278637908138561:=0
def tw15876338058267950210:=0
def tw15553400377077237385:=0
def tw16802040869627246695:=0
def tw137420096797488837:=0
def tw17797815573236927997:=0
def tw5655904123834786766:=0
def tw7156857387540888715:=0
def tw7820049924923572894:=0
def tw15055264245285939405:=0
def tw9921446069045983388:=0
def tw14216582099524205519:=0
def tw13700157531595324063:=0
def tw18297591481123468999:=0
def tw4950464504965743725:=0
def tw9741356162832392692:=0
def tw9321363275295224661:=0
def tw8790154287599649298:=0
def tw17959354188835722686:=0
def tw1107493171823801077:=0
def tw629901303325617711:=0
def tw16892768454779463496:=0
def tw8272812472037394668:=0
def tw4306002294390842434:=0
def tw480770674206533461:=0
def tw15499563865457776184:=0
def tw6899436579682470581:=0
def tw200098406411453686:=0
def tw13303865572626223537:=0
def tw7529913097121912349:=0
def tw11722738857736960873:=0
def tw11084966947014440514:=0
def tw5178339344142333008:=0
def tw4480627026957132701:=0
def tw243900000440255101:=0
def tw14171151212516274805:=0
def tw298818466091749953:=0
def tw385560934883234068:=0
def tw9380084045846936144:=0
def tw890645797657786147:=0
def tw3147720841726609209:=0
def tw17747852658414341884:=0
def tw8459800855411883334:=0
def tw17605488326729262942:=0
def tw5226326283726878776:=0
def tw6151743568313722484:=0
def tw3114846087325305897:=0
def tw6191161997478613770:=0
def tw3081914663579368961:=0
def tw14659505921576677625:=0
def tw10329642246494844328:=0
def tw17647808077723903007:=0
def tw17617737804745830836:=0
def tw14645178319708442820:=0
def tw2590977025000479142:=0
def tw14579290083251758841:=0
def tw14775763969232290871:=0
def tw13388531583677601661:=0
def tw14817548095282955235:=0
def tw10861664217758702372:=0
def tw15987659339347804468:=0
def tw7932022938398474394:=0
def tw3751339253934194502:=0
def tw3010104855872431621:=0
def tw15335710138881465903:=0
def tw4025931435976429112:=0
def tw12333275605874907748:=0
def tw17731031246780443063:=0
def tw598163622249702844:=0
def tw10441040113965048719:=0
def tw1462863543310037718:=0
def tw12506829898675435274:=0
def tw8781255435861572361:=0
def tw775304135926611621:=0
def tw15090919702933147953:=0
def tw5130519933491527307:=0
def tw7336497270911023384:=0
def tw2558217166695886820:=0
def tw8974348459131927506:=0
def tw8990276674935838944:=0
def tw13797297674165505462:=0
def tw16439233324407096641:=0
def tw2797776839975409003:=0
def tw12294728478872853249:=0
def tw16698186760775408842:=0
def tw1978674850575019077:=0
def tw5057766636389578147:=0
def tw6135405554402596353:=0
def tw540523556373759379:=0
def tw6566404698482577706:=0
def tw3206000506107706615:=0
def tw16019256971549806921:=0
def tw14126049183528877031:=0
def tw3757068428731344589:=0
def tw5601419468765499313:=0
def tw4758082417230943088:=0
def tw4003370710073753647:=0
def tw8462031454744002114:=0
def tw14672998199562011755:=0
def tw6796924910171085384:=0
def tw5949808256716166359:=0
def tw10372104190373376718:=0
def tw2996112970742905169:=0
def tw6016503465003558533:=0
def tw3519467641122734997:=0
def tw10942863695783419514:=0
def tw13267640386789800758:=0
def tw17514872998213213714:=0
def tw2515745826304764519:=0
def tw15830687831638256301:=0
def tw752036645460801432:=0
def tw14812994647900390093:=0
def tw11919178921395072686:=0
def tw15235666113016998865:=0
def tw15357316119342883499:=0
def tw14677113507761970504:=0
def tw13997712963383603995:=0
def tw11780008004327533749:=0
def tw18170410018165087659:=0
def tw15863988453520469483:=0
def tw14782028438318438064:=0
def tw1245676361038964473:=0
def tw1966695452982779257:=0
def tw1853349325987991312:=0
def tw3425562663211992693:=0
def tw10981378898083011131:=0
def tw8046117589873791239:=0
def tw6553512369114083194:=0
def tw12094304589779765179:=0
def tw7106246622979629695:=0
def tw15692865468214237009:=0
def tw9578707198393134690:=0
def tw2876746339636512449:=0
def tw15954649691491757452:=0
def tw16881950688425395831:=0
def tw7647243633436489924:=0
def tw13017878907748468196:=0
def tw685949355828354040:=0
def tw858321621938356696:=0
def tw15162295464798187670:=0
def tw17993214412922478703:=0
def tw2274277330375000909:=0
def tw15145339430782899311:=0
def tw2652717069211495577:=0
def tw914500695785591151:=0
def tw508960773478362062:=0
def tw15671842424668545017:=0
def tw13044538232429779254:=0
def tw17767687437999957251:=0
def tw8903901690337990152:=0
def tw14517747676150295272:=0
def tw8766458600664635306:=0
def tw1206589707532463544:=0
def tw11511057553111882006:=0
def tw17594848236554503018:=0
def tw297345347497403448:=0
def tw17420640199034693560:=0
def tw545337966077084542:=0
def tw9536360460702909407:=0
def tw16651710237321692931:=0
def tw13761542496288871055:=0
def tw7713787010052421941:=0
def tw12141092097098873750:=0
def tw14521585641895918312:=0
def tw7263314360819133762:=0
def tw12220851441073841616:=0
def tw16869925042078761177:=0
def tw1803994305423920326:=0
def tw17411173629938475236:=0
def tw3482237740617945013:=0
def tw8298557206421916132:=0
def tw4066323586938691888:=0
def tw4599921679997141794:=0
def tw9109904473489220052:=0
def tw14086348664654123721:=0
def tw6862863231134426934:=0
def tw14369719597708560065:=0
def tw13401576506825478137:=0
def tw7604410450881446829:=0
def tw10464792959987129766:=0
def tw1655666752097496186:=0
def tw148828555142372568:=0
def tw2528912314397181085:=0
def tw2838155683678643335:=0
def tw6558261452327478582:=0
def tw5956609592430616389:=0
def tw9007667641672348652:=0
def tw8918608008880205608:=0
def tw10287978369706841290:=0
def tw897524683463756911:=0
def tw13563127506468727207:=0
def tw10571623490324751772:=0
def tw6526557014031361192:=0
def tw8184855195767291802:=0
def tw11803002635292863319:=0
def tw3330796417695660931:=0
def tw7992853650489255941:=0
def tw16783552383716723:=0
def tw11124278099113081248:=0
def tw4482174736884867976:=0
def tw1360512310048181615:=0
def tw15145503192012148024:=0
def tw10784151688490875419:=0
def tw15317822617068615017:=0
def tw11935135322347106047:=0
def tw18082352356417742688:=0
def tw13888102942794967625:=0
def tw2863432418586611946:=0
def tw14969347576509663476:=0
def tw13348460786859145329:=0
def tw5701746918519199302:=0
def tw9415553992251893385:=0
def tw246363080806085713:=0
def tw5804359646072263176:=0
def tw2214632326121728851:=0
def tw13085847224561282970:=0
def tw17739772317613577044:=0
def tw10200666460133446239:=0
end PySem.W.Fast
set_option maxRecDepth 100000 in
set_option maxHeartbeats 0 in
theorem PySem.Challenge.cw_wholekept_s01_answers_holds : PySem.Challenge.rw_wholekept_s01_answers.Holds := by
  w_on; k_headS; (case hw => exact ⟨[.list [.int 7]], by decide +kernel, by decide +kernel⟩)
  k_fillS
  refine L2.walk_specK (r := PySem.Challenge.rw_wholekept_s01_answers) (k := 10) (CX := L2.eY) (ps := ["calls"]) (sp := Wk.Fp) (by decide +kernel) rfl rfl ⟨rfl, by decide, by decide⟩ (fun w h Y => PySem.W.kIn_of Y) ?F ?S (fun _ _ _ _ z => z)
  case F =>
    intro w mg fa h Y KX G hmg
    refine' Wk.all_mk hmg (PySem.W.mg_none_of KX G ?h1) (PySem.W.mg_none_of KX G ?h2) (PySem.W.mg_none_of KX G ?h3) (PySem.W.mg_none_of KX G ?h4) (PySem.W.mg_none_of KX G ?h5) (PySem.W.mg_none_of KX G ?h6) (PySem.W.mg_none_of KX G ?h7) (PySem.W.mg_none_of KX G ?h8) (PySem.W.mg_none_of KX G ?h9) (PySem.W.mg_none_of KX G ?h10) (PySem.W.mg_none_of KX G ?h11) (PySem.W.mg_none_of KX G ?h12) (PySem.W.mg_none_of KX G ?h13) (PySem.W.mg_none_of KX G ?h14) (Wk.cN KX G ?h15) (Wk.cN KX G ?h16) (Wk.cN KX G ?h17) (Wk.cN KX G ?h18) (Wk.cN KX G ?h19) (Wk.cN KX G ?h20) (Wk.cN KX G ?h21) (Wk.cN KX G ?h22) (Wk.cN KX G ?h23) (Wk.cN KX G ?h24) (Wk.cN KX G ?h25) (Wk.cN KX G ?h26) (Wk.cN KX G ?h27) (Wk.cN KX G ?h28) (Wk.cN KX G ?h29) (Wk.cN KX G ?h30) (Wk.cN KX G ?h31) (Wk.cN KX G ?h32) (Wk.cN KX G ?h33) (Wk.cN KX G ?h34) (Wk.cN KX G ?h35) (Wk.cN KX G ?h36) (Wk.cN KX G ?h37) (Wk.cN KX G ?h38) (Wk.cN KX G ?h39) (Wk.cN KX G ?h40) (Wk.cN KX G ?h41) (Wk.cN KX G ?h42) (Wk.cN KX G ?h43) (Wk.cN KX G ?h44) (Wk.cN KX G ?h45) (Wk.cN KX G ?h46) (Wk.cN KX G ?h47) (Wk.cN KX G ?h48) (Wk.cN KX G ?h49) (Wk.cN KX G ?h50) (Wk.cN KX G ?h51) (Wk.cN KX G ?h52) (Wk.cN KX G ?h53) (Wk.cN KX G ?h54) (Wk.cN KX G ?h55) (Wk.cN KX G ?h56) (Wk.cN KX G ?h57) (Wk.cN KX G ?h58) (Wk.cN KX G ?h59) (Wk.cN KX G ?h60) (Wk.cN KX G ?h61) (Wk.cN KX G ?h62) (Wk.cN KX G ?h63) (Wk.cN KX G ?h64) (Wk.cN KX G ?h65) ⟨⟨?h66, ?h67, ?h68, ?h69⟩, (Wk.pU ?h70), (Wk.pU ?h71), (Wk.pU ?h72), (Wk.pU ?h73), (Wk.pU ?h74)⟩ ⟨⟨?h75, ?h76, ?h77, ?h78⟩, (Wk.pU ?h79), (Wk.pU ?h80), (Wk.pU ?h81)⟩ ⟨⟨?h82, ?h83, ?h84, ?h85⟩, (Wk.pU ?h86), (Wk.pU ?h87)⟩ (PySem.W.mg_of KX G ?h88) (PySem.W.mg_of KX G ?h89) (PySem.W.mg_of KX G ?h90) (Wk.bV KX G ?h91 ?h92 ?h93 ?h94) (Wk.bV KX G ?h95 ?h96 ?h97 ?h98) (Wk.bV KX G ?h99 ?h100 ?h101 ?h102) (Wk.bV KX G ?h103 ?h104 ?h105 ?h106) (Wk.bV KX G ?h107 ?h108 ?h109 ?h110) (Wk.bV KX G ?h111 ?h112 ?h113 ?h114) (Wk.bV KX G ?h115 ?h116 ?h117 ?h118) (Wk.bV KX G ?h119 ?h120 ?h121 ?h122) (Wk.y9 ?h123 ?h124 ?h125 ?h126 ?h127 ?h128 ?h129) (Wk.bV KX G ?h130 ?h131 ?h132 ?h133) (Wk.bV KX G ?h134 ?h135 ?h136 ?h137) (Wk.bV KX G ?h138 ?h139 ?h140 ?h141) (Wk.bV KX G ?h142 ?h143 ?h144 ?h145) (Wk.bV KX G ?h146 ?h147 ?h148 ?h149) (Wk.bV KX G ?h150 ?h151 ?h152 ?h153) (Wk.bV KX G ?h154 ?h155 ?h156 ?h157) (Wk.bV KX G ?h158 ?h159 ?h160 ?h161) (Wk.bV KX G ?h162 ?h163 ?h164 ?h165) (Wk.bV KX G ?h166 ?h167 ?h168 ?h169) (Wk.bV KX G ?h170 ?h171 ?h172 ?h173) (Wk.bV KX G ?h174 ?h175 ?h176 ?h177) (Wk.bV KX G ?h178 ?h179 ?h180 ?h181) (Wk.bV KX G ?h182 ?h183 ?h184 ?h185) (Wk.bV KX G ?h186 ?h187 ?h188 ?h189) (Wk.bV KX G ?h190 ?h191 ?h192 ?h193) (Wk.bV KX G ?h194 ?h195 ?h196 ?h197) (Wk.bV KX G ?h198 ?h199 ?h200 ?h201) (Wk.bV KX G ?h202 ?h203 ?h204 ?h205) (Wk.bV KX G ?h206 ?h207 ?h208 ?h209) (Wk.bV KX G ?h210 ?h211 ?h212 ?h213) (Wk.bV KX G ?h214 ?h215 ?h216 ?h217) (Wk.bV KX G ?h218 ?h219 ?h220 ?h221) (Wk.bV KX G ?h222 ?h223 ?h224 ?h225) (Wk.bV KX G ?h226 ?h227 ?h228 ?h229) (Wk.bV KX G ?h230 ?h231 ?h232 ?h233) (Wk.bV KX G ?h234 ?h235 ?h236 ?h237) (Wk.bV KX G ?h238 ?h239 ?h240 ?h241) (Wk.bV KX G ?h242 ?h243 ?h244 ?h245) (Wk.bV KX G ?h246 ?h247 ?h248 ?h249) (Wk.bV KX G ?h250 ?h251 ?h252 ?h253) (Wk.bV KX G ?h254 ?h255 ?h256 ?h257) (Wk.bV KX G ?h258 ?h259 ?h260 ?h261) (Wk.bV KX G ?h262 ?h263 ?h264 ?h265) (Wk.bV KX G ?h266 ?h267 ?h268 ?h269) (Wk.bV KX G ?h270 ?h271 ?h272 ?h273) (Wk.bV KX G ?h274 ?h275 ?h276 ?h277) (Wk.bV KX G ?h278 ?h279 ?h280 ?h281) (Wk.bV KX G ?h282 ?h283 ?h284 ?h285) (Wk.bV KX G ?h286 ?h287 ?h288 ?h289) (Wk.bV KX G ?h290 ?h291 ?h292 ?h293) (Wk.bV KX G ?h294 ?h295 ?h296 ?h297) (Wk.bV KX G ?h298 ?h299 ?h300 ?h301) (Wk.y9 ?h302 ?h303 ?h304 ?h305 ?h306 ?h307 ?h308) (Wk.y9 ?h309 ?h310 ?h311 ?h312 ?h313 ?h314 ?h315) (Wk.y_ ?h316 ?h317 ?h318 ?h319 ?h320) (Wk.y_ ?h321 ?h322 ?h323 ?h324 ?h325) (Wk.y_ ?h326 ?h327 ?h328 ?h329 ?h330) (Wk.bV KX G ?h331 ?h332 ?h333 ?h334) (Wk.bV KX G ?h335 ?h336 ?h337 ?h338) (Wk.bV KX G ?h339 ?h340 ?h341 ?h342) (Wk.bV KX G ?h343 ?h344 ?h345 ?h346) (Wk.bV KX G ?h347 ?h348 ?h349 ?h350) (Wk.bV KX G ?h351 ?h352 ?h353 ?h354) (Wk.bV KX G ?h355 ?h356 ?h357 ?h358) (Wk.bV KX G ?h359 ?h360 ?h361 ?h362) (Wk.bV KX G ?h363 ?h364 ?h365 ?h366) (Wk.bV KX G ?h367 ?h368 ?h369 ?h370) (Wk.bV KX G ?h371 ?h372 ?h373 ?h374) (Wk.bV KX G ?h375 ?h376 ?h377 ?h378) (Wk.bV KX G ?h379 ?h380 ?h381 ?h382) (Wk.bV KX G ?h383 ?h384 ?h385 ?h386) (Wk.bV KX G ?h387 ?h388 ?h389 ?h390) (Wk.bV KX G ?h391 ?h392 ?h393 ?h394) (Wk.bV KX G ?h395 ?h396 ?h397 ?h398) (Wk.bV KX G ?h399 ?h400 ?h401 ?h402) (Wk.bV KX G ?h403 ?h404 ?h405 ?h406) (Wk.bV KX G ?h407 ?h408 ?h409 ?h410) (Wk.bV KX G ?h411 ?h412 ?h413 ?h414)
    case h88 | h89 | h90 | h1 | h2 | h3 | h4 | h5 | h6 | h7 | h8 | h9 | h10 | h11 | h12 | h13 | h14 | h15 | h16 | h17 | h18 | h19 | h20 | h21 | h22 | h23 | h24 | h25 | h26 | h27 | h28 | h29 | h30 | h31 | h32 | h33 | h34 | h35 | h36 | h37 | h38 | h39 | h40 | h41 | h42 | h43 | h44 | h45 | h46 | h47 | h48 | h49 | h50 | h51 | h52 | h53 | h54 | h55 | h56 | h57 | h58 | h59 | h60 | h61 | h62 | h63 | h64 | h65 | h66 | h67 | h68 | h69 | h70 | h71 | h72 | h73 | h74 | h75 | h76 | h77 | h78 | h79 | h80 | h81 | h82 | h83 | h84 | h85 | h86 | h87 | h91 | h92 | h93 | h94 | h95 | h96 | h97 | h98 | h99 | h100 | h101 | h102 | h103 | h104 | h105 | h106 | h107 | h108 | h109 | h110 | h111 | h112 | h113 | h114 | h115 | h116 | h117 | h118 | h119 | h120 | h121 | h122 | h123 | h124 | h125 | h126 | h127 | h128 | h129 | h130 | h131 | h132 | h133 | h134 | h135 | h136 | h137 | h138 | h139 | h140 | h141 | h142 | h143 | h144 | h145 | h146 | h147 | h148 | h149 | h150 | h151 | h152 | h153 | h154 | h155 | h156 | h157 | h158 | h159 | h160 | h161 | h162 | h163 | h164 | h165 | h166 | h167 | h168 | h169 | h170 | h171 | h172 | h173 | h174 | h175 | h176 | h177 | h178 | h179 | h180 | h181 | h182 | h183 | h184 | h185 | h186 | h187 | h188 | h189 | h190 | h191 | h192 | h193 | h194 | h195 | h196 | h197 | h198 | h199 | h200 | h201 | h202 | h203 | h204 | h205 | h206 | h207 | h208 | h209 | h210 | h211 | h212 | h213 | h214 | h215 | h216 | h217 | h218 | h219 | h220 | h221 | h222 | h223 | h224 | h225 | h226 | h227 | h228 | h229 | h230 | h231 | h232 | h233 | h234 | h235 | h236 | h237 | h238 | h239 | h240 | h241 | h242 | h243 | h244 | h245 | h246 | h247 | h248 | h249 | h250 | h251 | h252 | h253 | h254 | h255 | h256 | h257 | h258 | h259 | h260 | h261 | h262 | h263 | h264 | h265 | h266 | h267 | h268 | h269 | h270 | h271 | h272 | h273 | h274 | h275 | h276 | h277 | h278 | h279 | h280 | h281 | h282 | h283 | h284 | h285 | h286 | h287 | h288 | h289 | h290 | h291 | h292 | h293 | h294 | h295 | h296 | h297 | h298 | h299 | h300 | h301 | h302 | h303 | h304 | h305 | h306 | h307 | h308 | h309 | h310 | h311 | h312 | h313 | h314 | h315 | h316 | h317 | h318 | h319 | h320 | h321 | h322 | h323 | h324 | h325 | h326 | h327 | h328 | h329 | h330 | h331 | h332 | h333 | h334 | h335 | h336 | h337 | h338 | h339 | h340 | h341 | h342 | h343 | h344 | h345 | h346 | h347 | h348 | h349 | h350 | h351 | h352 | h353 | h354 | h355 | h356 | h357 | h358 | h359 | h360 | h361 | h362 | h363 | h364 | h365 | h366 | h367 | h368 | h369 | h370 | h371 | h372 | h373 | h374 | h375 | h376 | h377 | h378 | h379 | h380 | h381 | h382 | h383 | h384 | h385 | h386 | h387 | h388 | h389 | h390 | h391 | h392 | h393 | h394 | h395 | h396 | h397 | h398 | h399 | h400 | h401 | h402 | h403 | h404 | h405 | h406 | h407 | h408 | h409 | h410 | h411 | h412 | h413 | h414 => k_is
  case S =>
    intro K H xs a hO hwi hask hx
    cases hx with
    | cons h1 h2 =>
      cases h2
      cases h1 with
      | lst hs ha =>
        have e := L2.ints_dw a.1 _ ha
        subst e
        exact ⟨_, a.1, rfl, hs, hask, fun H' p hp => .lst (L2.bZ.of hp) (L2.dw_ints _)⟩
