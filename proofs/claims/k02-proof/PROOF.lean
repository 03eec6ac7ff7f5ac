import PyProof.Rows.All
import Wide.All
import OpenK.AllK
import Wide.FinOn
import Lean
import PyProof.EqAt
import PyProof.EqKinds
import PyProof.TupleCall
import PyProof.DictCompW
import PySem.SetOps
import PyProof.SetScanFacts
import PyProof.SetKind
import PyProof.TupleKey
import PyProof.DictRoadsH
import PyProof.IsRules
import PyProof.Rows.SetFrom
import PyProof.WalksMore
import PyProof.NeKinds
import KE.KSortTup
import KE.KDictOf
import PyProof.DictFindH
import PyProof.AttrMissSeq
import KE.KDictList
import PyProof.CollectWalk
import PyProof.StrBlock2
import PyProof.SeqI3
import PyProof.EnumMake
import PyProof.WalksEnum
import PyProof.DictValues
import PyProof.DictWalks
import KE.KRevSl
import PyProof.ListMulAny
import PyProof.Rows.ListMul
import PyProof.Draws
import PyProof.Rows.IntBool
import KE.KRevIter
import PyProof.Rows.FStr
import PyProof.Rows.StrNews
import PyProof.Rows.StrSplitAre
import PyProof.CallStr
import KE.KIntText
import PyProof.AutoListH
import KE.KPairComp
import PySem.Challenge.RW_holdword_k02_deals_or_none
noncomputable section
set_option hygiene false
local macro_rules
|`(1e0)=>`((by rfl))
|`(1e1)=>`(⟨rfl,rfl,rfl,by decide +kernel,rfl,by decide +kernel,by decide +kernel⟩)
|`(1e2)=>`((hr.mono 2e4))
|`(1e3)=>`((by lia))
|`(1e4)=>`(Value->Shared->Prop)
|`(1e5)=>`((mC (.int 1)))
|`(1e6)=>`((@Zaa _ _ _ _ _ Zac Zad 1e0))
|`(1e7)=>`((mVar 0))
|`(1e8)=>`(#[.lst (ns.map .int)])
|`(1e9)=>`(Yj 5e1 X.env=(false,eval e X.env)::Yj es X.env)
|`(2e0)=>`(List (Addr×Obj))
|`(2e1)=>`((mRet (mC (.bl false))))
|`(2e2)=>`(Str->Option Value)
|`(2e3)=>`(Inv X pins σ H s)
|`(2e4)=>`((by decide))
|`(2e5)=>`((Or.inl rfl))
|`(2e6)=>`((mC (.int 0)))
|`(2e7)=>`((g2 ixQ))
|`(2e8)=>`(PSt->M (List SV))
|`(2e9)=>`((mVar 1))
|`(3e0)=>`((model X.prog X.w))
|`(3e1)=>`(List Addr)
|`(3e2)=>`((mC (.int 2)))
|`(3e3)=>`((@Zag _ _ _ (@Zak _ _ _ _ Zaz)))
|`(3e4)=>`((by simp))
local macro_rules
|`(3e5)=>`(List Value)
|`(3e6)=>`((Zah 6e5 (Zab 0) Zac))
|`(3e7)=>`(A.units < cLine)
|`(3e8)=>`(#[.lst (ws.map .str)])
|`(3e9)=>`((model prog w))
|`(4e0)=>`(PSt->M SV)
|`(4e1)=>`((.int (sh.length:Int)))
|`(4e2)=>`((aCons (mC (.int 8)) aNil))
|`(4e3)=>`((@Zaa _ _ _ _ _ (Zab 0) Zad 1e0))
|`(4e4)=>`(["_law_left_here","_law_many"])
|`(4e5)=>`((backTo pos (Yj es X.env)).any (·.1)=false)
|`(4e6)=>`(List Str)
|`(4e7)=>`((by exact ⟨rfl,rfl,rfl,rfl,rfl,rfl,rfl⟩))
|`(4e8)=>`(List Expr)
|`(4e9)=>`((mVar 2))
|`(5e0)=>`((x==("__debug__":Str))=false)
|`(5e1)=>`((e::es))
|`(5e2)=>`((aCons 1e7 aNil))
|`(5e3)=>`(some (.c D.length))
|`(5e4)=>`(PV->PSt->Option PSt)
|`(5e5)=>`((aCons (mC (.ty "tuple")) aNil))
|`(5e6)=>`((mC (.int 4)))
|`(5e7)=>`((nomark _))
|`(5e8)=>`((CompCx X (vs++fs) scope C s₀ H₀ ex pn))
|`(5e9)=>`((.tup ps))
local macro_rules
|`(6e0)=>`((g1 lenH))
|`(6e1)=>`((0 + (q:Int)))
|`(6e2)=>`((List PV))
|`(6e3)=>`((aCons 2e9 aNil))
|`(6e4)=>`((@Zaa _ _ _ _ _ (Zab 0) 1e6 1e0))
|`(6e5)=>`((Zav hr))
|`(6e6)=>`((.lst ps))
|`(6e7)=>`((g2 addP))
|`(6e8)=>`((hName 0))
|`(6e9)=>`((mC (.int 3)))
|`(7e0)=>`((mVar 4))
set_option hygiene true
open Array renaming getElem?_eq_getElem → Yx, getD_eq_getD_getElem? → YB, length_toList → YH, getElem?_eq_none → Y2, getElem?_toList → Xl, mem_toList_iff → XR, perm_iff_toList_perm → WJ, eq_empty_of_size_eq_zero → Vo, mem_of_getElem? → Vp, getElem?_append_left → VI, replicate → Um
open Array.Perm renaming refl → VB
open Bool renaming and_eq_true → Yd, false_ne_true → Yi, false_eq_true → YY, true_and → XV, eq_iff_iff → W2, and_false → VV, or_eq_true → Ur
open False renaming elim → Wu
open ForInStep renaming yield → WC
open Int renaming emod_lt_of_pos → YQ, emod_nonneg → Y1, toNat_natCast → XY
open List renaming getElem?_eq_getElem → Ya, getElem?_append_left → Yf, range → Yg, size_toArray → Yh, getElem?_eq_none_iff → Yl, mem_cons → Yn, length_map → Yr, all_eq_true → Yt, append_assoc → Yz, mem_singleton → YD, getD_eq_getElem?_getD → YE, mem_append_right → YI, lookup_cons → YJ, getElem?_map → YK, length_cons → YL, mem_map → YM, getElem?_eq_some_iff → YN, map_cons → YO, nodup_iff_pairwise_ne → YR, append_nil → YV, getElem?_append_right → YW, mem_append → YX, getElem?_set_ne → YZ, mem_range → Y0, not_mem_nil → Y3, getElem_mem → Y5, length_take → Y7, length_append → Y8, all_cons → Y9, nil_append → Xa, map_map → Xb, mem_of_getElem? → Xc, mem_cons_of_mem → Xf, mem_append_left → Xm, zip_cons_cons → Xn, getElem?_take_of_lt → Xq, mem_cons_self → Xr, mem_of_mem_take → Xv, all_map → Xw, getElem?_set_self → Xz, getElem_of_mem → XB, pairwise_map → XC, any_cons → XE, length_drop → XN, eq_nil_of_length_eq_zero → XQ, getElem?_eq_none → X7, find?_cons → Wc, nodup_append → We, filterMap_cons → Wl, getElem_inj → Wq, take_of_length_le → Ww, nodup_cons → Wz, getElem?_toArray → WD, toArray → WE, ext_getElem? → WI, replicate → WL, drop_eq_getElem_cons → WQ, nodup_range → WR, map_fst_zip → WT, takeWhile_cons → WU, length_set → W6, length_nil → W7, map_append → W9, length_range → Vj, drop_length → Vs, mem_of_mem_drop → Vu, mem_map_of_mem → VA, map_congr_left → VD, mem_filterMap → VJ, set_set → VS, take_sublist → VY, mem_filter → Ub, of_mem_zip → Ug, foldl_cons → Ul, length_zip → Us, any_map → Ut
open List.Pairwise renaming imp_of_mem → XJ
open Nat renaming le_refl → Yk, ne_of_lt → Yo, lt_of_lt_of_le → Yv, lt_or_ge → YF, le_trans → YG, zero_le → YT, not_lt_zero → XG, ne_of_gt → X3, zero_add → X5, lt_succ_of_lt → Wd, le_of_lt → Wi, lt_irrefl → Wj, lt_succ_self → Vr, lt_of_le_of_lt → VN, succ_pos → VO, lt_trichotomy → V0, le_of_not_lt → Ua, lt_trans → Uj, min_eq_left → Uk, mod_lt → Uv
open Ne renaming symm → XT
open Option renaming map_eq_some_iff → Xg, isSome_iff_exists → WW, map_some → Vz
open Option.some renaming inj → YA
open Prod renaming fst → UC
open Prod.mk renaming inj → UA
open PyProof.Rows renaming slot_tuple_getitem → Xd, callWith_type1 → Xs, get?_update_seq → Vc, callWith_builtin1 → Vm, listUpdate_at → Vx, mirror_perm → V6, SortKind → V7, AllBare → Uc, listItems_at → Uq, mirror_size → Uy, seqEpoch_at → Uz
open PyProof.Rows.F renaming plain_set_update_loop → XW, entry_set_update_loop → WP
open PySem renaming wpAny_bind → Yb, wpAny_pure → Ye, starEach → Yj, tupleKeyHash → Ym, Program → Yq, sizeLine → Yu, FuncData → Yw, sizeLine_eq → YS, Spec → Y4, compareOp → Y6, bootBuiltins → Xe, wpAny_holding → Xh, mainGlobals → Xk, IsTupleKey → Xo, wpAny_truthy_bool → Xp, SetTable → Xy, wpAny_newObj_type → XA, sysModules → XH, wpAny_call_entry → XO, wpAny_callSpecial?_slot → XU, foldedSetIterable → XX, wpAny_mono → X2, wpAny_Call_Name_kw → X4, setSearchFrom → X6, assignEach → Wa, codeAny_builtin → Wg, mem_of_lookup → Wn, wpAny_typeNameOfWhole_keyiter → Wt, binaryOp → Wx, DictEntry → WB, attributeBase → WG, wpAny_setState_of → WH, tupleKind → WK, carriedByValue → WO, swapsWith → WZ, letOwnedTupleGo → W0, wpAny_passesOwn → W1, behindInMarks → W3, NameKind → W4, wpAny_newList → Vd, wpAny_field → Vf, sliceBounds → Vg, keywordEach → Vh, Keyword → Vi, wpAny_pyIter_enum → Vk, wpAny_letOwnedTupleGo_enum → VH, codeAny_mono → VL, wpAny_typeOf → VM, wpAny_pyIter_tuple → VQ, wpAny_seqItems → VT, wpAny_runValue → VW, wpAny_setField → VX, wpAny_pyIter_list → VZ, ofAClassStatement → V2, holding → V3, Builtin → V5, noFill_tuple_add → V9, wpAny_execs_nil → Ud, codeAny → Uf, concat_meets → Uh, valueAt → Ui, wpAny_loadPart' → Uo, backToKw → Uu, getItem → Uw, stripLo → Ux, callerA → UE, stripHi → UF
open PySem.Around renaming in1_units → YU, under_plainId → Vt
open PySem.AutoSeq1 renaming wpAny_loadPart' → Vq
open PySem.Builtin.Frozenset renaming updateFrom → Vw
open PySem.Builtin.List renaming listExtendWith → VC
open PySem.Builtin.Slice renaming slicePlaces → X8, sliceAdjust → WN, sliceApplied → VF
open PySem.Builtin.SmallTypes renaming nextOf → X9
open PySem.Builtin.Str renaming occurrences → Wm, strSub → W8
open PySem.Builtin.Tuple renaming tupleExact → Wb, tupleItemsOf → VG
open PySem.Calls renaming Name_function_global → VE
open PySem.Code renaming quiet_builtin → VR
open PySem.F renaming called_set → Xu, slot_tuple_iterator_next → Xx, slot_dict_keyiterator_next → Wy, args_tuple_add_2 → WX, args_tuple_iterator_next_1 → WY, entry_tuple_add → W5, entry_tuple_iterator_next → Va, slot_tuple_add → Ve
open PySem.Heap renaming get?_push_of_some → Yc, get?_push_size → Yp, lt_size → Ys, SameBut → XF, get?_update_ne → XZ, get?_update_self → WA
open PySem.Heap.SameBut renaming update → XD
open PySem.NameKind renaming free → Xi, cell → Wo
open PySem.Obj renaming mapSeq → XI, data_mapFields → Vb
open PySem.Paired renaming length → Vv
open PySem.PassesOwn renaming never → Wh
open PySem.SetFound renaming there → VU
open PySem.SetTable renaming grown → Vl, sizeAbove → VP, slot → V4
open PySem.Str renaming ofString → Vn, empty → Ue
open PySem.Value renaming ref → Yy, none → Xj, isStrOf → XS, type → X1, bool → Vy
open PySem.W renaming keepIn → YC, kas_desc → X0, kas_sort → Wp, kia_one → Wr, kas_place → Ws, kas_rev → Wv, kas_asc → WV, kas_descPart → Up
open PySem.W.KasT renaming ret → UB
open PySem.W.Looks renaming of_pure → V8
open Sum renaming inr → XM, inl → UD
open True renaming intro → WF
set_option backward.eqns.nonrecursive false
set_option genSizeOf false
set_option compiler.extract_closed false
set_option bootstrap.genMatcherCode false
set_option Elab.async false
set_option linter.all false
set_option maxRecDepth 100000
namespace L2
open PySem PySem.Spec PyProof.Rows
abbrev Key:=Sum Int Str
noncomputable def keyIs:Key->Value->Bool
 | .inl k,v=>Value.isInt k v
 | .inr x,v=>XS x v
noncomputable def keyH (w:World):Key->Int
 | .inl k=>hashInt k
 | .inr x=>hashStr w x
theorem ZaR:∀{k:Key} {v:Value},keyIs k v=true->(∃i t,k=UD i/\v=Value.int i t)\/(∃x t,k=XM x/\v=Value.str x t)
 | .inl i,v,h=>by
  obtain ⟨t,e⟩:=Value.isInt_shape (k:=i) (v:=v) h
  exact .inl ⟨i,t,rfl,e⟩
 | .inr x,v,h=>by
  obtain ⟨t,e⟩:=Value.isStrOf_shape (x:=x) (v:=v) h
  exact .inr ⟨x,t,rfl,e⟩
theorem keyIs_int (i:Int)(t:Tok):keyIs (.inl i) (.int i t)=true:=by simp[keyIs,Value.isInt]
theorem keyIs_str (x:Str)(t:Tok):keyIs (.inr x) (.str x t)=true:=by simp[keyIs,XS]
theorem key_ll (a b:Int):decide ((UD a:Key)=UD b)=(a==b):=by
 by_cases e:a=b
 ·subst e;simp
 ·have h:¬(UD a:Key)=UD b:=fun q=>e (Sum.inl.inj q)
  rw[decide_eq_false h]
  exact (beq_eq_false_iff_ne.mpr e).symm
theorem key_rr (a b:Str):decide ((XM a:Key)=XM b)=decide (a=b):=by
 by_cases e:a=b
 ·subst e;simp
 ·have h:¬(XM a:Key)=XM b:=fun q=>e (Sum.inr.inj q)
  rw[decide_eq_false h,decide_eq_false e]
theorem key_lr (a:Int)(b:Str):decide ((UD a:Key)=XM b)=false:=decide_eq_false (fun q=>nomatch q)
theorem key_rl (a:Str)(b:Int):decide ((XM a:Key)=UD b)=false:=decide_eq_false (fun q=>nomatch q)
def mixKind (prog:Yq)(w:World):PySem.KeyKind prog w Key where
 is:=keyIs
 hash:=keyH w
 inj:=fun v a b ha hb=>by
  rcases ZaR ha with ⟨i,t,rfl,rfl⟩ | ⟨x,t,rfl,rfl⟩
  ·rcases ZaR hb with ⟨j,u,rfl,e⟩ | ⟨y,u,rfl,e⟩
   ·injection e with e1 _;rw[e1]
   ·exact nomatch e
  ·rcases ZaR hb with ⟨j,u,rfl,e⟩ | ⟨y,u,rfl,e⟩
   ·exact nomatch e
   ·injection e with e1 _;rw[e1]
 byValue:=fun k v h=>by
  rcases ZaR h with ⟨i,t,rfl,rfl⟩ | ⟨x,t,rfl,rfl⟩<;>rfl
 pyHash:=fun hv h=>by
  rcases ZaR hv with ⟨i,t,rfl,rfl⟩ | ⟨x,t,rfl,rfl⟩
  ·exact wpAny_pyHash_int h
  ·exact wpAny_pyHash_str h
 eqBool:=fun hu hv h=>by
  rcases ZaR hu with ⟨i,t,rfl,rfl⟩ | ⟨x,t,rfl,rfl⟩
  ·rcases ZaR hv with ⟨j,u,rfl,rfl⟩ | ⟨y,u,rfl,rfl⟩
   ·rw[key_ll] at h;exact wpAny_eqBool_int h
   ·rw[key_lr] at h;exact SeqAt.EqAt.int_str i t y u _ _ _ _ h
  ·rcases ZaR hv with ⟨j,u,rfl,rfl⟩ | ⟨y,u,rfl,rfl⟩
   ·rw[key_rl] at h;exact SeqAt.EqAt.str_int x t j u _ _ _ _ h
   ·rw[key_rr] at h;exact wpAny_eqBool_str h
 «strs»:=fun k x t v h=>by
  rcases ZaR h with ⟨i,u,rfl,e⟩ | ⟨y,u,rfl,e⟩
  ·exact nomatch e
  ·injection e with e1 _
   subst e1
   cases v<;>rfl
theorem mixKind_int (prog:Yq)(w:World)(i:Int)(t:Tok):(mixKind prog w).is (.inl i) (.int i t)=true:=keyIs_int i t
theorem mixKind_str (prog:Yq)(w:World)(x:Str)(t:Tok):(mixKind prog w).is (.inr x) (.str x t)=true:=keyIs_str x t
inductive V where
 | non | bl (b:Bool) | int (i:Int) | str (x:Str) | byt (b:Array UInt8) | flt (b:UInt64) | ref (a:Addr) | ty (n:String)
 deriving DecidableEq
def RelV:V->Value->Prop
 | .non,u=>u=Xj
 | .bl b,u=>u=Vy b
 | .int i,u=>∃t,u=Value.int i t
 | .str x,u=>∃t,u=Value.str x t
 | .byt b,u=>∃t,u=Value.bytes b t
 | .flt b,u=>∃t,u=Value.float b t
 | .ref a,u=>u=Yy a
 | .ty n,u=>u=X1 n
abbrev Vals:List V->List Value->Prop:=Paired RelV
theorem Vals.length {xs:List V}{us:3e5}(r:Vals xs us):xs.length=us.length:=Vv r
theorem Vals.get:∀{xs:List V} {us:3e5} {i:Nat} {x:V},Vals xs us->xs[i]? = some x->∃u,us[i]? = some u/\RelV x u
 | _,_,_,_,.nil,e=>by simp at e
 | _,_,0,_,.cons r _,e=>by simp at e;subst e;exact ⟨_,rfl,r⟩
 | _,_,i + 1,x,.cons _ t,e=>by
  obtain ⟨u,h1,h2⟩:=Vals.get (i:=i) (x:=x) t (by simpa using e)
  exact ⟨u,by simpa using h1,h2⟩
theorem Vals.set {x:V}{u:Value}(r:RelV x u):∀{xs:List V} {us:3e5} (i:Nat),Vals xs us->Vals (xs.set i x) (us.set i u)
 | _,_,_,.nil=>.nil
 | _,_,0,.cons _ t=>.cons r t
 | _,_,i + 1,.cons q t=>.cons q (Vals.set r i t)
theorem Vals.append:∀{xs ys:List V} {us ws:3e5},Vals xs us->Vals ys ws->Vals (xs++ys) (us++ws)
 | _,_,_,_,.nil,s=>s
 | _,_,_,_,.cons r t,s=>.cons r (Vals.append t s)
theorem Vals.take:∀{xs:List V} {us:3e5} (n:Nat),Vals xs us->Vals (xs.take n) (us.take n)
 | _,_,0,_=>.nil
 | _,_,_ + 1,.nil=>.nil
 | _,_,n + 1,.cons r t=>.cons r (Vals.take n t)
theorem Vals.drop:∀{xs:List V} {us:3e5} (n:Nat),Vals xs us->Vals (xs.drop n) (us.drop n)
 | _,_,0,r=>r
 | _,_,_ + 1,.nil=>.nil
 | _,_,n + 1,.cons _ t=>Vals.drop n t
def RelO:Option V->Option Value->Prop
 | some v,some u=>RelV v u
 | none,none=>True
 | _,_=>False
def KV {κ:Type}:List (κ×V)->List (κ×Value)->Prop:=Paired fun (p:κ×V) (q:κ×Value)=>p.1=q.1/\RelV p.2 q.2
noncomputable def kV:Key->V
 | .inl i=>.int i
 | .inr x=>.str x
inductive HO where
  | lst (xs:List V)
  | tup (xs:List V)
  | dK (kvs:List (Key×V)) | dT (kvs:List (List Key×V))
  | set (S:Int->Bool) (n:Nat)
  | ins (C dx:Addr) (fs:List (Str×V))
  | own (x:Addr)
  | xd (fs:List (Str×V))
  | met (f x:Addr)
  | rng (lo hi:Int)
  | frz (o:Obj) (u:HO)
  | tbl (ps:Array Value)
  | ext (φ:Heap->Prop)
abbrev Hp:=Addr->Option HO
noncomputable def upd (H:Hp)(a:Addr)(o:HO):Hp:=fun b=>if b=a then some o else H b
theorem ZaU {H:Hp}{a:Addr}{o:HO}:upd H a o a=some o:=by unfold upd;rw[if_pos rfl]
theorem Zax {H:Hp}{a b:Addr}{o:HO}(h:b≠a):upd H a o b=H b:=by unfold upd;rw[if_neg h]
theorem ne_of {H:Hp}{a b:Addr}{o u:HO}(h:H a=some o)(h':H b=some u)(d:o≠u):a≠b:=by
 intro e;subst e;rw[h] at h';exact d (YA h')
theorem Zaq {H:Hp}{a b:Addr}{o:HO}(h:H a=some o)(h':H b=none):a≠b:=by
 intro e;subst e;rw[h] at h';cases h'
section
variable (P:Yq)(w:World)
def ObjOk (H:Hp)(h:Heap)(a:Addr):HO->Prop
 | .lst xs=>xs.length<=Yu/\∃(its:3e5) (n:Nat),Vals xs its/\h.get? a=some { cls:=.type "list",data:=.seq its.toArray n }
 | .tup xs=>xs.length<=Yu/\∃its:List Value,Vals xs its/\IsTup h a its.toArray
 | .dK kvs=>kvs.length<=Yu/\(a==XH)=false/\∃vs,KV kvs vs/\h.DictOf (mixKind P w) a vs
 | .dT kvs=>kvs.length<=Yu/\(a==XH)=false/\∃xs:List (List Key×Addr×Value),
   Paired (fun (p:List Key×V) (q:List Key×Addr×Value)=>p.1=q.1/\H q.2.1=some (.tup (p.1.map kV))/\RelV p.2 q.2.2) kvs xs/\
   ∃o es ep,h.get? a=some o/\o.ExactDict/\o.data=.dict es ep/\es.toList=xs.map (entryOfKey (WK (mixKind P w)))/\(xs.map (·.1)).Nodup
 | .set S n=>h.SetOf (intKind P w) a S n
 | .ins C dx fs=>H dx=some (.own a)/\fs.length<=1000/\dx≠a/\h.get? a=some (W.instObj C dx)/\
   ∃mA,h.Ns1 dx mA/\(∀f,RelO (fs.lookup f) (mA f))/\PySem.Within mA (fs.map (·.1))
 | .own _=>∃o,h.get? a=some o
 | .xd fs=>∃mA,h.Ns1 a mA/\∀f,RelO (fs.lookup f) (mA f)
 | .rng lo hi=>∃t u v,h.get? a=some { cls:=.type "range",data:=.fields #[.int lo t,.int hi u,.int 1 v] }
 | .frz o u=>h.get? a=some o/\ObjOk H h a u
 | .tbl ps=>h.get? a=some { cls:=.none,data:=.fields ps }
 | .met f x=>h.get? a=some (W.methodObj (.ref f) (.ref x))
 | .ext φ=>φ h/\(∃o,h.get? a=some o)/\∀h1 h2:Heap,φ h1->(∀o,h1.get? a=some o->h2.get? a=some o)->φ h2
def HOk (H:Hp)(h:Heap):Prop:=∀a o,H a=some o->ObjOk P w H h a o
end
section
variable {P:Yq}{w:World}{H H':Hp}{h h':Heap}{a:Addr}{o:HO}
theorem ObjOk.lt (x:ObjOk P w H h a o):a < h.objs.size:=by
 cases o with
 | lst xs=>obtain ⟨_,_,_,_,e⟩:=x;exact Ys e
 | tup xs=>obtain ⟨_,_,_,p⟩:=x;exact p.lt
 | dK kvs=>obtain ⟨_,_,_,_,o,_,_,e,_⟩:=x;exact Ys e
 | dT kvs=>obtain ⟨_,_,_,_,o,_,_,e,_⟩:=x;exact Ys e
 | set S n=>obtain ⟨o,_,_,_,e,_⟩:=x;exact Ys e
 | ins C dx fs=>obtain ⟨_,_,_,e,_⟩:=x;exact Ys e
 | own y=>obtain ⟨_,e⟩:=x;exact Ys e
 | xd fs=>obtain ⟨_,⟨_,_,_,e,_⟩,_⟩:=x;exact Ys e
 | rng lo hi=>obtain ⟨_,_,_,e⟩:=x;exact Ys e
 | frz ob u=>obtain ⟨e,_⟩:=x;exact Ys e
 | tbl ps=>exact Ys (show h.get? a=some _ from x)
 | met f y=>exact Ys (show h.get? a=some _ from x)
 | ext φ=>obtain ⟨_,⟨_,e⟩,_⟩:=x;exact Ys e
theorem Paired.mapP {α β:Type}{F G:α->β->Prop}:∀{l₁:List α} {l₂:List β},Paired F l₁ l₂->(∀a b,F a b->G a b)->Paired G l₁ l₂
 | _,_,.nil,_=>.nil
 | _,_,.cons r t,f=>.cons (f _ _ r) (Paired.mapP t f)
theorem ObjOk.stay (x:ObjOk P w H h a o)(k:∀b u,(b=a\/H b=some (.own a))->h.get? b=some u->h'.get? b=some u)
  (ho:∀b,H b=some (.own a)->H' b=some (.own a)) (ht:∀b xs,H b=some (.tup xs)->H' b=some (.tup xs)):ObjOk P w H' h' a o:=by
 induction o with
 | lst xs=>obtain ⟨z,its,n,r,e⟩:=x;exact ⟨z,its,n,r,k _ _ (.inl rfl) e⟩
 | tup xs=>obtain ⟨z,its,r,ob,e,c⟩:=x;exact ⟨z,its,r,ob,k _ _ (.inl rfl) e,c⟩
 | dK kvs=>obtain ⟨z,y,vs,r,ob,es,ep,e,c⟩:=x;exact ⟨z,y,vs,r,ob,es,ep,k _ _ (.inl rfl) e,c⟩
 | dT kvs=>
  obtain ⟨z,y,xs,r,ob,es,ep,e,c⟩:=x
  exact ⟨z,y,xs,Paired.mapP r fun p q z=>⟨z.1,ht _ _ z.2.1,z.2.2⟩,ob,es,ep,k _ _ (.inl rfl) e,c⟩
 | set S n=>obtain ⟨ob,es,ep,t,e,c⟩:=x;exact ⟨ob,es,ep,t,k _ _ (.inl rfl) e,c⟩
 | ins C dx fs=>
  obtain ⟨d,z,ne,e,mA,⟨od,es,ep,e2,c⟩,r⟩:=x
  exact ⟨ho _ d,z,ne,k _ _ (.inl rfl) e,mA,⟨od,es,ep,k _ _ (.inr d) e2,c⟩,r⟩
 | own y=>obtain ⟨ob,e⟩:=x;exact ⟨ob,k _ _ (.inl rfl) e⟩
 | xd fs=>obtain ⟨mA,⟨od,es,ep,e,c⟩,r⟩:=x;exact ⟨mA,⟨od,es,ep,k _ _ (.inl rfl) e,c⟩,r⟩
 | rng lo hi=>obtain ⟨t,u,v,e⟩:=x;exact ⟨t,u,v,k _ _ (.inl rfl) e⟩
 | frz ob u ih=>obtain ⟨e,q⟩:=x;exact ⟨k _ _ (.inl rfl) e,ih q⟩
 | tbl ps=>
  have e:h.get? a=some { cls:=.none,data:=.fields ps }:=x
  show h'.get? a=some { cls:=.none,data:=.fields ps }
  exact k a _ (.inl rfl) e
 | met f y=>
  have e:h.get? a=some (W.methodObj (.ref f) (.ref y)):=x
  show h'.get? a=some (W.methodObj (.ref f) (.ref y))
  exact k a _ (.inl rfl) e
 | ext φ=>obtain ⟨p,⟨o,e⟩,st⟩:=x;exact ⟨st _ _ p fun o q=>k _ _ (.inl rfl) q,⟨o,k _ _ (.inl rfl) e⟩,st⟩
theorem HOk.lt (x:HOk P w H h)(e:H a=some o):a < h.objs.size:=(x a o e).lt
theorem HOk.fresh (x:HOk P w H h)(e:h.objs.size<=a):H a=none:=by
 cases q:H a with
 | none=>rfl
 | some u=>exact absurd (Yv (x.lt q) e) (Wj _)
theorem HOk.kept (x:HOk P w H h)(k:∀b u,h.get? b=some u->h'.get? b=some u):HOk P w H h':=fun a o e=>
 (x a o e).stay (fun b u _ q=>k b u q) (fun _ q=>q) fun _ _ q=>q
theorem HOk.laid (x:HOk P w H h)(k:∀b u,h.get? b=some u->h'.get? b=some u)(hp:h.objs.size<=a)(new:ObjOk P w (upd H a o) h' a o):HOk P w (upd H a o) h':=fun b u e=>by
 have hn:=x.fresh hp
 by_cases hb:b=a
 ·subst hb;rw[ZaU] at e;cases e;exact new
 ·rw[Zax hb] at e
  exact (x b u e).stay (fun c v _ q=>k c v q) (fun c q=>by rw[Zax (Zaq q hn)];exact q) fun c xs q=>by rw[Zax (Zaq q hn)];exact q
end
def Rd (H:Hp)(a:Addr)(u:HO):Prop:=H a=some u\/∃o,H a=some (.frz o u)
theorem Rd.ok {P:Yq}{w:World}{H:Hp}{h:Heap}{a:Addr}{u:HO}(r:Rd H a u)(x:HOk P w H h):ObjOk P w H h a u:=by
 rcases r with r | ⟨o,r⟩
 ·exact x a u r
 ·obtain ⟨_,q⟩:=x a _ r
  exact q
def Mut:Option HO->Prop
 | some (.lst _)=>True
 | some (.dK _)=>True
 | some (.dT _)=>True
 | some (.set _ _)=>True
 | some (.ins _ _ _)=>True
 | some (.ext _)=>True
 | _=>False
section
variable {P:Yq}{w:World}{H:Hp}{h h':Heap}{x e:Addr}{o':HO}
theorem HOk.write (ok:HOk P w H h)(mu:Mut (H x))(he:e=x\/H e=some (.own x))(k:∀b u,b≠e->h.get? b=some u->h'.get? b=some u)(heo:∃u,h'.get? e=some u)
  (new:ObjOk P w (upd H x o') h' x o'):HOk P w (upd H x o') h':=fun b u q=>by
 have nown:∀c y,H c=some (.own y)->c≠x:=fun c y r z=>by subst z;rw[r] at mu;exact mu
 have ntup:∀c xs,H c=some (.tup xs)->c≠x:=fun c xs r z=>by subst z;rw[r] at mu;exact mu
 by_cases hb:b=x
 ·subst hb;rw[ZaU] at q;cases q;exact new
 ·rw[Zax hb] at q
  by_cases hbe:b=e
  ·have q':H b=some (.own x):=by
    rcases he with z | z
    ·exact absurd (hbe.trans z) hb
    ·rw[hbe];exact z
   rw[q] at q';cases q'
   obtain ⟨v,hv⟩:=heo
   exact ⟨v,by rw[hbe];exact hv⟩
  ·refine (ok b u q).stay (fun c v hc r=>k c v ?_ r) (fun c r=>by rw[Zax (nown c b r)];exact r) fun c xs r=>by rw[Zax (ntup c xs r)];exact r
   rcases hc with rfl | hc
   ·exact hbe
   ·rintro rfl
    rcases he with z | z
    ·exact nown c b hc z
    ·rw[hc] at z;cases z;exact hb rfl
end
structure Un (fs ex:List Addr)(H H':Hp)(h h':Heap):Prop where
 keep:∀b o,h.get? b=some o->H b=none->b∉fs->b∉ex->h'.get? b=some o
 slot:∀b o,h.get? b=some o->H b=none->b∈fs->b∉ex->∃sl,h'.get? b=some { o with slots:=sl }
 free:∀b o,h.get? b=some o->H b=none->b∉ex->H' b=none
 there:∀b o,h.get? b=some o->b∉ex->∃o',h'.get? b=some o'
 tups:∀b xs,H b=some (.tup xs)->H' b=some (.tup xs)
 frzs:∀b o u,H b=some (.frz o u)->H' b=some (.frz o u)
 tbls:∀b ps,H b=some (.tbl ps)->∃more,H' b=some (.tbl (ps++more))
section
variable {fs fs' ex ex':3e1}{H H1 H2:Hp}{h h1 h2 h':Heap}{a x e:Addr}{o:HO}
theorem Un.any (u:Un fs ex H H1 h h1){b:Addr}{ob:Obj}(q:h.get? b=some ob)(n:H b=none)(hx:b∉ex):∃sl,h1.get? b=some { ob with slots:=sl }:=by
 by_cases hb:b∈fs
 ·exact u.slot b ob q n hb hx
 ·exact ⟨ob.slots,u.keep b ob q n hb hx⟩
theorem Un.kept (k:∀b u,h.get? b=some u->h'.get? b=some u):Un fs ex H H h h':=
 ⟨fun b ob q _ _ _=>k b ob q,fun b ob q _ _ _=>⟨ob.slots,k b ob q⟩,fun _ _ _ n _=>n,fun b ob q _=>⟨ob,k b ob q⟩,fun _ _ q=>q,fun _ _ _ q=>q,fun _ ps q=>⟨#[],by rw[q];simp⟩⟩
theorem Un.refl:Un fs ex H H h h:=Un.kept fun _ _ q=>q
theorem Un.laid (k:∀b u,h.get? b=some u->h'.get? b=some u)(hp:h.objs.size<=a)(hn:H a=none):Un fs ex H (upd H a o) h h' where
 keep:=fun b u q _ _ _=>k b u q
 slot:=fun b u q _ _ _=>⟨u.slots,k b u q⟩
 free:=fun b u q n _=>by rw[Zax (Yo (Yv (Ys q) hp))];exact n
 there:=fun b u q _=>⟨u,k b u q⟩
 tups:=fun b xs q=>by rw[Zax (Zaq q hn)];exact q
 frzs:=fun b u xs q=>by rw[Zax (Zaq q hn)];exact q
 tbls:=fun b ps q=>⟨#[],by rw[Zax (Zaq q hn),q];simp⟩
theorem Un.write (mu:Mut (H x))(he:e=x\/H e=some (.own x))(k:∀b u,b≠e->h.get? b=some u->h'.get? b=some u)(heo:∃u,h'.get? e=some u):Un fs ex H (upd H x o) h h':=by
 have hx:∀b,H b=none->b≠x:=fun b n z=>by subst z;rw[n] at mu;exact mu
 have hb:∀b,H b=none->b≠e:=fun b n z=>by
  subst z
  rcases he with r | r
  ·exact hx b n r
  ·rw[n] at r;cases r
 have hm:∀b u,H b=some u->¬Mut (some u)->b≠x:=fun b u q nm z=>by subst z;rw[q] at mu;exact nm mu
 refine ⟨fun b u q n _ _=>k b u (hb b n) q,fun b u q n _ _=>⟨u.slots,k b u (hb b n) q⟩,fun b u q n _=>by rw[Zax (hx b n)];exact n,fun b u q _=>?_,
  fun b xs q=>by rw[Zax (hm b _ q fun z=>z)];exact q,fun b u xs q=>by rw[Zax (hm b _ q fun z=>z)];exact q,fun b ps q=>⟨#[],by rw[Zax (hm b _ q fun z=>z),q];simp⟩⟩
 by_cases hbe:b=e
 ·subst hbe;exact heo
 ·exact ⟨u,k b u hbe q⟩
end
noncomputable def trk (h:Heap)(H:Hp):List Addr:=(Yg h.objs.size).filter fun a=>(H a).isSome
def hidT (h:Heap)(H:Hp):Heap:=W.hideAll h (trk h H)
theorem hidT_size (h:Heap)(H:Hp):(hidT h H).objs.size=h.objs.size:=W.hideAll_size _ _
theorem hidT_get {h:Heap}{H:Hp}{b:Addr}{o:Obj}(e:h.get? b=some o)(n:H b=none):(hidT h H).get? b=some o:=
 W.hideAll_get _ e fun hm=>by
  have q:(H b).isSome=true:=(Ub.mp hm).2
  rw[n] at q;simp at q
theorem of_hidT {h:Heap}{H:Hp}{b:Addr}{o:Obj}(e:(hidT h H).get? b=some o):h.get? b=some o/\H b=none:=by
 have e':h.get? b=some o:=W.of_hideAll (trk h H) e
 refine ⟨e',?_⟩
 cases q:H b with
 | none=>rfl
 | some x=>
  have hm:b∈trk h H:=Ub.mpr ⟨Y0.mpr (Ys e'),by simp[q]⟩
  have z:(hidT h H).get? b=none:=W.hideAll_none (trk h H) hm
  rw[z] at e;cases e
noncomputable def allNews (g h:Heap)(L:Addr):List (Addr×Obj):=(Yg h.objs.size).filterMap fun a=>if a=L\/(g.get? a).isSome=true then none else (h.get? a).map fun o=>(a,o)
def rest (g h:Heap)(L d:Addr):List (Addr×Obj):=(allNews g h L).filter fun p=>decide (p.1≠d)
structure Mod (K:W.Frag)(mg:Str->Option Value)(base:Heap):Prop where
 kin:K.In base
 glob:base.Ns Xk mg
 blt:∃mb,base.Ns builtinsNs mb/\∀x:Str,x≠"__name__"->mb x=Xe x
 nolimit:base.NoLimit
structure Cx where
 prog:Yq
 w:World
 K:W.Frag
 mg:Str->Option Value
 base:Heap
 A:Around
 N:List Str
 s₀:Shared
 H₀:Hp
 env:Env
 outer:List Env
 stack:List Env
 ex:List Addr
 fn:Str->Bool
 calm:Bool
 pn:List (Addr×Obj)
 xe:Value->Shared->Prop
noncomputable def frs (l:List Env):List Addr:=l.filterMap (·.frame)
abbrev Cx.fs (X:Cx):List Addr:=frs X.outer
def Vis (sc:Scope)(x:Str):Prop:=sc.names.lookup x=some .local\/sc.names.lookup x=some .cell\/sc.names.lookup x=some .free
def Loc (sc:Scope)(x:Str):Prop:=sc.names.lookup x=some .local\/sc.names.lookup x=some .cell
def Look (env:Env)(h:Heap)(m:2e2)(x:Str)(u:Value):Prop:=
 (env.kindOf x=some .local/\m x=some u)\/((env.kindOf x=some .cell\/env.kindOf x=some .free)/\∃c,env.cells.lookup x=some c/\h.IsCell c (some u))
structure Cx.Ok (X:Cx):Prop where
 mod:Mod X.K X.mg X.base
 kind:X.env.scope.kind=.function
 glob:X.env.globals=Xk
 blt:X.env.builtins=builtinsNs
 above:X.s₀.heap.objs.size<=X.env.locals
 inj:∀x y c,X.env.cells.lookup x=some c->X.env.cells.lookup y=some c->x=y
 has:∀x,(X.env.kindOf x=some .cell\/X.env.kindOf x=some .free)->∃c,X.env.cells.lookup x=some c
 cab:∀x c,X.fn x=true->X.env.cells.lookup x=some c->X.s₀.heap.objs.size<=c
 hd:X.calm=true->X.A.handled=none
 frames:X.A.frames=some X.stack
 stk:X.stack=X.outer\/(X.stack=X.env::X.outer/\X.env.frame=some X.env.locals)
 exf:∀b∈X.ex,b≠X.env.locals/\∀x c,X.env.cells.lookup x=some c->c≠b
 bs:∀b o,X.base.get? b=some o->X.s₀.heap.get? b=some o/\X.H₀ b=none
 bsz:X.base.objs.size<=X.s₀.heap.objs.size
 noex:∀b o,X.base.get? b=some o->b∉X.ex
 exfs:∀b∈X.ex,b∉X.fs
 funs:X.s₀.heap.FunFrames X.base X.outer
 frf:∀b∈X.fs,X.H₀ b=none
structure Inv (X:Cx)(pins:List (Addr×Obj))(σ:List (Option V))(H:Hp)(s:Shared):Prop where
 ok:X.Ok
 os:s.os=X.s₀.os
 bare:Uc s.gens
 base:Un X.fs X.ex X.H₀ H X.s₀.heap s.heap
 loc:∃m,s.heap.Ns X.env.locals m/\∀(i:Nat) (x:Str) (v:V),X.N[i]? = some x->σ[i]? = some (some v)->Vis X.env.scope x->∃u,RelV v u/\Look X.env s.heap m x u
 cell:∀x c,X.env.cells.lookup x=some c->∃v,s.heap.IsCell c v
 free:H X.env.locals=none
 freeC:∀x c,X.env.cells.lookup x=some c->H c=none
 pin:∀p∈X.pn++pins,s.heap.get? p.1=some p.2/\H p.1=none/\p.1≠X.env.locals/\p.1∉X.fs/\∀v,p.2.data≠.cell v
 hok:HOk X.prog X.w H s.heap
 len:σ.length=X.N.length
section
variable {X:Cx}{pins:2e0}{σ:List (Option V)}{H H':Hp}{s:Shared}{h':Heap}
theorem Cx.Ok.nofr (ok:X.Ok){b:Addr}{o:Obj}(e:X.base.get? b=some o):b∉X.fs:=fun hb=>by
 have:=(ok.funs.mem hb).1
 rw[e] at this;cases this
theorem Inv.bs (I:2e3):∀b o,X.base.get? b=some o->s.heap.get? b=some o/\H b=none:=fun b o e=>
 ⟨I.base.keep b o (I.ok.bs b o e).1 (I.ok.bs b o e).2 (I.ok.nofr e) (I.ok.noex b o e),I.base.free b o (I.ok.bs b o e).1 (I.ok.bs b o e).2 (I.ok.noex b o e)⟩
theorem Inv.bk (I:2e3):∀b o,X.base.get? b=some o->s.heap.get? b=some o:=fun b o e=>(I.bs b o e).1
theorem Inv.mod (I:2e3):Mod X.K X.mg X.base:=I.ok.mod
theorem Inv.kIn (I:2e3):X.K.In s.heap:=I.ok.mod.kin.keeps I.bk
theorem Inv.nolimit (I:2e3):s.heap.NoLimit:=I.ok.mod.nolimit.keeps I.bk
theorem Inv.lt (I:2e3):X.env.locals < s.heap.objs.size:=let ⟨_,hn,_⟩:=I.loc;hn.lt
theorem Inv.sz (I:2e3):X.s₀.heap.objs.size<=s.heap.objs.size:=YG I.ok.above (Wi I.lt)
theorem Inv.nofs (I:2e3){a:Addr}(h:s.heap.objs.size<=a):a∉X.fs:=fun hb=>by
 obtain ⟨_,o,ho,_⟩:=I.ok.funs.mem hb
 exact absurd (Yv (Ys ho) (YG I.sz h)) (Wj _)
theorem Inv.cne (I:2e3):∀x c,X.env.cells.lookup x=some c->c≠X.env.locals:=fun x c e z=>by
 obtain ⟨v,o,ho,hd⟩:=I.cell x c e
 obtain ⟨m,⟨o',es,ep,ho',hd',_⟩,_⟩:=I.loc
 rw[z,ho'] at ho;cases ho;rw[hd'] at hd;cases hd
theorem Inv.funs (I:2e3):s.heap.FunFrames X.base X.outer:=by
 have all:∀(l:List Env),(∀b∈frs l,b∈X.fs)->X.s₀.heap.FunFrames X.base l->s.heap.FunFrames X.base l:=by
  intro l
  induction l with
  | nil=>intro _ _;trivial
  | cons env r ih=>
   intro hs hl
   obtain ⟨hk,⟨L,o,hf,hn,ho,hd⟩,hr⟩:=hl
   have hL:L∈X.fs:=hs L (by unfold frs;rw[Wl,hf];exact Xr)
   obtain ⟨sl,e⟩:=I.base.slot L o ho (I.ok.frf L hL) hL fun z=>I.ok.exfs L z hL
   exact ⟨hk,⟨L,_,hf,hn,e,hd⟩,ih (fun b hb=>hs b (by unfold frs;rw[Wl,hf];exact Xf _ hb)) hr⟩
 exact all X.outer (fun _ hb=>hb) I.ok.funs
theorem Inv.stack (I:2e3):s.heap.FunFrames X.base X.stack:=by
 rcases I.ok.stk with e | ⟨e,hf⟩
 ·rw[e];exact I.funs
 ·rw[e]
  obtain ⟨m,hn,_⟩:=I.loc
  refine .cons (by rw[I.ok.kind];decide) hf hn ?_ I.funs
  exact Heap.get?_none_of_le (YG I.ok.bsz I.ok.above)
theorem Inv.stkSub (I:2e3):∀b∈frs X.stack,b∈X.env.locals::X.fs:=fun b hb=>by
 rcases I.ok.stk with e | ⟨e,hf⟩
 ·rw[e] at hb;exact Xf _ hb
 ·rw[e] at hb
  unfold frs at hb
  rw[Wl,hf] at hb
  exact hb
theorem Inv.stkFree (I:2e3):∀b∈frs X.stack,H b=none:=fun b hb=>by
 rcases Yn.mp (I.stkSub b hb) with e | hb
 ·rw[e];exact I.free
 ·obtain ⟨_,o,ho,_⟩:=I.ok.funs.mem hb
  exact I.base.free b o ho (I.ok.frf b hb) fun z=>I.ok.exfs b z hb
theorem Inv.step {g':Array GenState}{t':Nat}{d':Drawn}{ch:3e1}(I:2e3)
  (hch:∀b∈ch,(b∈X.ex\/X.s₀.heap.objs.size<=b)/\b≠X.env.locals/\(∀x c,X.env.cells.lookup x=some c->c≠b)/\∀p∈X.pn++pins,p.1≠b)
  (keep:∀b o,b≠X.env.locals->b∉X.fs->b∉ch->s.heap.get? b=some o->H b=none->h'.get? b=some o)
  (slot:∀b o,b≠X.env.locals->b∈X.fs->b∉ch->s.heap.get? b=some o->H b=none->∃sl,h'.get? b=some { o with slots:=sl }) (free:∀b o,b∉ch->s.heap.get? b=some o->H b=none->H' b=none)
  (there:∀b o,b∉ch->s.heap.get? b=some o->∃o',h'.get? b=some o')
  (tups:∀b xs,H b=some (.tup xs)->H' b=some (.tup xs)) (frzs:∀b o u,H b=some (.frz o u)->H' b=some (.frz o u)) (tbls:∀b ps,H b=some (.tbl ps)->∃more,H' b=some (.tbl (ps++more)))
  (ns:∀m,s.heap.Ns X.env.locals m->h'.Ns X.env.locals m) (hok:HOk X.prog X.w H' h') (hg:Uc g'):
  Inv X pins σ H' { s with heap:=h',gens:=g',drawn:=d',toks:=t' }:=by
 have neL:∀b o,X.s₀.heap.get? b=some o->b≠X.env.locals:=fun b o e=>Yo (Yv (Ys e) I.ok.above)
 have neC:∀b o,X.s₀.heap.get? b=some o->b∉X.ex->b∉ch:=fun b o e hx hb=>by
  rcases (hch b hb).1 with z | z
  ·exact hx z
  ·exact absurd (Yv (Ys e) z) (Wj _)
 have cellK:∀x c,X.env.cells.lookup x=some c->∀v,s.heap.IsCell c v->h'.IsCell c v:=fun x c e v h_=>by
  obtain ⟨o,ho,hd⟩:=h_
  have nch:c∉ch:=fun z=>(hch c z).2.2.1 x c e rfl
  by_cases hc:c∈X.fs
  ·obtain ⟨sl,q⟩:=slot c o (I.cne x c e) hc nch ho (I.freeC x c e)
   exact ⟨_,q,hd⟩
  ·exact ⟨o,keep c o (I.cne x c e) hc nch ho (I.freeC x c e),hd⟩
 refine ⟨I.ok,I.os,hg,⟨fun b o e n hb hx=>?_,fun b o e n hb hx=>?_,fun b o e n hx=>?_,fun b o e hx=>?_,fun b xs e=>tups b xs (I.base.tups b xs e),fun b o xs e=>frzs b o xs (I.base.frzs b o xs e),fun b ps e=>?_⟩,?_,fun x c e=>?_,?_,fun x c e=>?_,fun p hp=>?_,hok,I.len⟩
 ·exact keep b o (neL b o e) hb (neC b o e hx) (I.base.keep b o e n hb hx) (I.base.free b o e n hx)
 ·obtain ⟨sl,e1⟩:=I.base.slot b o e n hb hx
  obtain ⟨sl',e2⟩:=slot b _ (neL b o e) hb (neC b o e hx) e1 (I.base.free b o e n hx)
  exact ⟨sl',e2⟩
 ·obtain ⟨o',e1⟩:=I.base.there b o e hx
  exact free b o' (neC b o e hx) e1 (I.base.free b o e n hx)
 ·obtain ⟨o',e1⟩:=I.base.there b o e hx
  exact there b o' (neC b o e hx) e1
 ·obtain ⟨m1,e1⟩:=I.base.tbls b ps e
  obtain ⟨m2,e2⟩:=tbls b _ e1
  exact ⟨m1++m2,by rw[e2,Array.append_assoc]⟩
 ·obtain ⟨m,hn,hl⟩:=I.loc
  refine ⟨m,ns m hn,fun i x v e1 e2 e3=>?_⟩
  obtain ⟨u,r,l⟩:=hl i x v e1 e2 e3
  refine ⟨u,r,?_⟩
  rcases l with l | ⟨k,c,e,z⟩
  ·exact .inl l
  ·exact .inr ⟨k,c,e,cellK x c e _ z⟩
 ·obtain ⟨v,z⟩:=I.cell x c e
  exact ⟨v,cellK x c e v z⟩
 ·obtain ⟨m,⟨o,_,_,ho,_⟩,_⟩:=I.loc
  exact free _ o (fun z=>(hch _ z).2.1 rfl) ho I.free
 ·obtain ⟨v,o,ho,hd⟩:=I.cell x c e
  exact free c o (fun z=>(hch c z).2.2.1 x c e rfl) ho (I.freeC x c e)
 ·obtain ⟨e,n,ne,nf,d⟩:=I.pin p hp
  have nch:p.1∉ch:=fun z=>(hch p.1 z).2.2.2 p hp rfl
  exact ⟨keep p.1 p.2 ne nf nch e n,free p.1 p.2 nch e n,ne,nf,d⟩
theorem Inv.un {t':Nat}(I:2e3)(u:Un X.fs [] H H' s.heap h')(hok:HOk X.prog X.w H' h'):Inv X pins σ H' { s with heap:=h',toks:=t' }:=by
 obtain ⟨m,⟨o,es,ep,ho,r⟩,_⟩:=id I.loc
 obtain ⟨sl,hL⟩:=u.any ho I.free 3e4
 exact I.step (g':=s.gens) (d':=s.drawn) (ch:=[]) (fun _ z=>nomatch z) (fun b o _ hb _ e n=>u.keep b o e n hb 3e4) (fun b o _ hb _ e n=>u.slot b o e n hb 3e4) (fun b o _ e n=>u.free b o e n 3e4) (fun b o _ e=>u.there b o e 3e4) u.tups u.frzs u.tbls (fun m' hm=>by
  obtain ⟨o',es',ep',ho',r'⟩:=hm
  rw[ho] at ho';cases ho'
  exact ⟨_,es',ep',hL,r'⟩) hok I.bare
theorem Inv.call {g':Array GenState}{t':Nat}{d':Drawn}{ch:3e1}(I:2e3)(u:Un (frs X.stack) ch H H' s.heap h')(hok:HOk X.prog X.w H' h')(hg:Uc g')
  (hch:∀b∈ch,(b∈X.ex\/X.s₀.heap.objs.size<=b)/\b≠X.env.locals/\(∀x c,X.env.cells.lookup x=some c->c≠b)/\∀p∈X.pn++pins,p.1≠b):
  Inv X pins σ H' { s with heap:=h',gens:=g',drawn:=d',toks:=t' }:=by
 obtain ⟨m,⟨o,es,ep,ho,r⟩,_⟩:=id I.loc
 obtain ⟨sl,hL⟩:=u.any ho I.free fun z=>(hch _ z).2.1 rfl
 exact I.step (ch:=ch) hch (fun b o hL hb hc e n=>u.keep b o e n (fun z=>(Yn.mp (I.stkSub b z)).elim hL hb) hc) (fun b o _ _ hc e n=>u.any e n hc) (fun b o hc e n=>u.free b o e n hc) (fun b o hc e=>u.there b o e hc) u.tups u.frzs u.tbls (fun m' hm=>by
  obtain ⟨o',es',ep',ho',r'⟩:=hm
  rw[ho] at ho';cases ho'
  exact ⟨_,es',ep',hL,r'⟩) hok hg
theorem Inv.turned {t':Nat}{it:Addr}(I:2e3)(k:∀b o,b≠it->s.heap.get? b=some o->h'.get? b=some o)(hn:H it=none)(hL:it≠X.env.locals)
  (h1:it∈X.ex\/X.s₀.heap.objs.size<=it) (h2:∀x c,X.env.cells.lookup x=some c->c≠it) (h3:∀p∈X.pn++pins,p.1≠it):Inv X pins σ H { s with heap:=h',toks:=t' }:=by
 have nit:∀b u,H b=some u->b≠it:=fun b u e z=>by rw[z,hn] at e;cases e
 refine I.step (g':=s.gens) (d':=s.drawn) (ch:=[it]) (fun b hb=>?_) (fun b o _ _ hc e _=>k b o (fun z=>hc (by simp[z])) e) (fun b o _ _ hc e _=>⟨o.slots,k b o (fun z=>hc (by simp[z])) e⟩) (fun _ _ _ _ n=>n)
  (fun b o hc e=>⟨o,k b o (fun z=>hc (by simp[z])) e⟩) (fun _ _ e=>e) (fun _ _ _ e=>e) (fun b ps e=>⟨#[],by rw[e];simp⟩) (fun m hm=>?_) (fun b u e=>?_) I.bare
 ·have e:b=it:=by simpa using hb
  subst e
  exact ⟨h1,hL,h2,h3⟩
 ·obtain ⟨o,es,ep,ho,r⟩:=hm
  exact ⟨o,es,ep,k _ o (XT hL) ho,r⟩
 ·refine (I.hok b u e).stay (fun c v hc q=>k c v ?_ q) (fun _ q=>q) fun _ _ q=>q
  rcases hc with z | z
  ·rw[z];exact nit b u e
  ·exact nit c _ z
theorem Inv.tok (I:2e3)(t:Nat):Inv X pins σ H { s with toks:=t }:=I.un (h':=s.heap) (t':=t) Un.refl I.hok
theorem Inv.kept {t':Nat}(I:2e3)(k:∀b u,s.heap.get? b=some u->h'.get? b=some u):Inv X pins σ H { s with heap:=h',toks:=t' }:=I.un (Un.kept k) (I.hok.kept k)
theorem Inv.laid {a:Addr}{o:HO}{t':Nat}(I:2e3)(k:∀b u,s.heap.get? b=some u->h'.get? b=some u)(hp:s.heap.objs.size<=a)(new:ObjOk X.prog X.w (upd H a o) h' a o):
  Inv X pins σ (upd H a o) { s with heap:=h',toks:=t' }:=I.un (Un.laid k hp (I.hok.fresh hp)) (I.hok.laid k hp new)
theorem Inv.write {x e:Addr}{o:HO}{t':Nat}(I:2e3)(mu:Mut (H x))(he:e=x\/H e=some (.own x))(k:∀b u,b≠e->s.heap.get? b=some u->h'.get? b=some u)(heo:∃u,h'.get? e=some u)
  (new:ObjOk X.prog X.w (upd H x o) h' x o):Inv X pins σ (upd H x o) { s with heap:=h',toks:=t' }:=I.un (Un.write mu he k heo) (I.hok.write mu he k heo new)
theorem Inv.pins_of {pins':2e0}(I:2e3)(h:∀p∈pins',s.heap.get? p.1=some p.2/\H p.1=none/\p.1≠X.env.locals/\p.1∉X.fs/\∀v,p.2.data≠.cell v):Inv X pins' σ H s:=
 ⟨I.ok,I.os,I.bare,I.base,I.loc,I.cell,I.free,I.freeC,fun p hp=>(YX.mp hp).elim (fun z=>I.pin p (Xm _ z)) (h p),I.hok,I.len⟩
theorem nodup_ix {N:4e6}(hN:N.Nodup){i j:Nat}{x:Str}(a:N[i]? = some x)(b:N[j]? = some x):i=j:=by
 obtain ⟨h1,e1⟩:=YN.mp a
 obtain ⟨h2,e2⟩:=YN.mp b
 exact (Wq hN).mp (e1.trans e2.symm)
theorem store_ok2 {M:Model}{A:Around}{E:1e4}{i:Nat}{x:Str}{v:V}{u:Value}{Q:Unit->Shared->Prop}(I:2e3)(hN:X.N.Nodup)(hi:X.N[i]? = some x)(hx:Loc X.env.scope x)(r:RelV v u)
  (h:∀s',Inv X pins (σ.set i (some v)) H s'->(∃a,XF a s.heap s'.heap/\(a=X.env.locals\/X.env.cells.lookup x=some a))->Q () s') (hf:X.fn x=true\/X.env.scope.names.lookup x=some .local:=by first | exact .inl rfl | exact .inr rfl | assumption):wpAny M A (storeName X.env x u) Q E s:=by
 obtain ⟨m,hn,hl⟩:=id I.loc
 have hcls:(X.env.scope.kind==.class||(X.env.scope.kind==.module&&X.env.locals != X.env.globals))=false:=by rw[I.ok.kind];rfl
 have hiσ:i < σ.length:=by rw[I.len];exact (YN.mp hi).1
 have cne:=I.cne
 have tracked:∀{a:Addr} {h':Heap},(∃o,s.heap.get? a=some o/\H a=none)->XF a s.heap h'->HOk X.prog X.w H h':=fun {a h'} ha hs b ob e=>by
  obtain ⟨_,_,hfree⟩:=ha
  refine (I.hok b ob e).stay (fun c w' hc q=>(hs.2 c ?_).trans q) (fun _ q=>q) fun _ _ q=>q
  rintro rfl
  rcases hc with rfl | hc
  ·rw[hfree] at e;cases e
  ·rw[hfree] at hc;cases hc
 rcases hx with hk | hk
 ·refine wpAny_storeName_local hk hn (fun h' hn' hs=>?_) hcls
  obtain ⟨oL,_,_,hoL,_⟩:=id hn
  refine h _ ⟨I.ok,I.os,I.bare,⟨fun b o e n hb hx=>?_,fun b o e n hb hx=>?_,I.base.free,fun b o e hx=>?_,I.base.tups,I.base.frzs,I.base.tbls⟩,⟨_,hn',fun j y v' e1 e2 e3=>?_⟩,fun y c e=>?_,I.free,I.freeC,fun p hp=>?_,tracked ⟨oL,hoL,I.free⟩ hs,by simpa using I.len⟩ ⟨_,hs,.inl rfl⟩
  ·exact (hs.2 b (Yo (Yv (Ys e) I.ok.above))).trans (I.base.keep b o e n hb hx)
  ·obtain ⟨sl,e1⟩:=I.base.slot b o e n hb hx
   exact ⟨sl,(hs.2 b (Yo (Yv (Ys e) I.ok.above))).trans e1⟩
  ·obtain ⟨o',e1⟩:=I.base.there b o e hx
   exact ⟨o',(hs.2 b (Yo (Yv (Ys e) I.ok.above))).trans e1⟩
  ·by_cases hj:j=i
   ·subst hj
    rw[hi] at e1;cases e1
    rw[Xz hiσ] at e2
    cases e2
    exact ⟨u,r,.inl ⟨hk,by simp⟩⟩
   ·rw[YZ (XT hj)] at e2
    obtain ⟨u',r',q⟩:=hl j y v' e1 e2 e3
    refine ⟨u',r',?_⟩
    rcases q with ⟨k,e⟩ | ⟨k,c,e,z⟩
    ·refine .inl ⟨k,?_⟩
     have:y≠x:=fun e=>hj (nodup_ix hN e1 (e ▸ hi))
     simp[this,e]
    ·exact .inr ⟨k,c,e,z.sameBut hs (cne y c e)⟩
  ·obtain ⟨w',z⟩:=I.cell y c e
   exact ⟨w',z.sameBut hs (cne y c e)⟩
  ·obtain ⟨e,n,ne,nf,d⟩:=I.pin p hp
   exact ⟨(hs.2 p.1 ne).trans e,n,ne,nf,d⟩
 ·have hfn:X.fn x=true:=by
   rcases hf with z | z
   ·exact z
   ·rw[z] at hk;cases hk
  obtain ⟨c,hc⟩:=I.ok.has x (.inl hk)
  obtain ⟨w',z⟩:=I.cell x c hc
  refine wpAny_storeName_cell I.ok.kind hk hc z (fun h' hc' hs=>?_)
  obtain ⟨oc,hoc,hocd⟩:=id z
  refine h { s with heap:=h' } ⟨I.ok,I.os,I.bare,⟨fun b o e n hb hx=>?_,fun b o e n hb hx=>?_,I.base.free,fun b o e hx=>?_,I.base.tups,I.base.frzs,I.base.tbls⟩,⟨m,hn.sameBut hs (XT (cne x c hc)),fun j y v' e1 e2 e3=>?_⟩,fun y c' e=>?_,I.free,I.freeC,fun p hp=>?_,tracked ⟨oc,hoc,I.freeC x c hc⟩ hs,by simpa using I.len⟩ ⟨c,hs,.inr hc⟩
  ·exact (hs.2 b (Yo (Yv (Ys e) (I.ok.cab x c hfn hc)))).trans (I.base.keep b o e n hb hx)
  ·obtain ⟨sl,e1⟩:=I.base.slot b o e n hb hx
   exact ⟨sl,(hs.2 b (Yo (Yv (Ys e) (I.ok.cab x c hfn hc)))).trans e1⟩
  ·obtain ⟨o',e1⟩:=I.base.there b o e hx
   exact ⟨o',(hs.2 b (Yo (Yv (Ys e) (I.ok.cab x c hfn hc)))).trans e1⟩
  ·by_cases hj:j=i
   ·subst hj
    rw[hi] at e1;cases e1
    rw[Xz hiσ] at e2
    cases e2
    exact ⟨u,r,.inr ⟨.inl hk,c,hc,hc'⟩⟩
   ·rw[YZ (XT hj)] at e2
    obtain ⟨u',r',q⟩:=hl j y v' e1 e2 e3
    refine ⟨u',r',?_⟩
    rcases q with q | ⟨k,c',e,z'⟩
    ·exact .inl q
    ·refine .inr ⟨k,c',e,z'.sameBut hs ?_⟩
     rintro rfl
     exact hj (nodup_ix hN e1 (I.ok.inj _ _ _ e hc ▸ hi))
  ·by_cases hcc:c'=c
   ·subst hcc;exact ⟨_,hc'⟩
   ·obtain ⟨w2,z2⟩:=I.cell y c' e
    exact ⟨w2,z2.sameBut hs hcc⟩
  ·obtain ⟨e,n,ne,nf,d⟩:=I.pin p hp
   refine ⟨(hs.2 p.1 ?_).trans e,n,ne,nf,d⟩
   intro q
   rw[q,hoc] at e
   have q':oc=p.2:=YA e
   exact d w' (by rw[←q'];exact hocd)
theorem store_ok {M:Model}{A:Around}{E:1e4}{i:Nat}{x:Str}{v:V}{u:Value}{Q:Unit->Shared->Prop}(I:2e3)(hN:X.N.Nodup)(hi:X.N[i]? = some x)(hx:Loc X.env.scope x)(r:RelV v u)
  (h:∀s',Inv X pins (σ.set i (some v)) H s'->Q () s') (hf:X.fn x=true\/X.env.scope.names.lookup x=some .local:=by first | exact .inl rfl | exact .inr rfl | assumption):wpAny M A (storeName X.env x u) Q E s:=
 store_ok2 I hN hi hx r (fun s' I' _=>h s' I') hf
theorem Inv.call' {s':Shared}{ch:3e1}(I:2e3)(ho:s'.os=s.os)(u:Un (frs X.stack) ch H H' s.heap s'.heap)(hok:HOk X.prog X.w H' s'.heap)(hg:Uc s'.gens)
  (hch:∀b∈ch,(b∈X.ex\/X.s₀.heap.objs.size<=b)/\b≠X.env.locals/\(∀x c,X.env.cells.lookup x=some c->c≠b)/\∀p∈X.pn++pins,p.1≠b):Inv X pins σ H' s':=by
 obtain ⟨h',g',d',t',o'⟩:=s'
 have e:o'=s.os:=ho
 subst e
 exact I.call (g':=g') (t':=t') (d':=d') u hok hg hch
end
abbrev XK:=Value->Option Addr->Hp->Prop
abbrev St:=List (Option V)
abbrev VK:=V->Hp->Prop
abbrev TE:=St->Hp->VK->Prop
abbrev TT:=St->Hp->(Bool->Hp->Prop)->Prop
abbrev TA:=St->Hp->(List V->Hp->Prop)->Prop
structure Ends where
 nx:St->Hp->Prop
 rt:VK
 bk:St->Hp->Prop:=fun _ _=>False
 ct:St->Hp->Prop:=fun _ _=>False
abbrev TS:=Ends->St->Hp->Prop
def EP (X:Cx)(pins:2e0)(σ:St)(Q:VK)(u:Value)(s':Shared):Prop:=∃v H',Inv X pins σ H' s'/\RelV v u/\Q v H'
def TP (X:Cx)(pins:2e0)(σ:St)(Q:Bool->Hp->Prop)(b:Bool)(s':Shared):Prop:=∃H',Inv X pins σ H' s'/\Q b H'
def AP (X:Cx)(pins:2e0)(σ:St)(Q:List V->Hp->Prop)(us:3e5)(s':Shared):Prop:=∃vs H',Inv X pins σ H' s'/\Vals vs us/\Q vs H'
def SP (X:Cx)(pins:2e0)(D:Ends)(f:Flow)(s':Shared):Prop:=
 match f with
 | .next=>∃σ' H',Inv X pins σ' H' s'/\D.nx σ' H'
 | .brk=>∃σ' H',Inv X pins σ' H' s'/\D.bk σ' H'
 | .cont=>∃σ' H',Inv X pins σ' H' s'/\D.ct σ' H'
 | .ret u=>∃v σ' H',Inv X pins σ' H' s'/\RelV v u/\D.rt v H'
def PE (X:Cx)(e:Expr)(t:TE):Prop:=
 ∀(pins:2e0) (s:Shared) (σ:St) (H:Hp) (Q:VK),Inv X pins σ H s->t σ H Q->wpAny 3e0 X.A (eval e X.env) (EP X pins σ Q) X.xe s
def PT (X:Cx)(e:Expr)(t:TT):Prop:=
 ∀(pins:2e0) (s:Shared) (σ:St) (H:Hp) (Q:Bool->Hp->Prop),Inv X pins σ H s->t σ H Q->wpAny 3e0 X.A (isTrue e X.env (eval e X.env)) (TP X pins σ Q) X.xe s
def PW (X:Cx)(e:Expr)(t:TT):Prop:=
 ∀(whole:Sem Value) (pins:2e0) (s:Shared) (σ:St) (H:Hp) (Q:Bool->Hp->Prop),Inv X pins σ H s->t σ H Q->wpAny 3e0 X.A (isTrue e X.env whole) (TP X pins σ Q) X.xe s
def PA (X:Cx)(es:4e8)(t:TA):Prop:=
 ∀(pos:Pos) (pins:2e0) (s:Shared) (σ:St) (H:Hp) (Q:List V->Hp->Prop),Inv X pins σ H s->t σ H Q->wpAny 3e0 X.A (spliced (backTo pos (Yj es X.env))) (AP X pins σ Q) X.xe s
def PS (X:Cx)(st:Stmt)(t:TS):Prop:=
 ∀(pins:2e0) (s:Shared) (σ:St) (H:Hp) (D:Ends),Inv X pins σ H s->t D σ H->wpAny 3e0 X.A (exec st X.env) (SP X pins D) X.xe s
def PSs (X:Cx)(st:List Stmt)(t:TS):Prop:=
 ∀(pins:2e0) (s:Shared) (σ:St) (H:Hp) (D:Ends),Inv X pins σ H s->t D σ H->wpAny 3e0 X.A (execs st X.env) (SP X pins D) X.xe s
theorem thn {α:Type}{t:Sem α}{Q Q':α->Shared->Prop}{M:Model}{A:Around}{E:1e4}{s:Shared}(h:wpAny M A t Q E s)(hQ:∀a s,Q a s->Q' a s):wpAny M A t Q' E s:=X2 h hQ fun _ _ x=>x
section
variable {X:Cx}
theorem bin {a b:Expr}{ta tb:TE}(ha:PE X a ta)(hb:PE X b tb){pins:2e0}{s:Shared}{σ:St}{H:Hp}{R:V->V->Hp->Prop}(I:2e3)(h:ta σ H fun x H1=>tb σ H1 fun y H2=>R x y H2)
  {α:Type} {Q:α->Shared->Prop} {f:Value->Value->Sem α}
  (hf:∀v u s2 x y H2,Inv X pins σ H2 s2->RelV x v->RelV y u->R x y H2->wpAny 3e0 X.A (f v u) Q X.xe s2):
  wpAny 3e0 X.A (eval a X.env) (fun v s₁=>wpAny 3e0 X.A (eval b X.env) (fun u s₂=>wpAny 3e0 X.A (f v u) Q X.xe s₂) X.xe s₁) X.xe s:=by
 refine thn (ha pins s σ H _ I h) fun v s1 h_=>?_
 obtain ⟨x,H1,I1,r1,q1⟩:=h_
 refine thn (hb pins s1 σ H1 _ I1 q1) fun u s2 h_=>?_
 obtain ⟨y,H2,I2,r2,q2⟩:=h_
 exact hf v u s2 x y H2 I2 r1 r2 q2
noncomputable def tVar (i:Nat):TE:=fun σ H Q=>∃v,σ[i]? = some (some v)/\Q v H
noncomputable def tC (v:V):TE:=fun _ H Q=>Q v H
theorem pe_var {i:Nat}{x:Str}{pos:Pos}(hN:X.N[i]? = some x)(hv:Vis X.env.scope x)(hd:5e0:=by decide)(hcd:(x==("__classdict__":Str))=false:=by decide):PE X (.Name x pos) (tVar i):=by
 intro pins s σ H Q I h
 obtain ⟨v,e,h⟩:=h
 obtain ⟨m,hn,hl⟩:=I.loc
 obtain ⟨u,r,l⟩:=hl i x v hN e hv
 have fin:EP X pins σ Q u s:=⟨v,H,I,r,h⟩
 rcases l with ⟨hk,hm⟩ | ⟨hk,c,hc,hcell⟩
 ·exact wpAny_Name (wpAny_loadName_local I.ok.kind hk hn hm fin) hd
 ·rcases hk with hk | hk
  ·exact wpAny_Name (wpAny_loadName_cell I.ok.kind hk hc hcell fin) hd
  ·exact wpAny_Name (wpAny_loadName_free I.ok.kind hk hc hcell fin hcd) hd
theorem pe_int {i j pos}:PE X (.Constant (.int i) j pos) (tC (.int i)):=fun _ _ _ H _ I h=>wpAny_Constant_int ⟨.int i,H,I.tok _,⟨_,rfl⟩,h⟩
theorem pe_bl {b j pos}:PE X (.Constant (.bool b) j pos) (tC (.bl b)):=fun _ _ _ H _ I h=>Constant_bool ⟨.bl b,H,I,rfl,h⟩
theorem pe_non {j pos}:PE X (.Constant .none j pos) (tC .non):=fun _ _ _ H _ I h=>Constant_none ⟨.non,H,I,rfl,h⟩
theorem pe_str {x j pos}:PE X (.Constant (.str x) j pos) (tC (.str x)):=fun _ _ _ H _ I h=>Calls.Constant_str ⟨.str x,H,I.tok _,⟨_,rfl⟩,h⟩
def Gl (X:Cx)(x:Str):Prop:=X.env.kindOf x=some .globalImplicit
theorem ld_glob {E:1e4}{pins:2e0}{s:Shared}{σ:St}{H:Hp}{x:Str}{u:Value}{pos:Pos}{Q:1e4}(I:2e3)(hg:Gl X x)(hm:X.mg x=some u)(h:Q u s)
  (hd:5e0:=by decide):wpAny 3e0 X.A (eval (.Name x pos) X.env) Q E s:=
 VE I.ok.kind hg (Calls.loadGlobal_global (by rw[I.ok.glob];exact I.mod.glob.keeps I.bk) hm h) hd
theorem Zcn {E:1e4}{pins:2e0}{s:Shared}{σ:St}{H:Hp}{x:Str}{u:Value}{pos:Pos}{Q:1e4}(I:2e3)(hg:Gl X x)(hm:X.mg x=none)(hv:Xe x=some u)(h:Q u s)
  (hn:x≠"__name__":=by decide) (hd:5e0:=by decide):wpAny 3e0 X.A (eval (.Name x pos) X.env) Q E s:=by
 obtain ⟨mb,h1,h2⟩:=I.mod.blt
 exact VE I.ok.kind hg (Calls.loadGlobal_builtin (by rw[I.ok.glob];exact I.mod.glob.keeps I.bk) hm (by rw[I.ok.blt];exact h1.keeps I.bk) ((h2 x hn).trans hv) h) hd
theorem pe_glob {x:Str}{v:V}{u:Value}{pos:Pos}(hg:Gl X x)(hm:X.mg x=some u)(r:RelV v u)(hd:5e0:=by decide):PE X (.Name x pos) (tC v):=
 fun _ _ _ H _ I h=>ld_glob I hg hm ⟨v,H,I,r,h⟩ hd
theorem pe_bltn {x:Str}{v:V}{u:Value}{pos:Pos}(hg:Gl X x)(hm:X.mg x=none)(hv:Xe x=some u)(r:RelV v u)(hn:x≠"__name__":=by decide)(hd:5e0:=by decide):PE X (.Name x pos) (tC v):=
 fun _ _ _ H _ I h=>Zcn I hg hm hv ⟨v,H,I,r,h⟩ hn hd
variable {a b:Expr}{ta tb:TE}{pos:Pos}
variable {tA tB':TT}{rest:4e8}
noncomputable def tAnd (t u:TT):TT:=fun σ H Q=>t σ H fun c H1=>if c=true then u σ H1 Q else Q false H1
noncomputable def tOr (t u:TT):TT:=fun σ H Q=>t σ H fun c H1=>if c=true then Q true H1 else u σ H1 Q
noncomputable def tNot (t:TT):TT:=fun σ H Q=>t σ H fun c H1=>Q (!c) H1
theorem pw_and1 (ha:PT X a tA):PW X (.BoolOp .And [a] pos) tA:=by
 intro wh pins s σ H Q I h
 refine isTrue_and (thn (ha pins s σ H Q I h) fun c s1 e=>?_)
 cases c with
 | true=>exact isTrue_and_nil e
 | false=>exact e
theorem pw_or1 (ha:PT X a tA):PW X (.BoolOp .Or [a] pos) tA:=by
 intro wh pins s σ H Q I h
 refine isTrue_or (thn (ha pins s σ H Q I h) fun c s1 e=>?_)
 cases c with
 | false=>exact isTrue_or_nil e
 | true=>exact e
theorem pw_and (ha:PT X a tA)(hb:PW X (.BoolOp .And (b::rest) pos) tB'):PW X (.BoolOp .And (a::b::rest) pos) (tAnd tA tB'):=by
 intro wh pins s σ H Q I h
 refine isTrue_and (thn (ha pins s σ H _ I h) fun c s1 h_=>?_)
 obtain ⟨H1,I1,q1⟩:=h_
 cases c with
 | true=>exact hb wh pins s1 σ H1 Q I1 q1
 | false=>exact ⟨H1,I1,q1⟩
theorem pw_or (ha:PT X a tA)(hb:PW X (.BoolOp .Or (b::rest) pos) tB'):PW X (.BoolOp .Or (a::b::rest) pos) (tOr tA tB'):=by
 intro wh pins s σ H Q I h
 refine isTrue_or (thn (ha pins s σ H _ I h) fun c s1 h_=>?_)
 obtain ⟨H1,I1,q1⟩:=h_
 cases c with
 | true=>exact ⟨H1,I1,q1⟩
 | false=>exact hb wh pins s1 σ H1 Q I1 q1
theorem pt_not (ha:PT X a tA):PT X (.UnaryOp .Not a pos) (tNot tA):=by
 intro pins s σ H Q I h
 exact isTrue_not (ha pins s σ H (fun c H1=>Q (!c) H1) I h)
noncomputable def tAndV (ta tb:TE):TE:=fun σ H Q=>ta σ H fun x H1=>∃c,x=.bl c/\if c=true then tb σ H1 Q else Q (.bl false) H1
noncomputable def tOrV (ta tb:TE):TE:=fun σ H Q=>ta σ H fun x H1=>∃c,x=.bl c/\if c=true then Q (.bl true) H1 else tb σ H1 Q
noncomputable def tNotV (ta:TE):TE:=fun σ H Q=>ta σ H fun x H1=>∃c,x=.bl c/\Q (.bl (!c)) H1
theorem pe_one {op}{t:TE}(h:PE X a t):PE X (.BoolOp op [a] pos) t:=fun pins s σ H Q I hw=>BoolOp_one (h pins s σ H Q I hw)
theorem pe_and (ha:PE X a ta)(hb:PE X (.BoolOp .And (b::rest) pos) tb):PE X (.BoolOp .And (a::b::rest) pos) (tAndV ta tb):=by
 intro pins s σ H Q I h
 refine BoolOp_and (thn (ha pins s σ H _ I h) fun v s1 h_=>?_)
 obtain ⟨x,H1,I1,r1,q1⟩:=h_
 obtain ⟨c,rfl,q1⟩:=q1
 cases r1
 refine Xp ?_
 cases c with
 | true=>exact hb pins s1 σ H1 Q I1 q1
 | false=>exact ⟨.bl false,H1,I1,rfl,q1⟩
theorem pe_or (ha:PE X a ta)(hb:PE X (.BoolOp .Or (b::rest) pos) tb):PE X (.BoolOp .Or (a::b::rest) pos) (tOrV ta tb):=by
 intro pins s σ H Q I h
 refine BoolOp_or (thn (ha pins s σ H _ I h) fun v s1 h_=>?_)
 obtain ⟨x,H1,I1,r1,q1⟩:=h_
 obtain ⟨c,rfl,q1⟩:=q1
 cases r1
 refine Xp ?_
 cases c with
 | false=>exact hb pins s1 σ H1 Q I1 q1
 | true=>exact ⟨.bl true,H1,I1,rfl,q1⟩
theorem pe_not (ha:PE X a ta):PE X (.UnaryOp .Not a pos) (tNotV ta):=by
 intro pins s σ H Q I h
 refine UnaryOp_ (thn (ha pins s σ H _ I h) fun v s1 h_=>?_)
 obtain ⟨x,H1,I1,r1,q1⟩:=h_
 obtain ⟨c,rfl,q1⟩:=q1
 cases r1
 exact not_of (Xp ⟨.bl (!c),H1,I1,rfl,q1⟩)
end
def SqL (K:W.Frag)(H:Hp)(a:Addr)(xs:List V):Prop:=
 Rd H a (.lst xs)\/
  ∃(o:Obj) (its:Array Value) (n:Nat),K.lookup a=some o/\o.cls=.type "list"/\o.dict=none/\o.data=.seq its n/\its.size<=Yu/\Vals xs its.toList
def SqT (K:W.Frag)(H:Hp)(a:Addr)(xs:List V):Prop:=
 Rd H a (.tup xs)\/
  ∃(o:Obj) (its:Array Value) (n:Nat),K.lookup a=some o/\o.cls=.type "tuple"/\o.data=.seq its n/\its.size<=Yu/\Vals xs its.toList
noncomputable def absV:Value->Option V
 | .none=>some .non
 | .bool b=>some (.bl b)
 | .int i _=>some (.int i)
 | .str x _=>some (.str x)
 | .bytes b _=>some (.byt b)
 | .float b _=>some (.flt b)
 | .ref a=>some (.ref a)
 | .type n=>some (.ty n)
 | _=>none
theorem RelV.abs {x:V}{u:Value}(r:RelV x u):absV u=some x:=by
 cases x with
 | non=>cases r;rfl
 | bl _=>cases r;rfl
 | int _=>obtain ⟨t,rfl⟩:=r;rfl
 | str _=>obtain ⟨t,rfl⟩:=r;rfl
 | byt _=>obtain ⟨t,rfl⟩:=r;rfl
 | flt _=>obtain ⟨t,rfl⟩:=r;rfl
 | ref _=>cases r;rfl
 | ty _=>cases r;rfl
theorem RelV.inj {x y:V}{u:Value}(r:RelV x u)(q:RelV y u):x=y:=YA (r.abs.symm.trans q.abs)
theorem Vals.inj:∀{xs ys:List V} {us:3e5},Vals xs us->Vals ys us->xs=ys
 | _,_,_,.nil,.nil=>rfl
 | _,_,_,.cons r t,.cons r' t'=>by rw[r.inj r',Vals.inj t t']
section
variable {X:Cx}{pins:2e0}{σ:St}{H:Hp}{s:Shared}{a:Addr}{xs ys:List V}
theorem SqL.of {K:W.Frag}(h:H a=some (.lst xs)):SqL K H a xs:=.inl (.inl h)
theorem Inv.list (I:2e3)(h:SqL X.K H a xs):∃its:List Value,Vals xs its/\PlainL s.heap a its.toArray/\xs.length<=sizeLine:=by
 rcases h with h | ⟨o,its,n,hk,hc,hd,hs,hz,r⟩
 ·obtain ⟨z,its,n,r,e⟩:=h.ok I.hok
  exact ⟨its,r,⟨_,n,e,rfl,rfl,rfl⟩,z⟩
 ·refine ⟨its.toList,r,⟨o,n,I.kIn a o hk,hc,hd,by simpa using hs⟩,?_⟩
  have e:=r.length
  simp only[YH] at e
  lia
theorem Inv.tuple (I:2e3)(h:SqT X.K H a xs):∃its:List Value,Vals xs its/\IsTup s.heap a its.toArray/\xs.length<=sizeLine:=by
 rcases h with h | ⟨o,its,n,hk,hc,hs,hz,r⟩
 ·obtain ⟨z,its,r,p⟩:=h.ok I.hok
  exact ⟨its,r,p,z⟩
 ·refine ⟨its.toList,r,⟨o,I.kIn a o hk,hc,n,by simpa using hs⟩,?_⟩
  have e:=r.length
  simp only[YH] at e
  lia
theorem Inv.list_inj (I:2e3)(h:SqL X.K H a xs)(h':SqL X.K H a ys):xs=ys:=by
 obtain ⟨its,r,⟨o,n,e,_,_,d⟩,_⟩:=I.list h
 obtain ⟨its',r',⟨o',n',e',_,_,d'⟩,_⟩:=I.list h'
 rw[e] at e';cases e'
 rw[d] at d'
 injection d' with d1 _
 have:its=its':=by simpa using congrArg Array.toList d1
 subst this
 exact r.inj r'
theorem Inv.tuple_inj (I:2e3)(h:SqT X.K H a xs)(h':SqT X.K H a ys):xs=ys:=by
 obtain ⟨its,r,⟨o,e,_,n,d⟩,_⟩:=I.tuple h
 obtain ⟨its',r',⟨o',e',_,n',d'⟩,_⟩:=I.tuple h'
 rw[e] at e';cases e'
 rw[d] at d'
 injection d' with d1 _
 have:its=its':=by simpa using congrArg Array.toList d1
 subst this
 exact r.inj r'
end
noncomputable abbrev Cx.wish (X:Cx)(E:1e4):Cx:={ X with xe:=E }
abbrev Cx.nox (X:Cx):Cx:=X.wish fun _ _=>False
theorem Cx.Ok.wish {X:Cx}(ok:X.Ok)(E:1e4):(X.wish E).Ok:=
 ⟨ok.mod,ok.kind,ok.glob,ok.blt,ok.above,ok.inj,ok.has,ok.cab,ok.hd,ok.frames,ok.stk,ok.exf,ok.bs,ok.bsz,ok.noex,ok.exfs,ok.funs,ok.frf⟩
theorem Cx.Ok.unwish {X:Cx}{E:1e4}(ok:(X.wish E).Ok):X.Ok:=
 ⟨ok.mod,ok.kind,ok.glob,ok.blt,ok.above,ok.inj,ok.has,ok.cab,ok.hd,ok.frames,ok.stk,ok.exf,ok.bs,ok.bsz,ok.noex,ok.exfs,ok.funs,ok.frf⟩
section
variable {X:Cx}{pins:2e0}{σ:St}{H:Hp}{s:Shared}{E:1e4}
theorem Inv.wish (I:2e3)(E:1e4):Inv (X.wish E) pins σ H s:=⟨I.ok.wish E,I.os,I.bare,I.base,I.loc,I.cell,I.free,I.freeC,I.pin,I.hok,I.len⟩
theorem Inv.unwish (I:Inv (X.wish E) pins σ H s):Inv X pins σ H s:=⟨I.ok.unwish,I.os,I.bare,I.base,I.loc,I.cell,I.free,I.freeC,I.pin,I.hok,I.len⟩
theorem SP.unwish {D:Ends}{f:Flow}{s':Shared}(h:SP (X.wish E) pins D f s'):SP X pins D f s':=by
 cases f with
 | next=>obtain ⟨σ',H',I,q⟩:=h;exact ⟨σ',H',I.unwish,q⟩
 | brk=>obtain ⟨σ',H',I,q⟩:=h;exact ⟨σ',H',I.unwish,q⟩
 | cont=>obtain ⟨σ',H',I,q⟩:=h;exact ⟨σ',H',I.unwish,q⟩
 | ret u=>obtain ⟨v,σ',H',I,r,q⟩:=h;exact ⟨v,σ',H',I.unwish,r,q⟩
theorem PSs.nox {st:List Stmt}{t:TS}(h:PSs X.nox st t):PSs X st t:=fun pins s σ H D I hw=>
 X2 (h pins s σ H D (I.wish _) hw) (fun _ _ q=>q.unwish) fun _ _ z=>Wu z
end
section
variable {X:Cx}{st:Stmt}{rest:List Stmt}{t u:TS}{e:Expr}{te:TE}{pos:Pos}
noncomputable def tNext:TS:=fun D σ H=>D.nx σ H
noncomputable def tSeq (t u:TS):TS:=fun D σ H=>t { D with nx:=u D } σ H
theorem pss_nil:PSs X [] tNext:=fun _ _ σ H _ I h=>Ud ⟨σ,H,I,h⟩
theorem pss_cons (h1:PS X st t)(h2:PSs X rest u):PSs X (st::rest) (tSeq t u):=by
 intro pins s σ H D I h
 refine wpAny_execs_cons (thn (h1 pins s σ H { D with nx:=u D } I h) fun f s1 q=>?_)
 cases f with
 | next=>
  obtain ⟨σ',H',I',q⟩:=q
  exact h2 pins s1 σ' H' D I' q
 | ret v=>exact q
 | brk=>exact q
 | cont=>exact q
theorem pss_one (h1:PS X st t):PSs X [st] t:=by
 intro pins s σ H D I h
 refine wpAny_execs_cons (thn (h1 pins s σ H D I h) fun f s1 q=>?_)
 cases f with
 | next=>exact Ud q
 | ret v=>exact q
 | brk=>exact q
 | cont=>exact q
theorem Inv.quiet {pins:2e0}{σ:St}{H:Hp}{s:Shared}(I:2e3):interactive X.env=false:=by simp[interactive,I.ok.kind]
noncomputable def tDrop (te:TE):TS:=fun D σ H=>te σ H fun _ H1=>D.nx σ H1
theorem ps_expr (he:PE X e te)(hs:WZ e none pos.line X.env=pure false:=by rfl):PS X (.Expr e pos) (tDrop te):=by
 intro pins s σ H D I h
 exact wpAny_Expr_any (thn (he pins s σ H _ I h) fun v s1 ⟨x,H1,I1,r1,q1⟩=>⟨σ,H1,I1,q1⟩) I.quiet hs
noncomputable def tRet (te:TE):TS:=fun D σ H=>te σ H D.rt
theorem ps_ret (he:PE X e te):PS X (.Return (some e) pos) (tRet te):=by
 intro pins s σ H D I h
 exact wpAny_Return_some (thn (he pins s σ H _ I h) fun v s1 ⟨x,H1,I1,r1,q1⟩=>⟨x,σ,H1,I1,r1,q1⟩)
noncomputable def tIfS (c:TT)(t u:TS):TS:=fun D σ H=>c σ H fun b H1=>if b=true then t D σ H1 else u D σ H1
theorem ps_if {c:Expr}{a b:List Stmt}{tc:TT}(hc:PT X c tc)(ha:PSs X a t)(hb:PSs X b u):PS X (.If c a b pos) (tIfS tc t u):=by
 intro pins s σ H D I h
 refine wpAny_If (thn (hc pins s σ H _ I h) fun d s1 h_=>?_)
 obtain ⟨H1,I1,q1⟩:=h_
 cases d with
 | true=>exact ha pins s1 σ H1 D I1 q1
 | false=>exact hb pins s1 σ H1 D I1 q1
end
abbrev TG:=V->St->Hp->(St->Hp->Prop)->Prop
abbrev TGs:=List V->St->Hp->(St->Hp->Prop)->Prop
def PG (X:Cx)(target:Expr)(t:TG):Prop:=
 ∀(pins:2e0) (s:Shared) (σ:St) (H:Hp) (v:V) (u:Value) (Q:St->Hp->Prop),Inv X pins σ H s->RelV v u->t v σ H Q->
  wpAny 3e0 X.A (assign target X.env u) (fun _ s'=>∃σ' H',Inv X pins σ' H' s'/\Q σ' H') X.xe s
def PGs (X:Cx)(ts:4e8)(t:TGs):Prop:=
 ∀(pins:2e0) (s:Shared) (σ:St) (H:Hp) (vs:List V) (us:3e5) (Q:St->Hp->Prop),Inv X pins σ H s->Vals vs us->t vs σ H Q->
  wpAny 3e0 X.A (assignInOrder ((Wa ts X.env).map (·.2)) us) (fun _ s'=>∃σ' H',Inv X pins σ' H' s'/\Q σ' H') X.xe s
abbrev TSet:=V->V->V->Hp->(Hp->Prop)->Prop
def PSet (X:Cx)(t:TSet):Prop:=
 ∀(pins:2e0) (s:Shared) (σ:St) (H:Hp) (o i v:V) (ov iv u:Value) (Q:Hp->Prop),Inv X pins σ H s->RelV o ov->RelV i iv->RelV v u->t o i v H Q->
  wpAny 3e0 X.A (setItem ov iv u) (fun _ s'=>∃H',Inv X pins σ H' s'/\Q H') X.xe s
section
variable {X:Cx}{pos:Pos}
noncomputable def gName (i:Nat):TG:=fun v σ H Q=>Q (σ.set i (some v)) H
theorem pg_name {i:Nat}{x:Str}(hN:X.N.Nodup)(hi:X.N[i]? = some x)(hx:Loc X.env.scope x)(hf:X.fn x=true\/X.env.scope.names.lookup x=some .local:=by first | exact .inl rfl | exact .inr rfl | assumption):PG X (.Name x pos) (gName i):=by
 intro pins s σ H v u Q I r h
 exact wpAny_assign_Name (store_ok I hN hi hx r (fun s' I'=>⟨_,H,I',h⟩) hf)
noncomputable def gNil:TGs:=fun vs σ H Q=>vs=[]/\Q σ H
noncomputable def gCons (t:TG)(u:TGs):TGs:=fun vs σ H Q=>∃v r,vs=v::r/\t v σ H fun σ' H'=>u r σ' H' Q
theorem pgs_nil:PGs X [] gNil:=by
 intro pins s σ H vs us Q I r h
 obtain ⟨e,h⟩:=h
 subst e
 cases r
 exact assignInOrder_nil ⟨σ,H,I,h⟩
theorem pgs_cons {e:Expr}{es:4e8}{t:TG}{u:TGs}(h1:PG X e t)(h2:PGs X es u)
  (hs:(Wa 5e1 X.env).map (·.2)=assign e X.env::(Wa es X.env).map (·.2):=by rfl):PGs X 5e1 (gCons t u):=by
 intro pins s σ H vs us Q I r h
 obtain ⟨v,vr,e1,h⟩:=h
 subst e1
 cases r with
 | cons r rr=>
  rw[hs]
  refine assignInOrder_cons (thn (h1 pins s σ H _ _ _ I r h) fun _ s1 h_=>?_)
  obtain ⟨σ1,H1,I1,q1⟩:=h_
  exact h2 pins s1 σ1 H1 _ _ Q I1 rr q1
noncomputable def gTup (K:W.Frag)(n:Nat)(t:TGs):TG:=fun v σ H Q=>∃a xs,v=.ref a/\SqT K H a xs/\xs.length=n/\t xs σ H Q
theorem pg_tup {es:4e8}{k:Nat}{t:TGs}{n:Nat}(hc:X.calm=true)(h:PGs X es t)
  (hn:(Wa es X.env).length=n:=by rfl) (hst:(Wa es X.env).findIdx? (·.1)=none:=by rfl):PG X (.Tuple es k pos) (gTup X.K n t):=by
 intro pins s σ H v u Q I r hw
 obtain ⟨a,xs,e1,hq,hl,hw⟩:=hw
 subst e1
 cases r
 obtain ⟨its,rv,ht,hz⟩:=I.tuple hq
 refine assign_Tuple_tuple (I.ok.hd hc) ht (by simp[hn,←hl,rv.length]) hst fun h' hx=>?_
 have I1:Inv X pins σ H { s with heap:=h' }:=I.kept (t':=s.toks) fun b o e=>hx b o (Yo (Ys e)) e
 exact h pins _ σ H xs _ Q I1 (by simpa using rv) hw
noncomputable def gSub (to ti:TE)(t:TSet):TG:=fun v σ H Q=>to σ H fun o H1=>ti σ H1 fun i H2=>t o i v H2 fun H3=>Q σ H3
theorem pg_sub {o i:Expr}{to ti:TE}{t:TSet}(ho:PE X o to)(hi:PE X i ti)(hs:PSet X t)
  (ha:∀v,assign (.Subscript o i pos) X.env v=(do
   let ov ←V3 [v] (eval o X.env)
   let iv ←V3 [v,ov] (eval i X.env)
   standAt pos
   V3 [v,ov,iv] (setItem ov iv v)
   release [v,ov,iv] []):=by intro _;rfl):PG X (.Subscript o i pos) (gSub to ti t):=by
 intro pins s σ H v u Q I r h
 rw[ha]
 refine Yb (Xh (thn (ho pins s σ H _ I h) fun ov s1 h_=>?_))
 obtain ⟨x,H1,I1,r1,q1⟩:=h_
 refine Yb (Xh (thn (hi pins s1 σ H1 _ I1 q1) fun iv s2 h_=>?_))
 obtain ⟨y,H2,I2,r2,q2⟩:=h_
 refine Yb (wpAny_standAt (Yb (Xh (thn (hs pins s2 σ H2 x y v ov iv u _ I2 r1 r2 r q2) fun _ s3 h_=>?_))))
 obtain ⟨H3,I3,q3⟩:=h_
 exact wpAny_release ⟨σ,H3,I3,q3⟩
noncomputable def tAsg (te:TE)(g:TG):TS:=fun D σ H=>te σ H fun x H1=>g x σ H1 D.nx
theorem ps_asg {tg e:Expr}{te:TE}{g:TG}(he:PE X e te)(hg:PG X tg g)(hs:swapsWithSole [tg] e pos.line X.env=pure false:=by rfl)(hw:swappedStores [tg] e X.env=pure none:=by rfl)
  (h1:(Wa [tg] X.env).map (·.2)=[assign tg X.env]:=by rfl):PS X (.Assign [tg] e pos) (tAsg te g):=by
 intro pins s σ H D I h
 refine wpAny_Assign_stores (thn (he pins s σ H _ I h) fun v s1 ⟨x,H1,I1,r1,q1⟩=>?_) hs hw
 rw[h1]
 exact thn (hg pins s1 σ H1 x v _ I1 r1 q1) fun _ s2 q=>q
theorem ps_set {i:Nat}{x:Str}{e:Expr}{te:TE}{pos':Pos}(hN:X.N.Nodup)(hi:X.N[i]? = some x)(hx:Loc X.env.scope x)(he:PE X e te)(hs:WZ e (some (.Name x pos')) pos.line X.env=pure false:=by rfl)(hf:X.fn x=true\/X.env.scope.names.lookup x=some .local:=by first | exact .inl rfl | exact .inr rfl | assumption):
  PS X (.Assign [.Name x pos'] e pos) (tAsg te (gName i)):=by
 intro pins s σ H D I h
 refine wpAny_Assign_Name (thn (he pins s σ H _ I h) fun v s1 ⟨y,H1,I1,r1,q1⟩=>?_) hs
 exact store_ok I1 hN hi hx r1 (fun s2 I2=>⟨_,H1,I2,q1⟩) hf
end
structure It where
 go:Nat->Hp->Prop
 yld:Nat->Hp->V->Hp->Prop
 stop:Nat->Hp->Prop
def FpOk (X:Cx)(pins:2e0)(H:Hp)(b:Addr):Prop:=
 H b=none/\b≠X.env.locals/\b∉X.fs/\(b∈X.ex\/X.s₀.heap.objs.size<=b)/\(∀x c,X.env.cells.lookup x=some c->c≠b)/\∀p∈X.pn++pins,p.1≠b
theorem Inv.fpOk {X:Cx}{pins:2e0}{σ:St}{H H':Hp}{s:Shared}{b:Addr}(I:2e3)(hb:s.heap.objs.size<=b)(hn:H' b=none):FpOk X pins H' b:=by
 refine ⟨hn,X3 (Yv I.lt hb),I.nofs hb,.inr (YG I.sz hb),fun x c e z=>?_,fun p hp z=>?_⟩
 ·obtain ⟨v,q⟩:=I.cell x c e
  exact absurd (Yv q.lt (by rw[z];exact hb)) (Wj _)
 ·exact absurd (Yv (Ys (I.pin p hp).1) (by rw[z];exact hb)) (Wj _)
structure Turn (P:Yq)(w:World)(K:W.Frag)(tg:Expr)(J:It)(fp:List Addr)(it:Addr)(tn:Nat->Heap->Prop):Prop where
 mem:it∈fp
 obj:∀i h,tn i h->∀b∈fp,∃o,h.get? b=some o/\∀v,o.data≠.cell v
 keep:∀i h h',tn i h->(∀b∈fp,∀o,h.get? b=some o->h'.get? b=some o)->tn i h'
 item:∀(X:Cx),X.prog=P->X.w=w->X.K=K->X.calm=true->∀(i:Nat) (pins:2e0) (s:Shared) (σ:St) (H:Hp) (E:1e4),Inv X pins σ H s->(∀b∈fp,FpOk X pins H b)->tn i s.heap->J.go i H->
  wpAny (model P w) X.A (pyNext (.ref it)) (fun r s1=>∃u,r=some u/\
   wpAny (model P w) X.A (W0 tg (.ref it) u) (fun _ s2=>∃x H',Inv X pins σ H' s2/\RelV x u/\J.yld i H x H'/\tn (i + 1) s2.heap/\∀b∈fp,H' b=none) E s1) E s
 done:∀(X:Cx),X.prog=P->X.w=w->X.K=K->X.calm=true->∀(i:Nat) (pins:2e0) (s:Shared) (σ:St) (H:Hp) (E:1e4),Inv X pins σ H s->(∀b∈fp,FpOk X pins H b)->tn i s.heap->J.stop i H->
  wpAny (model P w) X.A (pyNext (.ref it)) (fun r s1=>r=none/\Inv X pins σ H s1) E s
 self:∀(A:Around) (i:Nat) (s:Shared) (Q:1e4) (E:1e4),tn i s.heap->Q (.ref it) s->wpAny (model P w) A (pyIter (.ref it)) Q E s
abbrev TI:=St->Hp->(It->Hp->Prop)->Prop
def PIE (X:Cx)(pins:2e0)(σ:St)(tg:Expr)(R:It->Hp->Prop)(itv:Value)(s2:Shared):Prop:=
 ∃(it:Addr) (fp:3e1) (tn:Nat->Heap->Prop) (J:It) (H':Hp),itv=.ref it/\Inv X pins σ H' s2/\Turn X.prog X.w X.K tg J fp it tn/\tn 0 s2.heap/\(∀b∈fp,FpOk X pins H' b)/\R J H'
def PI (X:Cx)(tg iter:Expr)(wi:TI):Prop:=
 ∀(pins:2e0) (s:Shared) (σ:St) (H:Hp) (R:It->Hp->Prop),Inv X pins σ H s->wi σ H R->
  wpAny 3e0 X.A (eval iter X.env) (fun v s1=>wpAny 3e0 X.A (pyIter v) (PIE X pins σ tg R) X.xe s1) X.xe s
theorem go_of {M:Model}{A:Around}{E:1e4}{s:Shared}{tg:Expr}{it:Addr}{u:Value}{o:Obj}{n:String}{vs:Array Value}{Q:Unit->Shared->Prop}(ho:s.heap.get? it=some o)(hc:o.cls=.type n)(hd:o.data=.fields vs)
    (hn:["enumerate","zip","dict_itemiterator","dict_reverseitemiterator","odict_iterator","itertools.zip_longest","itertools.pairwise"].contains n=false) (hQ:Q () s):wpAny M A (W0 tg (.ref it) u) Q E s:=by
  unfold W0
  cases tg<;>first
    | exact Ye hQ
    | (cases u<;>first
        | exact Ye hQ
        | (refine Yb (wpAny_load ho ?_)
           rw[hc,hd]
           show wpAny M A (if (["enumerate","zip","dict_itemiterator","dict_reverseitemiterator","odict_iterator","itertools.zip_longest","itertools.pairwise"].contains n&&vs[0]?==some (rawInt _))=true then _ else _) Q E s
           rw[if_neg (by intro h;rw[hn,Bool.false_and] at h;cases h)]
           exact Ye hQ))
noncomputable def Itl (K:W.Frag)(a:Addr):It:=
 ⟨fun i H=>∃xs x,SqL K H a xs/\xs[i]? = some x,fun i H x H'=>H'=H/\∀xs,SqL K H a xs->xs[i]? = some x,fun i H=>∃xs,SqL K H a xs/\xs.length<=i⟩
noncomputable def Itt (K:W.Frag)(a:Addr):It:=
 ⟨fun i H=>∃xs x,SqT K H a xs/\xs[i]? = some x,fun i H x H'=>H'=H/\∀xs,SqT K H a xs->xs[i]? = some x,fun i H=>∃xs,SqT K H a xs/\xs.length<=i⟩
noncomputable def Itr (lo:Int)(n:Nat):It:=⟨fun i _=>i < n,fun i H x H'=>H'=H/\x=.int (lo + i),fun i _=>n<=i⟩
theorem turn_list {P:Yq}{w:World}{K:W.Frag}{tg:Expr}(a it:Addr):Turn P w K tg (Itl K a) [it] it (fun i h=>h.IsListIter it a i) where
 mem:=by simp
 obj:=fun i h st b hb=>by
  have e:b=it:=by simpa using hb
  subst e
  obtain ⟨o,e,c,d⟩:=st
  exact ⟨o,e,fun v z=>by rw[d] at z;cases z⟩
 keep:=fun i h h' st k=>st.at fun o e=>k it 3e4 o e
 item:=by
  intro X hP hw hK hc i pins s σ H E I hf st hg
  subst hP hw hK
  obtain ⟨xs,x,hq,hx⟩:=hg
  obtain ⟨its,rv,p,hz⟩:=I.list hq
  obtain ⟨u,hu,ru⟩:=rv.get hx
  obtain ⟨f0,f1,f2,f3,f4,f5⟩:=hf it 3e4
  refine wpAny_pyNext_list_item st p.isList (x:=u) (by simpa using hu) fun h' st' sb=>?_
  have I1:Inv X pins σ H { s with heap:=h' }:=I.turned (t':=s.toks) (fun b o hb e=>(sb.2 b hb).trans e) f0 f1 f3 f4 f5
  obtain ⟨o,e,c,d⟩:=id st'
  exact ⟨u,rfl,go_of (s:={ s with heap:=h' }) e c d (by decide) ⟨x,H,I1,ru,⟨rfl,fun ys hy=>by rw[I.list_inj hy hq];exact hx⟩,st',fun b hb=>(hf b hb).1⟩⟩
 done:=by
  intro X hP hw hK hc i pins s σ H E I hf st hg
  subst hP hw hK
  obtain ⟨xs,hq,hx⟩:=hg
  obtain ⟨its,rv,p,hz⟩:=I.list hq
  obtain ⟨f0,f1,f2,f3,f4,f5⟩:=hf it 3e4
  have hl:=rv.length
  exact wpAny_pyNext_list_end (I.ok.hd hc) st p.isList (by simp;lia) fun h' eb=>⟨rfl,I.turned (t':=s.toks) (fun b o hb e=>eb b o hb e) f0 f1 f3 f4 f5⟩
 self:=fun _ _ _ _ _ st h=>wpAny_pyIter_listiter st h
theorem turn_tuple {P:Yq}{w:World}{K:W.Frag}{tg:Expr}(a it:Addr):Turn P w K tg (Itt K a) [it] it (fun i h=>h.IsTupleIter it a i) where
 mem:=by simp
 obj:=fun i h st b hb=>by
  have e:b=it:=by simpa using hb
  subst e
  obtain ⟨o,e,c,d⟩:=st
  exact ⟨o,e,fun v z=>by rw[d] at z;cases z⟩
 keep:=fun i h h' st k=>st.at fun o e=>k it 3e4 o e
 item:=by
  intro X hP hw hK hc i pins s σ H E I hf st hg
  subst hP hw hK
  obtain ⟨xs,x,hq,hx⟩:=hg
  obtain ⟨its,rv,p,hz⟩:=I.tuple hq
  obtain ⟨u,hu,ru⟩:=rv.get hx
  obtain ⟨f0,f1,f2,f3,f4,f5⟩:=hf it 3e4
  refine wpAny_pyNext_tuple_item st (show s.heap.IsTuple a its.toArray from p) (x:=u) (by simpa using hu) fun h' st' sb=>?_
  have I1:Inv X pins σ H { s with heap:=h' }:=I.turned (t':=s.toks) (fun b o hb e=>(sb.2 b hb).trans e) f0 f1 f3 f4 f5
  obtain ⟨o,e,c,d⟩:=id st'
  exact ⟨u,rfl,go_of (s:={ s with heap:=h' }) e c d (by decide) ⟨x,H,I1,ru,⟨rfl,fun ys hy=>by rw[I.tuple_inj hy hq];exact hx⟩,st',fun b hb=>(hf b hb).1⟩⟩
 done:=by
  intro X hP hw hK hc i pins s σ H E I hf st hg
  subst hP hw hK
  obtain ⟨xs,hq,hx⟩:=hg
  obtain ⟨its,rv,p,hz⟩:=I.tuple hq
  obtain ⟨f0,f1,f2,f3,f4,f5⟩:=hf it 3e4
  have hl:=rv.length
  exact wpAny_pyNext_tuple_end (I.ok.hd hc) st (show s.heap.IsTuple a its.toArray from p) (by simp;lia) fun h' eb=>⟨rfl,I.turned (t':=s.toks) (fun b o hb e=>eb b o hb e) f0 f1 f3 f4 f5⟩
 self:=fun _ _ _ _ _ st h=>wpAny_pyIter_tupleiter st h
theorem turn_range {P:Yq}{w:World}{K:W.Frag}{tg:Expr}(it:Addr)(lo:Int)(n:Nat):Turn P w K tg (Itr lo n) [it] it (fun i h=>IsRangeIter h it (lo + (i:Nat) * 1) ((n:Int) - (i:Nat)) 1) where
 mem:=by simp
 obj:=fun i h st b hb=>by
  have e:b=it:=by simpa using hb
  subst e
  exact ⟨_,st,fun v z=>by
   have z':Data.fields _=Data.cell v:=z
   cases z'⟩
 keep:=fun i h h' st k=>k it 3e4 _ st
 item:=by
  intro X hP hw hK hc i pins s σ H E I hf st hg
  subst hP hw hK
  obtain ⟨f0,f1,f2,f3,f4,f5⟩:=hf it 3e4
  have W:=Walks.range (prog:=X.prog) (w:=X.w) (I.ok.hd hc) it lo 1 n
  refine W.item i s _ _ hg st fun v h' tk hv st' kk=>?_
  obtain ⟨t,rfl⟩:=hv
  have I1:Inv X pins σ H { s with heap:=h',toks:=tk }:=I.turned (fun b o hb e=>kk b o (by simpa using hb) e) f0 f1 f3 f4 f5
  refine ⟨_,rfl,go_of (s:={ s with heap:=h',toks:=tk }) (n:="range_iterator") st' rfl rfl (by decide) ⟨.int (lo + i),H,I1,⟨t,?_⟩,⟨rfl,rfl⟩,st',fun b hb=>(hf b hb).1⟩⟩
  rw[Int.mul_one]
 done:=by
  intro X hP hw hK hc i pins s σ H E I hf st hg
  subst hP hw hK
  obtain ⟨f0,f1,f2,f3,f4,f5⟩:=hf it 3e4
  exact wpAny_pyNext_range_end (I.ok.hd hc) st (by have:n<=i:=hg;lia) fun h' eb=>⟨rfl,I.turned (t':=s.toks) (fun b o hb e=>eb b o hb e) f0 f1 f3 f4 f5⟩
 self:=fun _ _ _ _ _ st h=>wpAny_pyIter_rangeiter st h
section
variable {X:Cx}{tg:Expr}
theorem range_it {pins:2e0}{σ:St}{H:Hp}{s:Shared}{R:It->Hp->Prop}{E:1e4}{lo hi:Int}{t u v:Tok}{tk:Nat}(I:2e3)(h1:-(2 ^ 62)<=lo)(h2:lo < 2 ^ 62)(h3:-(2 ^ 62)<=hi)(h4:hi < 2 ^ 62)
  (q:R (Itr lo (hi - lo).toNat) H):wpAny 3e0 X.A (pyIter (.ref s.heap.objs.size)) (PIE X pins σ tg R) E { s with heap:=s.heap.push { cls:=.type "range",data:=.fields #[.int lo t,.int hi u,.int 1 v] },toks:=tk }:=by
 refine wpAny_pyIter_range (IsRange.new ..) (small_one h1 h2 h3 h4) ?_
 have I1:Inv X pins σ H { s with heap:=s.heap.push { cls:=.type "range",data:=.fields #[.int lo t,.int hi u,.int 1 v] },toks:=tk }:=I.kept fun b o e=>Yc _ e
 refine ⟨(s.heap.push { cls:=.type "range",data:=.fields #[.int lo t,.int hi u,.int 1 v] }).objs.size,[(s.heap.push { cls:=.type "range",data:=.fields #[.int lo t,.int hi u,.int 1 v] }).objs.size],_,_,H,rfl,
  I1.kept (t':=tk) fun b o e=>Yc _ e,turn_range _ lo (hi - lo).toNat,?_,fun b hb=>?_,q⟩
 ·have e1:lo + ((0:Nat):Int) * 1=lo:=by simp
  have e2:(((hi - lo).toNat:Nat):Int) - ((0:Nat):Int)=Builtin.Range.rangeSize lo hi 1:=by rw[rangeSize_one];split<;>lia
  show IsRangeIter _ _ (lo + ((0:Nat):Int) * 1) ((((hi - lo).toNat:Nat):Int) - ((0:Nat):Int)) 1
  rw[e1,e2]
  exact Yp _ rfl
 ·have e:b=(s.heap.push { cls:=.type "range",data:=.fields #[.int lo t,.int hi u,.int 1 v] }).objs.size:=by simpa using hb
  subst e
  exact I1.fpOk (Yk _) (I1.hok.fresh (Yk _))
def iRng1 (ta:TA):TI:=fun σ H R=>ta σ H fun vs H1=>∃j:Int,vs=[.int j]/\-(2 ^ 62)<=j/\j < 2 ^ 62/\R (Itr 0 j.toNat) H1
theorem pi_range1 {a:Expr}{ta:TA}{p pos:Pos}(hg:Gl X "range")(hm:X.mg "range"=none)(ha:PA X [a] ta)(hs:Yj [a] X.env=[(false,eval a X.env)]:=by rfl):PI X tg (.Call (.Name "range" p) [a] [] pos) (iRng1 ta):=by
 intro pins s σ H R I h
 refine Call_ (Zcn I hg hm boot_range (Xs (thn (ha pos pins s σ H _ I h) fun us s1 ⟨vs,H1,I1,r1,q1⟩=>?_) hs rfl))
 obtain ⟨j,e,q1,q2,q⟩:=q1
 subst e
 cases r1 with
 | cons r rr=>
  cases rr
  obtain ⟨t,rfl⟩:=r
  exact call_range_1 (range_it I1 1e3 1e3 q1 q2 (by simpa using q))
noncomputable def tFor (wi:TI)(g:TG)(tb:TS):TS:=fun D σ H=>wi σ H fun J H1=>∃W:Nat->Nat->St->Hp->Prop,(∃m,W 0 m σ H1)/\∀i m σ H,W i m σ H->
 (J.stop i H/\D.nx σ H)\/(J.go i H/\∃N:St->Hp->Prop,(∀σ' H',N σ' H'->∃m',m' < m/\W (i + 1) m' σ' H')/\∀x H',J.yld i H x H'->g x σ H' fun σ2 H2=>tb { D with nx:=N,ct:=N,bk:=D.nx } σ2 H2)
noncomputable def pinsAt (fp:3e1)(h:Heap):List (Addr×Obj):=fp.filterMap fun b=>(h.get? b).map fun o=>(b,o)
theorem ZbD {fp:3e1}{h:Heap}{b:Addr}{o:Obj}(hb:b∈fp)(e:h.get? b=some o):(b,o)∈pinsAt fp h:=VJ.mpr ⟨b,hb,by rw[e];rfl⟩
theorem of_pinsAt {fp:3e1}{h:Heap}{p:Addr×Obj}(hp:p∈pinsAt fp h):p.1∈fp/\h.get? p.1=some p.2:=by
 obtain ⟨b,hb,e⟩:=VJ.mp hp
 cases q:h.get? b with
 | none=>rw[q] at e;cases e
 | some o=>
  rw[q] at e
  have e':(b,o)=p:=YA e
  subst e'
  exact ⟨hb,q⟩
theorem Inv.pinned {pins:2e0}{σ:St}{H:Hp}{s:Shared}{fp:3e1}(I:2e3)(hf:∀b∈fp,FpOk X pins H b)(ho:∀b∈fp,∃o,s.heap.get? b=some o/\∀v,o.data≠.cell v):Inv X (pins++pinsAt fp s.heap) σ H s:=
 I.pins_of fun p hp=>(YX.mp hp).elim (fun z=>I.pin p (YI _ z)) fun z=>by
  obtain ⟨hb,e⟩:=of_pinsAt z
  obtain ⟨f0,f1,f2,_⟩:=hf p.1 hb
  obtain ⟨o,e',d⟩:=ho p.1 hb
  rw[e] at e';cases e'
  exact ⟨e,f0,f1,f2,d⟩
theorem Inv.unpinned {pins pl:2e0}{σ:St}{H:Hp}{s:Shared}(I:Inv X (pins++pl) σ H s):Inv X pins σ H s:=I.pins_of fun p hp=>I.pin p (YI _ (Xm _ hp))
theorem ps_for {iter:Expr}{body:List Stmt}{wi:TI}{g:TG}{tb:TS}{pos:Pos}(hp:PassesOwn 3e0 X.A X.env X.xe)(hc:X.calm=true)(hi:PI X tg iter wi)(hg:PG X tg g)(hb:PSs X body tb)
  (hs:∀x,XX iter X.env x=pure x:=by intro _;rfl):PS X (.For tg iter body [] pos) (tFor wi g tb):=by
 intro pins s σ H D I h
 refine wpAny_For (thn (hi pins s σ H _ I h) fun v s1 h1=>thn h1 fun itv s2 h2=>?_) hs
 obtain ⟨it,fp,tn,J,H2,e,I2,T,st2,f2,W,⟨m0,w0⟩,turn⟩:=h2
 subst e
 have stat:∀{H':Hp},(∀b∈fp,H' b=none)->∀b∈fp,FpOk X pins H' b:=fun hn b hb=>⟨hn b hb,(f2 b hb).2⟩
 refine codeAny_forLoop_any (fun n s'=>∃i σ' H',Inv X pins σ' H' s'/\tn i s'.heap/\(∀b∈fp,H' b=none)/\W i n σ' H') ?_ m0 ⟨0,σ,H2,I2,st2,fun b hb=>(f2 b hb).1,w0⟩
 rintro n s3 ⟨i,σ3,H3,I3,st3,fr3,w3⟩
 rcases turn i n σ3 H3 w3 with ⟨stop,qn⟩ | ⟨go,N,hN,step⟩
 ·refine W1 hp (thn (T.done X rfl rfl rfl hc i pins s3 σ3 H3 X.xe I3 (stat fr3) st3 stop) fun r s4 h_=>?_)
  obtain ⟨hr,I4⟩:=h_
  subst hr
  exact Ud ⟨σ3,H3,I4,qn⟩
 ·refine W1 hp (thn (T.item X rfl rfl rfl hc i pins s3 σ3 H3 X.xe I3 (stat fr3) st3 go) fun r s4 h_=>?_)
  obtain ⟨u,hr,h4⟩:=h_
  subst hr
  refine W1 hp (thn h4 fun _ s5 h_=>?_)
  obtain ⟨x,H5,I5,r5,y5,st5,fr5⟩:=h_
  have I5':=I5.pinned (stat fr5) (T.obj _ _ st5)
  refine W1 hp (thn (hg _ s5 σ3 H5 x u _ I5' r5 (step x H5 y5)) fun _ s6 h_=>?_)
  obtain ⟨σ6,H6,I6,q6⟩:=h_
  refine W1 hp (thn (hb _ s6 σ6 H6 _ I6 q6) fun f s7 q7=>?_)
  have again:∀{σ7:St} {H7:Hp},Inv X (pins++pinsAt fp s5.heap) σ7 H7 s7->N σ7 H7->∃m,m < n/\∃i σ' H',Inv X pins σ' H' s7/\tn i s7.heap/\(∀b∈fp,H' b=none)/\W i m σ' H':=fun {σ7 H7} I7 n7=>by
   obtain ⟨m',hm,w7⟩:=hN σ7 H7 n7
   refine ⟨m',hm,i + 1,σ7,H7,I7.unpinned,T.keep _ _ _ st5 fun b hb o e=>(I7.pin (b,o) (YI _ (YI _ (ZbD hb e)))).1,fun b hb=>?_,w7⟩
   obtain ⟨o,e,d⟩:=T.obj _ _ st5 b hb
   exact (I7.pin (b,o) (YI _ (YI _ (ZbD hb e)))).2.1
  cases f with
  | next=>obtain ⟨σ7,H7,I7,n7⟩:=q7;exact again I7 n7
  | cont=>obtain ⟨σ7,H7,I7,n7⟩:=q7;exact again I7 n7
  | brk=>obtain ⟨σ7,H7,I7,q7⟩:=q7;exact ⟨σ7,H7,I7.unpinned,q7⟩
  | ret v=>obtain ⟨x7,σ7,H7,I7,r7,q7⟩:=q7;exact ⟨x7,σ7,H7,I7.unpinned,r7,q7⟩
end
abbrev R2:=V->V->Hp->VK->Prop
def OpR (X:Cx)(f:Value->Value->Sem Value)(r:R2):Prop:=
 ∀(pins:2e0) (s:Shared) (σ:St) (H:Hp) (x y:V) (v u:Value) (Q:VK),Inv X pins σ H s->RelV x v->RelV y u->r x y H Q->
  wpAny 3e0 X.A (f v u) (EP X pins σ Q) X.xe s
def UnR (X:Cx)(f:Value->Sem Value)(r:V->Hp->VK->Prop):Prop:=
 ∀(pins:2e0) (s:Shared) (σ:St) (H:Hp) (x:V) (v:Value) (Q:VK),Inv X pins σ H s->RelV x v->r x H Q->
  wpAny 3e0 X.A (f v) (EP X pins σ Q) X.xe s
def CallR (X:Cx)(f:Value)(r:List V->Hp->VK->Prop):Prop:=
 ∀(pins:2e0) (s:Shared) (σ:St) (H:Hp) (xs:List V) (us:3e5) (Q:VK),Inv X pins σ H s->Vals xs us->r xs H Q->
  wpAny 3e0 X.A (call f us) (EP X pins σ Q) X.xe s
def TruR (X:Cx)(r:V->Hp->(Bool->Hp->Prop)->Prop):Prop:=
 ∀(pins:2e0) (s:Shared) (σ:St) (H:Hp) (x:V) (v:Value) (Q:Bool->Hp->Prop),Inv X pins σ H s->RelV x v->r x H Q->
  wpAny 3e0 X.A (truthy v) (TP X pins σ Q) X.xe s
noncomputable def tOp (r:R2)(ta tb:TE):TE:=fun σ H Q=>ta σ H fun x H1=>tb σ H1 fun y H2=>r x y H2 Q
noncomputable def tUn (r:V->Hp->VK->Prop)(ta:TE):TE:=fun σ H Q=>ta σ H fun x H1=>r x H1 Q
noncomputable def rI (C:Int->Int->Prop)(g:Int->Int->V):R2:=fun x y H Q=>∃i j,x=.int i/\y=.int j/\C i j/\Q (g i j) H
noncomputable def rI0 (g:Int->Int->V):R2:=fun x y H Q=>∃i j,x=.int i/\y=.int j/\Q (g i j) H
def rU (g:Int->V):V->Hp->VK->Prop:=fun x H Q=>∃i,x=.int i/\Q (g i) H
section
variable {X:Cx}{a b c:Expr}{ta tb tc:TE}{pos:Pos}
theorem binT (ha:PE X a ta)(hb:PE X b tb){pins:2e0}{s:Shared}{σ:St}{H:Hp}{R:V->V->Hp->Prop}(I:2e3)
  (h:ta σ H fun x H1=>tb σ H1 fun y H2=>R x y H2) {Q:1e4} {f:Value->Value->Sem Value}
  (hf:∀v u s2 x y H2,Inv X pins σ H2 s2->RelV x v->RelV y u->R x y H2->wpAny 3e0 X.A (f v u) Q X.xe s2):
  wpAny 3e0 X.A (eval a X.env) (fun v s₁=>wpAny 3e0 X.A (eval b X.env) (fun u s₂=>wpAny 3e0 X.A (f v u) Q X.xe s₂) X.xe s₁) X.xe s:=by
 refine thn (ha pins s σ H _ I h) fun v s1 h_=>?_
 obtain ⟨x,H1,I1,r1,q1⟩:=h_
 refine thn (hb pins s1 σ H1 _ I1 q1) fun u s2 h_=>?_
 obtain ⟨y,H2,I2,r2,q2⟩:=h_
 exact hf v u s2 x y H2 I2 r1 r2 q2
theorem pe_op {op:Operator}{r:R2}(ho:OpR X (Wx op) r)(ha:PE X a ta)(hb:PE X b tb):PE X (.BinOp a op b pos) (tOp r ta tb):=by
 intro pins s σ H Q I h
 exact wpAny_BinOp (binT ha hb I h fun v u s2 x y H2 I2 rx ry q=>ho pins s2 σ H2 x y v u Q I2 rx ry q)
theorem pe_un {op:UnaryOp}{r:V->Hp->VK->Prop}(ho:UnR X (unaryOp op) r)(ha:PE X a ta):PE X (.UnaryOp op a pos) (tUn r ta):=by
 intro pins s σ H Q I h
 exact UnaryOp_ (thn (ha pins s σ H _ I h) fun v s1 ⟨x,H1,I1,r1,q1⟩=>ho pins s1 σ H1 x v Q I1 r1 q1)
theorem opI {f:Value->Value->Sem Value}{C:Int->Int->Prop}{g:Int->Int->Int}
  (rule:∀(i j:Int) (t u:Tok) (s:Shared) (Q:1e4) (E:1e4),C i j->Q (.int (g i j) s.toks) { s with toks:=s.toks + 1 }->wpAny (model X.prog X.w) X.A (f (.int i t) (.int j u)) Q E s):
  OpR X f (rI C fun i j=>.int (g i j)):=by
 intro pins s σ H x y v u Q I rx ry h
 obtain ⟨i,j,rfl,rfl,hc,q⟩:=h
 obtain ⟨t,rfl⟩:=rx
 obtain ⟨t',rfl⟩:=ry
 exact rule i j t t' s _ _ hc ⟨.int (g i j),H,I.tok _,⟨_,rfl⟩,q⟩
theorem opI0 {f:Value->Value->Sem Value}{g:Int->Int->Int}
  (rule:∀(i j:Int) (t u:Tok) (s:Shared) (Q:1e4) (E:1e4),Q (.int (g i j) s.toks) { s with toks:=s.toks + 1 }->wpAny (model X.prog X.w) X.A (f (.int i t) (.int j u)) Q E s):
  OpR X f (rI0 fun i j=>.int (g i j)):=by
 intro pins s σ H x y v u Q I rx ry h
 obtain ⟨i,j,rfl,rfl,q⟩:=h
 obtain ⟨t,rfl⟩:=rx
 obtain ⟨t',rfl⟩:=ry
 exact rule i j t t' s _ _ ⟨.int (g i j),H,I.tok _,⟨_,rfl⟩,q⟩
theorem opB0 {f:Value->Value->Sem Value}{g:Int->Int->Bool}
  (rule:∀(i j:Int) (t u:Tok) (s:Shared) (Q:1e4) (E:1e4),Q (.bool (g i j)) s->wpAny 3e0 X.A (f (.int i t) (.int j u)) Q E s):
  OpR X f (rI0 fun i j=>.bl (g i j)):=by
 intro pins s σ H x y v u Q I rx ry h
 obtain ⟨i,j,rfl,rfl,q⟩:=h
 obtain ⟨t,rfl⟩:=rx
 obtain ⟨t',rfl⟩:=ry
 exact rule i j t t' s _ _ ⟨.bl (g i j),H,I,rfl,q⟩
def CDiv (i j:Int):Prop:=0 < j/\j < 1073741824
def CPow (i j:Int):Prop:=0<=j/\j<=1000000/\i.natAbs < 2 ^ 64
def CMul (i j:Int):Prop:=(-(2 ^ 64) < i/\i < 2 ^ 64)\/(-(2 ^ 64) < j/\j < 2 ^ 64)
theorem CMul.ok {i j:Int}(h:CMul i j):IntMulOk i j:=by
 rcases h with ⟨h1,h2⟩ | ⟨h1,h2⟩
 ·exact .of_left (intBits_le_64 h1 h2)
 ·exact .of_right (intBits_le_64 h1 h2)
theorem op_add:OpR X (Wx .Add) (rI0 fun i j=>.int (i + j)):=opI0 fun _ _ _ _ _ _ _ q=>add_int q
theorem op_sub:OpR X (Wx .Sub) (rI0 fun i j=>.int (i - j)):=opI0 fun _ _ _ _ _ _ _ q=>sub_int q
theorem op_mul:OpR X (Wx .Mult) (rI CMul fun i j=>.int (i * j)):=opI fun _ _ _ _ _ _ _ hc q=>mul_int q hc.ok
theorem op_fdiv:OpR X (Wx .FloorDiv) (rI CDiv fun i j=>.int (i / j)):=opI fun i j _ _ _ _ _ hc q=>by
 have h1:(0:Int) < j:=hc.1
 have h2:j < 1073741824:=hc.2
 exact floordiv_int 1e3 (by rw[Int.fdiv_eq_ediv_of_nonneg i 1e3];exact q) (.inl (PyProof.noPylong_small 1e3))
theorem op_mod:OpR X (Wx .Mod) (rI (fun _ j=>0 < j) fun i j=>.int (i % j)):=opI fun i j _ _ _ _ _ hc q=>by
 have h1:(0:Int) < j:=hc
 exact mod_int' 1e3 (by rw[Int.fmod_eq_emod_of_nonneg i 1e3];exact q)
theorem op_pow:OpR X (Wx .Pow) (rI CPow fun i j=>.int (i ^ j.toNat)):=opI fun _ _ _ _ _ _ _ hc q=>pow_int_small hc.1 hc.2.1 hc.2.2 q
theorem unI {f:Value->Sem Value}{g:Int->Int}
  (rule:∀(i:Int) (t:Tok) (s:Shared) (Q:1e4) (E:1e4),Q (.int (g i) s.toks) { s with toks:=s.toks + 1 }->wpAny (model X.prog X.w) X.A (f (.int i t)) Q E s):
  UnR X f (rU fun i=>.int (g i)):=by
 intro pins s σ H x v Q I rx h
 obtain ⟨i,rfl,q⟩:=h
 obtain ⟨t,rfl⟩:=rx
 exact rule i t s _ _ ⟨.int (g i),H,I.tok _,⟨_,rfl⟩,q⟩
theorem un_neg:UnR X (unaryOp .USub) (rU fun i=>.int (-i)):=unI fun _ _ _ _ _ q=>neg_int q
end
noncomputable def scal:V->V->Bool
 | .non,.non=>true | .non,.int _=>true | .int _,.non=>true | .non,.bl _=>true | .bl _,.non=>true | .non,.str _=>true | .str _,.non=>true
 | .int _,.int _=>true | .bl _,.bl _=>true | .str _,.str _=>true | .byt _,.byt _=>true
 | .int _,.str _=>true | .str _,.int _=>true | .bl _,.str _=>true | .str _,.bl _=>true
 | _,_=>false
def rEq:R2:=fun x y H Q=>scal x y=true/\Q (.bl (decide (x=y))) H
def rNe:R2:=fun x y H Q=>scal x y=true/\Q (.bl (!decide (x=y))) H
theorem dec_int {i j:Int}:decide (V.int i=V.int j)=(i==j):=by
 rw[W2]
 simp
theorem dec_bl {i j:Bool}:decide (V.bl i=V.bl j)=(i==j):=by
 rw[W2]
 simp
theorem dec_str {i j:Str}:decide (V.str i=V.str j)=(i==j):=by
 rw[W2]
 simp
theorem dec_byt {i j:Array UInt8}:decide (V.byt i=V.byt j)=(i.toList==j.toList):=by
 rw[W2]
 cases i
 cases j
 simp
section
variable {X:Cx}{a b c:Expr}{ta tb tc:TE}{pos:Pos}
theorem ZaN {pins:2e0}{σ:St}{H:Hp}{s:Shared}{Q:VK}{k k':Bool}(I:2e3)(q:Q (.bl k) H)(e:k=k'):EP X pins σ Q (.bool k') s:=by
 subst e
 exact ⟨.bl k,H,I,rfl,q⟩
theorem Zb1:OpR X (Y6 .Eq) rEq:=by
 intro pins s σ H x y v u Q I rx ry h
 obtain ⟨hs,q⟩:=h
 cases x with
 | non=>
  cases rx
  cases y with
  | non=>cases ry;exact PySem.EqNone.eq_none_none (ZaN I q 3e4)
  | bl j=>cases ry;exact PySem.EqNone.eq_none_bool (ZaN I q 3e4)
  | int j=>obtain ⟨t',rfl⟩:=ry;exact PySem.EqNone.eq_none_int (ZaN I q 3e4)
  | str j=>obtain ⟨t',rfl⟩:=ry;exact PySem.EqNone.eq_none_str (ZaN I q 3e4)
  | _=>exact absurd (show false=true from hs) Yi
 | bl i=>
  cases rx
  cases y with
  | non=>cases ry;exact PySem.EqNone.eq_bool_none (ZaN I q 3e4)
  | bl j=>cases ry;exact eq_bool (ZaN I q dec_bl)
  | str j=>obtain ⟨t',rfl⟩:=ry;exact PySem.EqMixed.eq_bool_str (ZaN I q 3e4)
  | _=>exact absurd (show false=true from hs) Yi
 | int i=>
  obtain ⟨t,rfl⟩:=rx
  cases y with
  | non=>cases ry;exact PySem.EqNone.eq_int_none (ZaN I q 3e4)
  | int j=>obtain ⟨t',rfl⟩:=ry;exact eq_int (ZaN I q dec_int)
  | str j=>obtain ⟨t',rfl⟩:=ry;exact PySem.EqMixed.eq_int_str (ZaN I q 3e4)
  | _=>exact absurd (show false=true from hs) Yi
 | str i=>
  obtain ⟨t,rfl⟩:=rx
  cases y with
  | non=>cases ry;exact PySem.EqNone.eq_str_none (ZaN I q 3e4)
  | bl j=>cases ry;exact PySem.EqMixed.eq_str_bool (ZaN I q 3e4)
  | int j=>obtain ⟨t',rfl⟩:=ry;exact PySem.EqMixed.eq_str_int (ZaN I q 3e4)
  | str j=>obtain ⟨t',rfl⟩:=ry;exact eq_str (ZaN I q dec_str)
  | _=>exact absurd (show false=true from hs) Yi
 | byt i=>
  obtain ⟨t,rfl⟩:=rx
  cases y with
  | byt j=>obtain ⟨t',rfl⟩:=ry;exact W.eq_bytes (ZaN I q dec_byt)
  | _=>exact absurd (show false=true from hs) Yi
 | _=>cases y<;>exact absurd (show false=true from hs) Yi
theorem op_ne:OpR X (Y6 .NotEq) rNe:=by
 intro pins s σ H x y v u Q I rx ry h
 obtain ⟨hs,q⟩:=h
 cases x with
 | non=>
  cases rx
  cases y with
  | non=>cases ry;exact PySem.EqNone.ne_none_none (ZaN I q 3e4)
  | bl j=>cases ry;exact PySem.EqNone.ne_none_bool (ZaN I q 3e4)
  | int j=>obtain ⟨t',rfl⟩:=ry;exact PySem.EqNone.ne_none_int (ZaN I q 3e4)
  | str j=>obtain ⟨t',rfl⟩:=ry;exact PySem.EqNone.ne_none_str (ZaN I q 3e4)
  | _=>exact absurd (show false=true from hs) Yi
 | bl i=>
  cases rx
  cases y with
  | non=>cases ry;exact PySem.EqNone.ne_bool_none (ZaN I q 3e4)
  | bl j=>cases ry;exact ne_bool (ZaN I q (congrArg not dec_bl))
  | str j=>obtain ⟨t',rfl⟩:=ry;exact PySem.EqMixed.ne_bool_str (ZaN I q 3e4)
  | _=>exact absurd (show false=true from hs) Yi
 | int i=>
  obtain ⟨t,rfl⟩:=rx
  cases y with
  | non=>cases ry;exact PySem.EqNone.ne_int_none (ZaN I q 3e4)
  | int j=>obtain ⟨t',rfl⟩:=ry;exact ne_int (ZaN I q (congrArg not dec_int))
  | str j=>obtain ⟨t',rfl⟩:=ry;exact PySem.EqMixed.ne_int_str (ZaN I q 3e4)
  | _=>exact absurd (show false=true from hs) Yi
 | str i=>
  obtain ⟨t,rfl⟩:=rx
  cases y with
  | non=>cases ry;exact PySem.EqNone.ne_str_none (ZaN I q 3e4)
  | bl j=>cases ry;exact PySem.EqMixed.ne_str_bool (ZaN I q 3e4)
  | int j=>obtain ⟨t',rfl⟩:=ry;exact PySem.EqMixed.ne_str_int (ZaN I q 3e4)
  | str j=>obtain ⟨t',rfl⟩:=ry;exact ne_str (ZaN I q (congrArg not dec_str))
  | _=>exact absurd (show false=true from hs) Yi
 | byt i=>
  obtain ⟨t,rfl⟩:=rx
  cases y with
  | byt j=>obtain ⟨t',rfl⟩:=ry;exact W.ne_bytes (ZaN I q (congrArg not dec_byt))
  | _=>exact absurd (show false=true from hs) Yi
 | _=>cases y<;>exact absurd (show false=true from hs) Yi
theorem op_lt:OpR X (Y6 .Lt) (rI0 fun i j=>.bl (decide (i < j))):=opB0 fun _ _ _ _ _ _ _ q=>lt_int q
theorem op_le:OpR X (Y6 .LtE) (rI0 fun i j=>.bl (decide (i<=j))):=opB0 fun _ _ _ _ _ _ _ q=>le_int q
theorem op_gt:OpR X (Y6 .Gt) (rI0 fun i j=>.bl (decide (j < i))):=opB0 fun _ _ _ _ _ _ _ q=>gt_int q
theorem op_ge:OpR X (Y6 .GtE) (rI0 fun i j=>.bl (decide (j<=i))):=opB0 fun _ _ _ _ _ _ _ q=>ge_int q
theorem op_in_str:OpR X (Y6 .In) (fun x y H Q=>∃i j,x=.str i/\y=.str j/\Q (.bl (!(Wm j i 0 j.length 1).isEmpty)) H):=by
 intro pins s σ H x y v u Q I rx ry h
 obtain ⟨i,j,rfl,rfl,q⟩:=h
 obtain ⟨t,rfl⟩:=rx
 obtain ⟨t',rfl⟩:=ry
 exact in_str (ZaN I q rfl)
theorem nomark (b:Expr){op:CmpOp}(h:op≠.In:=by decide)(h2:op≠.NotIn:=by decide):W3 op b=false:=by
 have e1:(op==CmpOp.In)=false:=by cases op<;>first | rfl | exact absurd rfl h
 have e2:(op==CmpOp.NotIn)=false:=by cases op<;>first | rfl | exact absurd rfl h2
 cases b<;>simp[W3,e1,e2]
theorem pe_cmpR {op:CmpOp}{r:R2}(ho:OpR X (Y6 op) r)(ha:PE X a ta)(hb:PE X b tb)(hm:W3 op b=false):PE X (.Compare a [op] [b] pos) (tOp r ta tb):=by
 intro pins s σ H Q I h
 exact wpAny_Compare1 (binT ha hb I h fun v u s2 x y H2 I2 rx ry q=>ho pins s2 σ H2 x y v u Q I2 rx ry q) hm
noncomputable def tTest (t:TE):TT:=fun σ H Q=>t σ H fun x H'=>∃k,x=.bl k/\Q k H'
theorem pt_cmpR {op:CmpOp}{r:R2}(ho:OpR X (Y6 op) r)(ha:PE X a ta)(hb:PE X b tb)(hm:W3 op b=false):PT X (.Compare a [op] [b] pos) (tTest (tOp r ta tb)):=by
 intro pins s σ H Q I h
 refine wpAny_isTrue_Compare1 (thn (ha pins s σ H _ I h) fun v s1 ⟨x,H1,I1,r1,q1⟩=>thn (hb pins s1 σ H1 _ I1 q1) fun u s2 ⟨y,H2,I2,r2,q2⟩=>
  thn (ho pins s2 σ H2 x y v u _ I2 r1 r2 q2) fun c s3 ⟨z,H3,I3,r3,k,e,q3⟩=>?_) hm
 subst e
 cases r3
 exact Xp ⟨H3,I3,q3⟩
noncomputable def tChain (r r':R2)(ta tb tc:TE):TE:=fun σ H Q=>ta σ H fun x H1=>tb σ H1 fun y H2=>r x y H2 fun z H3=>∃k,z=.bl k/\
 (if k=true then tc σ H3 fun w' H4=>r' y w' H4 Q else Q (.bl false) H3)
theorem pe_chain {op op':CmpOp}{r r':R2}(ho:OpR X (Y6 op) r)(ho':OpR X (Y6 op') r')(ha:PE X a ta)(hb:PE X b tb)(hc:PE X c tc)
  (hm:lastMarks [op,op'] [b,c]=false:=by with_unfolding_all rfl):PE X (.Compare a [op,op'] [b,c] pos) (tChain r r' ta tb tc):=by
 intro pins s σ H Q I h
 refine Compare_chain (thn (ha pins s σ H _ I h) fun v s1 ⟨x,H1,I1,r1,q1⟩=>chain_link (thn (hb pins s1 σ H1 _ I1 q1) fun u s2 ⟨y,H2,I2,r2,q2⟩=>
  thn (ho pins s2 σ H2 x y v u _ I2 r1 r2 q2) fun d s3 ⟨z,H3,I3,r3,k,e,q3⟩=>?_)) hm
 subst e
 cases r3
 refine Xp ?_
 cases k with
 | false=>exact ite_ff ⟨.bl false,H3,I3,rfl,q3⟩
 | true=>exact ite_tt (chain_last (thn (hc pins s3 σ H3 _ I3 q3) fun w' s4 ⟨z',H4,I4,r4,q4⟩=>ho' pins s4 σ H4 y z' u w' Q I4 r2 r4 q4))
theorem pt_chain {op op':CmpOp}{r r':R2}(ho:OpR X (Y6 op) r)(ho':OpR X (Y6 op') r')(ha:PE X a ta)(hb:PE X b tb)(hc:PE X c tc)
  (hm:lastMarks [op,op'] [b,c]=false:=by with_unfolding_all rfl):PT X (.Compare a [op,op'] [b,c] pos) (tTest (tChain r r' ta tb tc)):=by
 intro pins s σ H Q I h
 refine isTrue_chain (thn (ha pins s σ H _ I h) fun v s1 ⟨x,H1,I1,r1,q1⟩=>test_link (thn (hb pins s1 σ H1 _ I1 q1) fun u s2 ⟨y,H2,I2,r2,q2⟩=>
  thn (ho pins s2 σ H2 x y v u _ I2 r1 r2 q2) fun d s3 ⟨z,H3,I3,r3,k,e,q3⟩=>?_)) hm
 subst e
 cases r3
 refine Xp ?_
 cases k with
 | false=>
  obtain ⟨k',e',q'⟩:=q3
  cases e'
  exact ite_ff ⟨H3,I3,q'⟩
 | true=>
  refine ite_tt (test_last (thn (hc pins s3 σ H3 _ I3 q3) fun w' s4 ⟨z',H4,I4,r4,q4⟩=>thn (ho' pins s4 σ H4 y z' u w' _ I4 r2 r4 q4) fun d' s5 h_=>?_))
  obtain ⟨z2,H5,I5,r5,k2,e2,q5⟩:=h_
  subst e2
  cases r5
  exact Xp ⟨H5,I5,q5⟩
def TruV (K:W.Frag)(x:V)(H:Hp)(k:Bool):Prop:=
 match x with
 | .non=>k=false
 | .bl b=>k=b
 | .int i=>k=(i != 0)
 | .str y=>y.length<=Yu/\k=((y.length:Int) != 0)
 | .byt y=>y.size<=Yu/\k=((y.size:Int) != 0)
 | .ref p=>(∃xs,SqL K H p xs/\k=!xs.isEmpty)\/(∃xs,SqT K H p xs/\k=!xs.isEmpty)\/∃kvs,H p=some (.dK kvs)/\k=!kvs.isEmpty
 | _=>False
theorem isEmpty_kv {κ:Type}{kvs:List (κ×V)}{vs:List (κ×Value)}(r:KV kvs vs):(!vs.isEmpty)=!kvs.isEmpty:=by
 cases r<;>rfl
theorem Zdk {xs:List V}{its:3e5}(r:Vals xs its):(!its.toArray.isEmpty)=!xs.isEmpty:=by
 cases r<;>simp
theorem line63:(Yu:Nat) < 2 ^ 63:=by rw[YS];decide
theorem tru_ok:TruR X (fun x H Q=>∃k,TruV X.K x H k/\Q k H):=by
 intro pins s σ H x v Q I rx h
 obtain ⟨k,e,q⟩:=h
 have hl:=line63
 have hs:Yu=16777216:=YS
 cases x with
 | non=>
  cases rx
  have e':k=false:=e
  subst e'
  exact truthy_none ⟨H,I,q⟩
 | bl b=>
  cases rx
  have e':k=b:=e
  subst e'
  exact Xp ⟨H,I,q⟩
 | int i=>
  obtain ⟨t,rfl⟩:=rx
  have e':k=(i != 0):=e
  subst e'
  exact PySem.P.truthy_int ⟨H,I,q⟩
 | str y=>
  obtain ⟨t,rfl⟩:=rx
  obtain ⟨hy,e'⟩:y.length<=Yu/\k=((y.length:Int) != 0):=e
  subst e'
  exact PySem.P.truthy_str 1e3 ⟨H,I.tok _,q⟩
 | byt y=>
  obtain ⟨t,rfl⟩:=rx
  obtain ⟨hy,e'⟩:y.size<=Yu/\k=((y.size:Int) != 0):=e
  subst e'
  exact W.truthy_bytes 1e3 ⟨H,I.tok _,q⟩
 | ref p=>
  cases rx
  have e':(∃xs,SqL X.K H p xs/\k=!xs.isEmpty)\/(∃xs,SqT X.K H p xs/\k=!xs.isEmpty)\/∃kvs,H p=some (.dK kvs)/\k=!kvs.isEmpty:=e
  rcases e' with ⟨xs,hx,e'⟩ | ⟨xs,hx,e'⟩ | ⟨kvs,hx,e'⟩
  ·subst e'
   obtain ⟨its,r,pl,hz⟩:=I.list hx
   have hlen:=r.length
   exact wpAny_truthy_list pl.isList (by simp only[Yh];lia) ⟨H,I.tok _,by rw[Zdk r];exact q⟩
  ·subst e'
   obtain ⟨its,r,pl,hz⟩:=I.tuple hx
   have hlen:=r.length
   exact truthy_tuple pl (by simp only[Yh];lia) ⟨H,I.tok _,by rw[Zdk r];exact q⟩
  ·subst e'
   obtain ⟨hz,hS,vs,r,m⟩:kvs.length<=Yu/\(p==XH)=false/\∃vs,KV kvs vs/\s.heap.DictOf (mixKind X.prog X.w) p vs:=I.hok p _ hx
   have hlen:kvs.length=vs.length:=Vv r
   exact wpAny_truthy_dict hS m 1e3 ⟨H,I.tok _,by rw[isEmpty_kv r];exact q⟩
 | _=>exact (show False from e).elim
theorem pt_truth (ha:PE X a ta)(he:∀whole,isTrue a X.env whole=(do let v ←whole;standAt a.pos;V3 [v] (truthy v))):
  PT X a (fun σ H Q=>ta σ H fun x H'=>∃k,TruV X.K x H' k/\Q k H'):=by
 intro pins s σ H Q I h
 exact isTrue_plain (thn (ha pins s σ H _ I h) fun v s1 ⟨x,H1,I1,r1,q1⟩=>tru_ok pins s1 σ H1 x v Q I1 r1 q1) (he _)
theorem op_add_str:OpR X (Wx .Add) (fun x y H Q=>∃i j,x=.str i/\y=.str j/\i.length + j.length<=Yu/\Q (.str (i++j)) H):=by
 intro pins s σ H x y v u Q I rx ry h
 obtain ⟨i,j,rfl,rfl,hz,q⟩:=h
 obtain ⟨t,rfl⟩:=rx
 obtain ⟨t',rfl⟩:=ry
 exact add_str (fun t' tk=>⟨.str (i++j),H,I.tok _,⟨_,rfl⟩,q⟩) hz
theorem vals1 {x:V}{us:3e5}(r:Vals [x] us):∃u,us=[u]/\RelV x u:=by
 cases r with
 | cons r1 r2=>cases r2;exact ⟨_,rfl,r1⟩
theorem vals2 {x y:V}{us:3e5}(r:Vals [x,y] us):∃u w',us=[u,w']/\RelV x u/\RelV y w':=by
 cases r with
 | cons r1 r2=>
  cases r2 with
  | cons r3 r4=>cases r4;exact ⟨_,_,rfl,r1,r3⟩
theorem call_max2 (hc:X.calm=true):CallR X (.builtin "max") (fun xs H Q=>∃i j,xs=[.int i,.int j]/\Q (.int (if j > i then j else i)) H):=by
 intro pins s σ H xs us Q I r h
 obtain ⟨i,j,rfl,q⟩:=h
 obtain ⟨u,w',rfl,⟨t,rfl⟩,⟨t',rfl⟩⟩:=vals2 r
 refine max_two_ints (I.ok.hd hc) fun h' tk k=>⟨_,H,I.kept k,?_,q⟩
 by_cases hj:j > i
 ·rw[if_pos hj,if_pos hj];exact ⟨_,rfl⟩
 ·rw[if_neg hj,if_neg hj];exact ⟨_,rfl⟩
theorem call_min2 (hc:X.calm=true):CallR X (.builtin "min") (fun xs H Q=>∃i j,xs=[.int i,.int j]/\Q (.int (if j < i then j else i)) H):=by
 intro pins s σ H xs us Q I r h
 obtain ⟨i,j,rfl,q⟩:=h
 obtain ⟨u,w',rfl,⟨t,rfl⟩,⟨t',rfl⟩⟩:=vals2 r
 refine min_two_ints (I.ok.hd hc) fun h' tk k=>⟨_,H,I.kept k,?_,q⟩
 by_cases hj:j < i
 ·rw[if_pos hj,if_pos hj];exact ⟨_,rfl⟩
 ·rw[if_neg hj,if_neg hj];exact ⟨_,rfl⟩
def LenV (K:W.Frag)(x:V)(H:Hp)(n:Nat):Prop:=
 match x with
 | .str y=>y.length<=Yu/\n=y.length
 | .byt y=>y.size<=Yu/\n=y.size
 | .ref p=>(∃xs,SqL K H p xs/\n=xs.length)\/∃xs,SqT K H p xs/\n=xs.length
 | _=>False
theorem call_len:CallR X (.builtin "len") (fun xs H Q=>∃x n,xs=[x]/\LenV X.K x H n/\Q (.int n) H):=by
 intro pins s σ H xs us Q I r h
 obtain ⟨x,n,rfl,e,q⟩:=h
 obtain ⟨u,rfl,rx⟩:=vals1 r
 have hl:=line63
 have hs:Yu=16777216:=YS
 cases x with
 | str y=>
  obtain ⟨t,rfl⟩:=rx
  obtain ⟨hy,e'⟩:y.length<=Yu/\n=y.length:=e
  subst e'
  exact len_str 1e3 ⟨.int _,H,I.tok _,⟨_,rfl⟩,q⟩
 | byt y=>
  obtain ⟨t,rfl⟩:=rx
  obtain ⟨hy,e'⟩:y.size<=Yu/\n=y.size:=e
  subst e'
  exact W.len_bytes 1e3 ⟨.int _,H,I.tok _,⟨_,rfl⟩,q⟩
 | ref p=>
  cases rx
  have e':(∃xs,SqL X.K H p xs/\n=xs.length)\/∃xs,SqT X.K H p xs/\n=xs.length:=e
  rcases e' with ⟨xs,hx,e'⟩ | ⟨xs,hx,e'⟩
  ·subst e'
   obtain ⟨its,r',pl,hz⟩:=I.list hx
   have hlen:=r'.length
   exact Calls.call_len_list pl.isList (by simp only[Yh];lia) ⟨.int xs.length,H,I.tok _,⟨_,by simp only[Yh];rw[hlen]⟩,q⟩
  ·subst e'
   obtain ⟨its,r',pl,hz⟩:=I.tuple hx
   have hlen:=r'.length
   exact len_tuple pl (by simp only[Yh];lia) ⟨.int xs.length,H,I.tok _,⟨_,by simp only[Yh];rw[hlen]⟩,q⟩
 | _=>exact (show False from e).elim
end
structure ObjM (h:Heap)(x dx C:Addr)(mA:Str->Option Value):Prop where
 obj:h.get? x=some (W.instObj C dx)
 ns:h.Ns1 dx mA
 ne:dx≠x
theorem lookIn_ns {h:Heap}{dx:Addr}{mA:2e2}(n:h.Ns1 dx mA):∃od,h.get? dx=some od/\∀name,W.lookIn name od=some (mA name):=by
 obtain ⟨o,es,ep,ho,hd,hk,_,hm⟩:=n
 refine ⟨o,ho,fun name=>?_⟩
 have e:=hm name
 unfold nsFind findBy at e
 rw[←Array.find?_toList] at e
 unfold W.lookIn
 rw[hd]
 dsimp only
 split
 ·rename_i y q
  rw[q] at e
  exact congrArg some e
 ·rename_i q
  rw[q] at e
  have a:es.toList.any (·.refKey)=false:=by
   rw[List.any_eq_false]
   intro y hy
   obtain ⟨z,t,hkey⟩:=hk y (XR.mp hy)
   simp[DictEntry.refKey,hkey]
  have a':¬es.toList.any (·.refKey)=true:=by rw[a];exact Yi
  rw[if_neg a']
  exact congrArg some e
theorem ObjM.look {h:Heap}{x dx C:Addr}{mA:2e2}(I:ObjM h x dx C mA):∃od,W.InstAt h x (W.instObj C dx) C (some od)/\∀name,W.lookIn name od=some (mA name):=
 let ⟨od,ho,hl⟩:=lookIn_ns I.ns
 ⟨od,⟨I.obj,rfl,rfl,ho⟩,hl⟩
theorem RelO.some_of {v:V}{o:Option Value}(r:RelO (some v) o):∃u,o=some u/\RelV v u:=by
 cases o with
 | none=>exact (show False from r).elim
 | some u=>exact ⟨u,rfl,r⟩
section
variable {P:Yq}{w:World}{H H':Hp}{h h':Heap}{a C dx:Addr}{fs fs':List (Str×V)}
theorem ins_get (hok:HOk P w H h)(e:H a=some (.ins C dx fs)):∃mA,ObjM h a dx C mA/\(∀f,RelO (fs.lookup f) (mA f))/\PySem.Within mA (fs.map (·.1))/\fs.length<=1000/\H dx=some (.own a):=by
 obtain ⟨d,z,ne,ob,mA,n,r,q⟩:=(show ObjOk P w H h a (.ins C dx fs) from hok a _ e)
 exact ⟨mA,⟨ob,n,ne⟩,r,q,z,d⟩
end
structure Cls (K:W.Frag)(C:Addr):Prop where
 pg:W.plainGet K C Ue=true
 hd:W.hasDictIn K C=true
 po:W.plainOver K C=true
 sa:W.findIn K (.ref C) "__setattr__"=some (some (.builtin "object.__setattr__"))
theorem Cls.get {K:W.Frag}{C:Addr}(c:Cls K C)(f:Str):W.plainGet K C f=true:=c.pg
section
variable {X:Cx}{pins:2e0}{σ:St}{H:Hp}{s:Shared}{A:Around}{E:1e4}{Q:1e4}{c:Value}{b:Bool}
inductive TyOf (K:W.Frag)(H:Hp):V->Value->Prop where
 | non:TyOf K H .non (.type "NoneType")
 | bl (x:Bool):TyOf K H (.bl x) (.type "bool")
 | int (i:Int):TyOf K H (.int i) (.type "int")
 | str (x:Str):TyOf K H (.str x) (.type "str")
 | flt (x:UInt64):TyOf K H (.flt x) (.type "float")
 | lst {a:Addr} {xs:List V} (e:H a=some (.lst xs)):TyOf K H (.ref a) (.type "list")
 | frz {a:Addr} {o:Obj} {xs:List V} (e:H a=some (.frz o (.lst xs))):TyOf K H (.ref a) (.type "list")
 | tup {a:Addr} {xs:List V} (e:H a=some (.tup xs)):TyOf K H (.ref a) (.type "tuple")
 | dK {a:Addr} {kvs:List (Key×V)} (e:H a=some (.dK kvs)):TyOf K H (.ref a) (.type "dict")
 | dT {a:Addr} {kvs:List (List Key×V)} (e:H a=some (.dT kvs)):TyOf K H (.ref a) (.type "dict")
 | ins {a C dx:Addr} {fs:List (Str×V)} (e:H a=some (.ins C dx fs)) (cl:Cls K C) (ha:W.findIn K (.ref C) "__class__"=some (some (.builtin "object.__class__")))
   (hn:W.specialIn K (.builtin "object.__class__") "__get__"=some (some (.builtin "getset_descriptor.__get__"))) (htk:W.takesIn K (.builtin "object.__class__")=some true)
   (hm:W.mroIn K C (.type "object")=some true):TyOf K H (.ref a) (.ref C)
theorem ZbB {x:V}{u t:Value}(I:2e3)(rx:RelV x u)(ty:TyOf X.K H x t)(e:W.kitOne X.K t c=some b)(h:∀tk,Q (.bool b) { s with toks:=tk }):
  wpAny 3e0 A (call (.builtin "isinstance") [u,c]) Q E s:=by
 cases ty with
 | non=>cases (show u=Xj from rx);exact Wr W.kitx_none I.kIn WF e (fun z=>nomatch z) h
 | bl y=>cases (show u=Vy y from rx);exact Wr W.kitx_bool I.kIn WF e (fun z=>nomatch z) h
 | int i=>obtain ⟨t,q⟩:=(show ∃t,u=Value.int i t from rx);cases q;exact Wr W.kitx_int I.kIn WF e (fun z=>nomatch z) h
 | str y=>obtain ⟨t,q⟩:=(show ∃t,u=Value.str y t from rx);cases q;exact Wr W.kitx_str I.kIn WF e (fun z=>nomatch z) h
 | flt y=>obtain ⟨t,q⟩:=(show ∃t,u=Value.float y t from rx);cases q;exact Wr W.kitx_float I.kIn WF e (fun z=>nomatch z) h
 | @lst a xs ea=>
  cases (show u=Yy a from rx)
  obtain ⟨_,_,n,_,h1⟩:=(show ObjOk X.prog X.w H s.heap a (.lst xs) from I.hok a _ ea)
  exact Wr W.kitx_list I.kIn ⟨_,h1,rfl⟩ e (fun z=>nomatch z) h
 | @frz a ob xs ea=>
  cases (show u=Yy a from rx)
  obtain ⟨_,_,_,n,_,h1⟩:=(show ObjOk X.prog X.w H s.heap a (.frz ob (.lst xs)) from I.hok a _ ea)
  exact Wr W.kitx_list I.kIn ⟨_,h1,rfl⟩ e (fun z=>nomatch z) h
 | @tup a xs ea=>
  cases (show u=Yy a from rx)
  obtain ⟨_,_,_,p⟩:=(show ObjOk X.prog X.w H s.heap a (.tup xs) from I.hok a _ ea)
  obtain ⟨o,h1,h2,_⟩:=p
  exact Wr W.kitx_tuple I.kIn ⟨o,h1,h2⟩ e (fun z=>nomatch z) h
 | @dK a kvs ea=>
  cases (show u=Yy a from rx)
  obtain ⟨_,_,vs,_,p⟩:=(show ObjOk X.prog X.w H s.heap a (.dK kvs) from I.hok a _ ea)
  obtain ⟨o,es,ep,h1,h2,_⟩:=p
  exact Wr W.kitx_dict I.kIn ⟨o,h1,h2.1⟩ e (fun z=>nomatch z) h
 | @dT a kvs ea=>
  cases (show u=Yy a from rx)
  obtain ⟨_,_,xs,_,o,es,ep,h1,h2,_⟩:=(show ObjOk X.prog X.w H s.heap a (.dT kvs) from I.hok a _ ea)
  exact Wr W.kitx_dict I.kIn ⟨o,h1,h2.1⟩ e (fun z=>nomatch z) h
 | @ins a C dx fs ea cl ha hn htk hm=>
  cases (show u=Yy a from rx)
  obtain ⟨mA,O,_⟩:=ins_get I.hok ea
  obtain ⟨od,J,_⟩:=O.look
  exact Wr (W.kitx_own (cl.get _) cl.hd ha hn htk hm) I.kIn J e (fun z=>nomatch z) h
end
structure Room (k:Nat)(A:Around):Prop where
 hd:A.handled=none
 dp:A.depth + 3 * k + 5 < recursionLimit
 un:A.units + 16 * k + 200 < cLine
theorem Room.mono {j k:Nat}{A:Around}(r:Room k A)(h:j<=k):Room j A:=⟨r.hd,by have:=r.dp;lia,by have:=r.un;lia⟩
theorem Room.deeper {k:Nat}{A:Around}(r:Room (k + 1) A)(env:Env):Room k (A.deeper env):=
 ⟨r.hd,by have:=r.dp;show A.depth + 1 + 3 * k + 5 < _;lia,by have:=r.un;show A.units + 3 + 16 * k + 200 < _;lia⟩
theorem Room.depth {k:Nat}{A:Around}(r:Room k A):A.depth < recursionLimit:=by have:=r.dp;lia
theorem Room.units {k:Nat}{A:Around}(r:Room k A):A.units + 64 < cLine:=by have:=r.un;lia
noncomputable def tNil:TA:=fun _ H Q=>Q [] H
noncomputable def tCons (ta:TE)(tr:TA):TA:=fun σ H Q=>ta σ H fun x H1=>tr σ H1 fun xs H2=>Q (x::xs) H2
section
variable {X:Cx}{e:Expr}{es:4e8}{te:TE}{t:TA}{pos:Pos}
theorem pa_nil:PA X [] tNil:=fun _ _ _ _ H Q I h=>Calls.spliced_nil ⟨[],H,I,.nil,h⟩
theorem pa_cons (ha:PE X e te)(hr:PA X es t)(hs:1e9:=by rfl):PA X 5e1 (tCons te t):=by
 intro pos pins s σ H Q I h
 rw[hs]
 show wpAny _ _ (spliced ((false,eval e X.env)::backTo pos (Yj es X.env))) _ _ s
 refine Calls.spliced_cons (thn (ha pins s σ H _ I h) fun u s1 h_=>?_)
 obtain ⟨x,H1,I1,r1,q1⟩:=h_
 exact thn (hr pos pins s1 σ H1 _ I1 q1) fun us s2 ⟨xs,H2,I2,r2,q2⟩=>⟨x::xs,H2,I2,.cons r1 r2,q2⟩
def tTup (t:TA):TE:=fun σ H Q=>t σ H fun xs H1=>xs.length<=Yu/\∀p,H1 p=none->Q (.ref p) (upd H1 p (.tup xs))
def tLst (t:TA):TE:=fun σ H Q=>t σ H fun xs H1=>xs.length<=Yu/\∀p,H1 p=none->Q (.ref p) (upd H1 p (.lst xs))
theorem pe_tup {x1}(h:PA X es t):PE X (.Tuple es x1 pos) (tTup t):=by
 intro pins s σ H Q I hq
 refine wpAny_Tuple_spliced (thn (h pos pins s σ H _ I hq) fun us s1 ⟨xs,H1,I1,r,z,q⟩=>⟨by rw[←r.length];exact z,?_⟩)
 have hf:H1 s1.heap.objs.size=none:=I1.hok.fresh (Yk _)
 refine ⟨.ref s1.heap.objs.size,upd H1 s1.heap.objs.size (.tup xs),I1.laid (t':=s1.toks) (fun b u e=>Yc _ e) (Yk _) ?_,rfl,q _ hf⟩
 exact ⟨z,us,r,⟨_,Yp _ rfl,rfl,_,rfl⟩⟩
theorem pe_lst (h:PA X es t):PE X (.List es pos) (tLst t):=by
 intro pins s σ H Q I hq
 refine wpAny_List_spliced (thn (h pos pins s σ H _ I hq) fun us s1 ⟨xs,H1,I1,r,z,q⟩=>⟨by rw[←r.length];exact z,?_⟩)
 have hf:H1 s1.heap.objs.size=none:=I1.hok.fresh (Yk _)
 refine ⟨.ref s1.heap.objs.size,upd H1 s1.heap.objs.size (.lst xs),I1.laid (t':=s1.toks) (fun b u e=>Yc _ e) (Yk _) ?_,rfl,q _ hf⟩
 exact ⟨z,us,0,r,Yp _ rfl⟩
end
abbrev Sp:=List V->Hp->VK->XK->Prop
abbrev CXT:=List Env->Hp->Shared->XK->Value->Shared->Prop
structure Env0 (P:Yq)(w:World)(K:W.Frag)(mg:Str->Option Value)(base:Heap)(A:Around)(outer:List Env)(s:Shared)(H:Hp):Prop where
 frames:A.frames=some outer
 mod:Mod K mg base
 bs:∀b o,base.get? b=some o->s.heap.get? b=some o/\H b=none
 bsz:base.objs.size<=s.heap.objs.size
 funs:s.heap.FunFrames base outer
 frf:∀b∈frs outer,H b=none
 hok:HOk P w H s.heap
 bare:Uc s.gens
def CE (outer:List Env)(P:Yq)(w:World)(H:Hp)(s:Shared)(Q:VK)(u:Value)(s':Shared):Prop:=
 ∃v H',s'.os=s.os/\Uc s'.gens/\Un (frs outer) [] H H' s.heap s'.heap/\HOk P w H' s'.heap/\RelV v u/\Q v H'
def CR (CX:CXT)(outer:List Env)(P:Yq)(w:World)(H:Hp)(s:Shared)(Q:VK)(E:XK)(r:Result)(s':Shared):Prop:=
 match r with
 | .ok (.ret u)=>CE outer P w H s Q u s'
 | .ok _=>False
 | .error e=>CX outer H s E e s'
structure FnOk (P:Yq)(w:World)(K:W.Frag)(mg:Str->Option Value)(base:Heap)(CX:CXT)(k:Nat)(f:Addr)(fd:Yw)(ps:List Str)(sp:Sp):Prop where
 len:∀vs H Q E,sp vs H Q E->vs.length=ps.length
 run:∀(A:Around) (outer:List Env) (s:Shared) (H:Hp) (args:Args) (us:3e5) (vs:List V) (Q:VK) (E:XK),Room k A->Env0 P w K mg base A outer s H->BindsTo s fd args (ps.zip us)->Vals vs us->sp vs H Q E->
  Uf (model P w) A (.call (.ref f) args) (CR CX outer P w H s Q E) s
theorem FnOk.mono {P:Yq}{w:World}{K:W.Frag}{mg:2e2}{base:Heap}{CX:CXT}{j k:Nat}{f:Addr}{fd:Yw}{ps:4e6}{sp:Sp}(F:FnOk P w K mg base CX j f fd ps sp)(h:j<=k):
  FnOk P w K mg base CX k f fd ps sp:=⟨F.len,fun A outer s H args us vs Q E hr=>F.run A outer s H args us vs Q E (hr.mono h)⟩
theorem FnOk.imp {P:Yq}{w:World}{K:W.Frag}{mg:2e2}{base:Heap}{CX:CXT}{k:Nat}{f:Addr}{fd:Yw}{ps:4e6}{sp sp':Sp}(F:FnOk P w K mg base CX k f fd ps sp)
  (h:∀vs H Q E,sp' vs H Q E->sp vs H Q E):FnOk P w K mg base CX k f fd ps sp':=
 ⟨fun vs H Q E q=>F.len vs H Q E (h _ _ _ _ q),fun A outer s H args us vs Q E hr he hb hv hs=>F.run A outer s H args us vs Q E hr he hb hv (h _ _ _ _ hs)⟩
section
variable {X:Cx}{pins:2e0}{σ:St}{H:Hp}{s s':Shared}
theorem Inv.env0 (I:2e3):Env0 X.prog X.w X.K X.mg X.base X.A X.stack s H:=
 ⟨I.ok.frames,I.ok.mod,I.bs,YG I.ok.bsz I.sz,I.stack,I.stkFree,I.hok,I.bare⟩
theorem Inv.after {Q:VK}{u:Value}(I:2e3)(h:CE X.stack X.prog X.w H s Q u s'):EP X pins σ Q u s':=by
 obtain ⟨v,H',os,bare,un,hok,r,q⟩:=h
 obtain ⟨hh,g,d,t,os'⟩:=s'
 obtain rfl:os'=s.os:=os
 exact ⟨v,H',I.call (h':=hh) (g':=g) (d':=d) (t':=t) (ch:=[]) un hok bare (fun b z=>absurd z 3e4),r,q⟩
end
noncomputable def tCall (sp:Sp)(dvs:List V)(E:XK)(t:TA):TE:=fun σ H Q=>t σ H fun vs H1=>sp (vs++dvs) H1 Q E
def Binds (K:W.Frag)(fd:Yw)(ps:4e6)(ds:3e5):Prop:=
 ∀(s:Shared) (us:3e5),K.In s.heap->(us++ds).length=ps.length->BindsTo s fd ⟨us,[]⟩ (ps.zip (us++ds))
theorem Binds.all {K:W.Frag}{fd:Yw}{ps:4e6}(h:∀us:List Value,us.length=ps.length->bindArgs fd ⟨us,[]⟩=pure (ps.zip us)):Binds K fd ps []:=fun s us _ hl=>by
 rw[YV] at hl ⊢
 exact .of_eq (h us hl)
def Passes (CX:CXT)(X:Cx)(E:XK):Prop:=∀(pins:2e0) (σ:St) (H:Hp) (s:Shared) (e:Value) (s':Shared),Inv X pins σ H s->CX X.stack H s E e s'->X.xe e s'
section
variable {X:Cx}{CX:CXT}{k:Nat}{f C:Addr}{fd:Yw}{ps:4e6}{sp:Sp}{dvs:List V}{ds:3e5}{E:XK}{x m:Str}{p pos apos:Pos}{e o:Expr}{es:4e8}{ta:TE}{t:TA}
theorem run_fn {pins:2e0}{σ:St}{H:Hp}{s:Shared}{Q:VK}{us:3e5}{vs:List V}(F:FnOk X.prog X.w X.K X.mg X.base CX k f fd ps sp)(hr:Room k X.A)(hb:Binds X.K fd ps ds)(hd:Vals dvs ds)(hx:Passes CX X E)
  (I:2e3) (r:Vals vs us) (h:sp (vs++dvs) H Q E):wpAny 3e0 X.A (call (.ref f) us) (EP X pins σ Q) X.xe s:=by
 have r2:Vals (vs++dvs) (us++ds):=r.append hd
 have hl:(us++ds).length=ps.length:=by rw[←r2.length];exact F.len _ _ _ _ h
 refine wpAny_call (VL (F.run X.A X.stack s H ⟨us,[]⟩ (us++ds) (vs++dvs) Q E hr I.env0 (hb s us I.kIn hl) r2 h) fun r s' hq=>?_)
 cases r with
 | error e=>exact hx pins σ H s e s' I hq
 | ok fl=>
  cases fl with
  | ret u=>exact I.after hq
  | next=>exact Wu hq
  | brk=>exact Wu hq
  | cont=>exact Wu hq
theorem pe_call (F:FnOk X.prog X.w X.K X.mg X.base CX k f fd ps sp)(hr:Room k X.A)(hg:Gl X x)(hm:X.mg x=some (.ref f))(hk:YC X.K (.ref f)=true)(hb:Binds X.K fd ps ds)(hd:Vals dvs ds)(hx:Passes CX X E)
  (ha:PA X 5e1 t) (hdb:5e0:=by decide) (he:1e9:=by rfl) (hpl:4e5:=by rfl):
  PE X (.Call (.Name x p) 5e1 [] pos) (tCall sp dvs E t):=by
 intro pins s σ H Q I h
 refine X4 (ld_glob I hg hm ?_ hdb)
 refine W.callWith_K (h₀:=X.base) I.ok.mod.kin hk (thn (ha pos pins s σ H _ I h) fun us s1 ⟨vs,H1,I1,r,q⟩=>⟨I1.kIn,?_⟩) he hpl
 exact run_fn F hr hb hd hx I1 r q
structure Mk (K:W.Frag)(C f:Addr):Prop where
 makes:W.makesIn K C=true
 init:W.findIn K (.ref C) "__init__"=some (some (.ref f))
 fn:W.isFn K (.ref f)=true
 kp:YC K (.ref C)=true
end
structure FnScope (N P:List Str)(sc:Scope):Prop where
 kind:sc.kind=.function
 co:sc.isCoroutine=false
 gen:sc.isGenerator=false
 nd:N.Nodup
 pre:N.take P.length=P
 par:∀x∈P,sc.names.lookup x=some .local\/sc.names.lookup x=some .cell
 nofree:∀y∈sc.names,y.2≠.free
theorem bindL_out {kindOf:Str->Option W4}{x:Str}:∀{binds:List (Str×Value)} {m:2e2},(∀v,(x,v)∉binds)->bindL kindOf binds m x=m x
  | [],_,_=>rfl
  | (n,v)::r,m,h=>by
    unfold bindL
    rw[bindL_out fun w hw=>h w (Xf _ hw)]
    split
    · have:x≠n:=by rintro rfl;exact h v Xr
      simp[this]
    · rfl
theorem bindC_out {kindOf:Str->Option W4}{x:Str}:∀{binds:List (Str×Value)} {m:2e2},(∀v,(x,v)∉binds)->bindC kindOf binds m x=m x
  | [],_,_=>rfl
  | (n,v)::r,m,h=>by
    unfold bindC
    rw[bindC_out fun w hw=>h w (Xf _ hw)]
    split
    · rfl
    · have:x≠n:=by rintro rfl;exact h v Xr
      simp[this]
theorem bindL_get {kindOf:Str->Option W4}{x:Str}{v:Value}:∀{P:4e6} {vs:3e5} {i:Nat} {m:2e2},P.Nodup->P[i]? = some x->vs[i]? = some v->kindOf x=some .local->
  bindL kindOf (P.zip vs) m x=some v
 | [],_,_,_,_,h,_,_=>by simp at h
 | _::_,[],_,_,_,_,h,_=>by simp at h
 | p::P,w::vs,0,m,nd,h1,h2,hk=>by
  simp at h1 h2;subst h1;subst h2
  show bindL kindOf ((p,w)::P.zip vs) m p=_
  unfold bindL
  rw[bindL_out fun v hv=>(Wz.mp nd).1 (Ug hv).1,if_pos hk]
  simp
 | p::P,w::vs,i + 1,m,nd,h1,h2,hk=>by
  show bindL kindOf ((p,w)::P.zip vs) m x=_
  unfold bindL
  exact bindL_get (i:=i) (Wz.mp nd).2 (by simpa using h1) (by simpa using h2) hk
theorem bindC_get {kindOf:Str->Option W4}{x:Str}{v:Value}:∀{P:4e6} {vs:3e5} {i:Nat} {m:2e2},P.Nodup->P[i]? = some x->vs[i]? = some v->kindOf x≠some .local->
  bindC kindOf (P.zip vs) m x=some v
 | [],_,_,_,_,h,_,_=>by simp at h
 | _::_,[],_,_,_,_,h,_=>by simp at h
 | p::P,w::vs,0,m,nd,h1,h2,hk=>by
  simp at h1 h2;subst h1;subst h2
  show bindC kindOf ((p,w)::P.zip vs) m p=_
  unfold bindC
  rw[bindC_out fun v hv=>(Wz.mp nd).1 (Ug hv).1,if_neg hk]
  simp
 | p::P,w::vs,i + 1,m,nd,h1,h2,hk=>by
  show bindC kindOf ((p,w)::P.zip vs) m x=_
  unfold bindC
  exact bindC_get (i:=i) (Wz.mp nd).2 (by simpa using h1) (by simpa using h2) hk
noncomputable def start (N:4e6)(vs:List V):St:=vs.map some++WL (N.length - vs.length) none
noncomputable def cxOf (CX:CXT)(P:Yq)(w:World)(K:W.Frag)(mg:2e2)(base:Heap)(N:4e6)(qual:Str)(scope:Scope)(f:Addr)(cd:Value)(A:Around)(outer:List Env)(s:Shared)(H:Hp)(E:XK):Cx where
 prog:=P
 w:=w
 K:=K
 mg:=mg
 base:=base
 A:=A.deeper (envOfC qual scope s.heap.objs.size f cd)
 N:=N
 s₀:=s
 H₀:=H
 env:=envOfC qual scope s.heap.objs.size f cd
 outer:=outer
 stack:=envOfC qual scope s.heap.objs.size f cd::outer
 ex:=[]
 calm:=true
 fn:=fun _=>true
 pn:=[]
 xe:=fun e s'=>wpAny (model P w) (A.deeper (envOfC qual scope s.heap.objs.size f cd)) (leaving (envOfC qual scope s.heap.objs.size f cd) e) (fun _ s''=>CX outer H s E e s'') (fun e' s''=>CX outer H s E e' s'') s'
theorem cell_has {sc:Scope}{n:Nat}{x:Str}(h:sc.names.lookup x=some .cell):∃c,(cellsFrom n sc.names []).lookup x=some c:=by
 have q:=W.cellsFrom_some sc.names n [] (.inl h)
 exact WW.mp q
theorem inv_start {CX:CXT}{P:Yq}{w:World}{K:W.Frag}{mg:2e2}{base:Heap}{N ps:4e6}{qual:Str}{scope:Scope}{f:Addr}{cd:Value}{A:Around}{outer:List Env}{s s1:Shared}{H:Hp}{E:XK}{us:3e5}{vs:List V}
  (S:FnScope N ps scope) (hd:A.handled=none) (e0:Env0 P w K mg base A outer s H) (hl:vs.length=ps.length) (r:Vals vs us)
  (x:InCallC s s.heap.objs.size (bindL (envOfC qual scope s.heap.objs.size f cd).kindOf (ps.zip us) fun _=>none) (cellsFrom (s.heap.objs.size + 1) scope.names []) (bindC (envOfC qual scope s.heap.objs.size f cd).kindOf (ps.zip us) fun _=>none) s1):
  Inv (cxOf CX P w K mg base N qual scope f cd A outer s H E) [] (start N vs) H s1:=by
 have hpl:ps.length<=N.length:=by have:=congrArg List.length S.pre;rw[Y7] at this;lia
 obtain ⟨h1,tk,rfl,hk⟩:=x.done
 have noA:∀b:Addr,b∉(cxOf CX P w K mg base N qual scope f cd A outer s H E).ex:=fun b z=>absurd (show b∈([]:List Addr) from z) 3e4
 refine ⟨⟨e0.mod,S.kind,rfl,rfl,Yk _,fun y z c h1 h2=>?_,fun y hy=>?_,fun y c _ h=>?_,fun _=>hd,Around.frames_deeper e0.frames,.inr ⟨rfl,rfl⟩,fun b z=>absurd z (noA b),e0.bs,e0.bsz,fun b _ _=>noA b,fun b z=>absurd z (noA b),e0.funs,e0.frf⟩,
  rfl,e0.bare,Un.kept hk,⟨_,x.toInCall.ns,fun i y v h1 h2 h3=>?_⟩,fun y c h=>⟨_,x.cell y c h⟩,e0.hok.fresh (Yk _),fun y c h=>?_,fun p hp=>absurd (show p∈([]:List (Addr×Obj)) from hp) (by simp),e0.hok.kept hk,?_⟩
 ·exact name_of_addr x.apart (Wn h1) (Wn h2)
 ·have hy:scope.names.lookup y=some .cell\/scope.names.lookup y=some .free:=hy
  rcases hy with hy | hy
  ·exact cell_has hy
  ·exact absurd rfl (S.nofree _ (Wn hy))
 ·exact Wi (x.above y c (Wn h))
 ·have hi:i < vs.length:=by
   unfold start at h2
   by_cases hi:i < vs.length
   ·exact hi
   ·rw[YW (by simpa using hi)] at h2
    rw[List.getElem?_replicate] at h2
    split at h2<;>cases h2
  have ha:vs[i]? = some v:=by
   unfold start at h2
   rw[Yf (by simpa using hi),YK] at h2
   cases e:vs[i]? with
   | none=>rw[e] at h2;cases h2
   | some a=>rw[e] at h2;cases h2;rfl
  obtain ⟨u,hu,rv⟩:=r.get ha
  have hp:ps[i]? = some y:=by
   rw[←S.pre,Xq 1e3];exact h1
  have ndP:ps.Nodup:=by rw[←S.pre];exact S.nd.sublist (VY _ _)
  refine ⟨u,rv,?_⟩
  rcases S.par y (Xc hp) with k | k
  ·exact .inl ⟨k,bindL_get ndP hp hu k⟩
  ·obtain ⟨c,e⟩:=cell_has (n:=s.heap.objs.size + 1) k
   refine .inr ⟨.inl k,c,e,?_⟩
   have q:=x.cell y c e
   rw[bindC_get ndP hp hu (by show scope.names.lookup y≠_;rw[k];decide)] at q
   exact q
 ·exact e0.hok.fresh (Wi (x.above y c (Wn h)))
 ·unfold start
  show _=N.length
  rw[Y8,Yr,List.length_replicate]
  lia
theorem fn_of {CX:CXT}{P:Yq}{w:World}{K:W.Frag}{mg:2e2}{base:Heap}{k:Nat}{f:Addr}{name qual:Str}{params:Arguments}{body:List Stmt}{scope:Scope}{dV kV doc pm cdv ct oc:Value}{an od:Option Addr}
  {osl:Array (Option Value)} {N ps:4e6} {sp:Sp} (lk:K.lookup f=some ⟨oc,od,.func (W.fnOf name qual params body scope dV kV doc pm an cdv ct),osl⟩) (hcd:W.codeIn K cdv qual=true) (S:FnScope N ps scope)
  (len:∀vs H Q E,sp vs H Q E->vs.length=ps.length)
  (hbody:∀(A:Around) (outer:List Env) (s:Shared) (H:Hp) (vs:List V) (Q:VK) (E:XK),Room k (A.deeper (envOfC qual scope s.heap.objs.size f cdv))->sp vs H Q E->
   ∃t,PSs (cxOf CX P w K mg base N qual scope f cdv A outer s H E) body t/\t { nx:=fun _ H'=>Q .non H',rt:=Q } (start N vs) H):
  FnOk P w K mg base CX (k + 1) f (W.fnOf name qual params body scope dV kV doc pm an cdv ct) ps sp:=by
 refine ⟨len,fun A outer s H args us vs Q E hr e0 hb r hsp=>?_⟩
 have hl:=len _ _ _ _ hsp
 have KX:K.In s.heap:=e0.mod.kin.keeps fun b o e=>(e0.bs b o e).1
 have lim:s.heap.NoLimit:=e0.mod.nolimit.keeps fun b o e=>(e0.bs b o e).1
 have hkind:∀y∈ps.zip us,scope.names.lookup y.1=some .local\/(scope.names.lookup y.1=some .cell/\((cellsFrom (s.heap.objs.size + 1) scope.names []).lookup y.1).isSome=true):=fun ⟨n,v⟩ hy=>by
  rcases S.par n (Ug hy).1 with q | q
  ·exact .inl q
  ·exact .inr ⟨q,W.cellsFrom_some _ _ _ (.inl q)⟩
 refine codeAny_call_function hr.depth (KX _ _ lk) rfl S.co S.gen rfl (W.codeRec_of KX hcd) (hb _ _ _ _ ?_)
 refine wpAny_newFunctionEnv_cells S.kind hkind fun env he s1 x=>?_
 subst he
 refine ⟨lim.keeps x.toInCall.keep,codeAny_func ?_⟩
 obtain ⟨t,ht,hq⟩:=hbody A outer s H vs Q E (hr.deeper _) hsp
 have I:Inv (cxOf CX P w K mg base N qual scope f cdv A outer s H E) [] (start N vs) H s1:=inv_start S hr.hd e0 hl r x
 refine X2 (ht [] s1 (start N vs) H _ I hq) (fun fl s' hs=>?_) fun e s' hs=>hs
 have fin:∀{σ':St} {H':Hp} {v:V} {u:Value},Inv (cxOf CX P w K mg base N qual scope f cdv A outer s H E) [] σ' H' s'->RelV v u->Q v H'->CE outer P w H s Q u s':=
  fun {σ' H' v u} J rv q=>⟨v,H',J.os,J.bare,J.base,J.hok,rv,q⟩
 cases fl with
 | ret u=>
  obtain ⟨v,σ',H',J,rv,q⟩:=hs
  exact fin J rv q
 | next=>
  obtain ⟨σ',H',J,q⟩:=hs
  exact fin (v:=V.non) (u:=Xj) J rfl q
 | brk=>
  obtain ⟨_,_,_,q⟩:=hs
  exact Wu q
 | cont=>
  obtain ⟨_,_,_,q⟩:=hs
  exact Wu q
section
variable {X:Cx}{x:Str}{p pos:Pos}{e:Expr}{es:4e8}{t:TA}{id T:String}{r:List V->Hp->VK->Prop}
noncomputable def tCB (r:List V->Hp->VK->Prop)(t:TA):TE:=fun σ H Q=>t σ H fun vs H1=>r vs H1 Q
theorem pe_callB (hc:CallR X (.builtin id) r)(hg:Gl X x)(hm:X.mg x=none)(hv:Xe x=some (.builtin id))(ha:PA X 5e1 t)(hn:x≠"__name__":=by decide)(hdb:5e0:=by decide)
  (he:1e9:=by rfl) (hpl:4e5:=by rfl):PE X (.Call (.Name x p) 5e1 [] pos) (tCB r t):=by
 intro pins s σ H Q I h
 refine X4 (Zcn I hg hm hv ?_ hn hdb)
 exact Vm (thn (ha pos pins s σ H _ I h) fun us s1 ⟨vs,H1,I1,r1,q1⟩=>hc pins s1 σ H1 vs us Q I1 r1 q1) he hpl
theorem pe_callTy (hc:CallR X (.type T) r)(hg:Gl X x)(hm:X.mg x=none)(hv:Xe x=some (.type T))(ha:PA X 5e1 t)(hn:x≠"__name__":=by decide)(hdb:5e0:=by decide)
  (he:1e9:=by rfl) (hpl:4e5:=by rfl):PE X (.Call (.Name x p) 5e1 [] pos) (tCB r t):=by
 intro pins s σ H Q I h
 refine X4 (Zcn I hg hm hv ?_ hn hdb)
 exact Xs (thn (ha pos pins s σ H _ I h) fun us s1 ⟨vs,H1,I1,r1,q1⟩=>hc pins s1 σ H1 vs us Q I1 r1 q1) he hpl
end
end L2
namespace HT
open PySem PyProof.Rows
section
variable {prog:Yq}{w:World}{A:Around}{E:1e4}{s:Shared}
theorem cat_tup {t b:Addr}{vs ws:3e5}{Q:1e4}(ht:IsTup s.heap t vs.toArray)(hb:IsTup s.heap b ws.toArray)(hv:vs≠[])
  (h1:ws=[]->Q (.ref t) s) (h2:ws≠[]->Q (.ref s.heap.objs.size) { s with heap:=s.heap.push { cls:=.type "tuple",data:=.seq (vs++ws).toArray } })
  (hsz:vs.length + ws.length<=Yu):wpAny 3e9 A (Wx .Add (.ref t) (.ref b)) Q E s:=by
 obtain ⟨⟨cls,dd,data,sl⟩,ho,hc,n,hd⟩:=id ht
 obtain ⟨⟨cls2,dd2,data2,sl2⟩,ho2,hc2,n2,hd2⟩:=id hb
 simp only at hc hd hc2 hd2
 subst hc hd hc2 hd2
 have e:vs.toArray++ws.toArray=(vs++ws).toArray:=by simp
 by_cases hw:ws=[]
 ·exact Uh ⟨_,ho,rfl⟩ ⟨_,ho2,rfl⟩ V9 seq_tuple_add Ve W5 (WX _ _)
   (tuple_addW1 t b vs.toArray ws.toArray n n2 dd dd2 sl sl2 (by simpa using hv) (by simp[hw])) ⟨ho,ho2,h1 hw⟩
 ·refine Uh ⟨_,ho,rfl⟩ ⟨_,ho2,rfl⟩ V9 seq_tuple_add Ve W5 (WX _ _)
   (tuple_addW2 t b vs.toArray ws.toArray n n2 dd dd2 sl sl2 (by simpa using hv) (by simpa using hw) (by rw[Yh,Yh];exact hsz)) ⟨ho,ho2,?_⟩
  rw[e]
  exact h2 hw
noncomputable def sIx (n d:Nat):Option Int->Nat
 | none=>d
 | some v=>if v < 0 then (v + (n:Int)).toNat else min v.toNat n
theorem sIx_le (n d:Nat)(hd:d<=n)(o:Option Int):sIx n d o<=n:=by
 cases o with
 | none=>exact hd
 | some v=>
  show (if v < 0 then (v + (n:Int)).toNat else min v.toNat n)<=n
  by_cases hv:v < 0
  ·rw[if_pos hv];lia
  ·rw[if_neg hv];exact Nat.min_le_right _ _
theorem clip_eq (v:Int)(n d:Nat):(if v < 0 then max (v + (n:Int)) 0 else min v (n:Int))=((sIx n d (some v):Nat):Int):=by
 show (if v < 0 then max (v + (n:Int)) 0 else min v (n:Int))=(((if v < 0 then (v + (n:Int)).toNat else min v.toNat n):Nat):Int)
 by_cases hv:v < 0
 ·simp only[if_pos hv];lia
 ·simp only[if_neg hv];lia
theorem adjust_gen (lo hi:Option Int)(n:Nat):WN lo hi 1 (n:Int)=(((sIx n 0 lo:Nat):Int),((sIx n n hi:Nat):Int)):=by
 have h1:¬((1:Int) < 0):=by lia
 unfold WN
 simp only[h1,if_false]
 refine Prod.ext ?_ ?_
 ·cases lo with
  | none=>rfl
  | some v=>exact clip_eq v n 0
 ·cases hi with
  | none=>rfl
  | some v=>exact clip_eq v n n
theorem places_gen (i j:Nat):X8 (i:Int) (j:Int) 1=j - i:=by
 unfold X8
 have h1:(1:Int) > 0:=by lia
 simp only[h1,if_true,Int.ediv_one]
 split<;>lia
theorem slicePart_ {v:Value}{o:Option Int}{Q:Option Int->Shared->Prop}(p:IsPart v o)(h:Q o s):wpAny 3e9 A (Builtin.Slice.slicePartIndex v) Q E s:=by
 cases p with
 | none=>exact slicePart_none h
 | int i t=>exact slicePart_int h
theorem sliceApplied_gen {sl:Addr}{vl vu:Value}{lo hi:Option Int}{n:Nat}{Q:Int×Int×Nat->Shared->Prop}(hs:s.heap.IsSliceOf sl vl vu .none)(pl:IsPart vl lo)(pu:IsPart vu hi)
  (h:Q (((sIx n 0 lo:Nat):Int),1,sIx n n hi - sIx n 0 lo) s):wpAny 3e9 A (VF (.ref sl) (pure (n:Int))) Q E s:=by
 obtain ⟨os,hos,hcs,hds⟩:=id hs
 unfold VF Builtin.Slice.sliceFields
 refine Yb (Yb (Vf hos hds (x:=vl) rfl (Yb (Vf hos hds (x:=vu) rfl (Yb (Vf hos hds (x:=.none) rfl (Ye ?_)))))))
 refine Yb (slicePart_none ?_)
 show wpAny _ _ (if ((1:Int)==0)=true then _ else _) _ _ s
 rw[if_neg 2e4]
 refine Yb (slicePart_ pl (Yb (slicePart_ pu (Yb (Ye ?_)))))
 show wpAny _ _ (match WN lo hi 1 (n:Int) with | (lo,hi)=>pure (lo,(1:Int),X8 lo hi 1)) _ _ s
 rw[adjust_gen lo hi n]
 show wpAny _ _ (pure (((sIx n 0 lo:Nat):Int),(1:Int),X8 ((sIx n 0 lo:Nat):Int) ((sIx n n hi:Nat):Int) 1)) _ _ s
 rw[places_gen]
 exact Ye h
theorem pick_gen (xs:Array Value)(i k:Nat):((Yg k).filterMap fun (m:Nat)=>xs[((i:Int) + (m:Int) * 1).toNat]?).toArray=((xs.toList.drop i).take k).toArray:=by
 have e:(fun (m:Nat)=>xs[((i:Int) + (m:Int) * 1).toNat]?)=fun m=>xs[i + m]?:=by
  funext m
  have:((i:Int) + (m:Int) * 1).toNat=i + m:=by lia
  rw[this]
 rw[e]
 have:=pick_run xs i k
 rw[List.filterMap_map] at this
 have e2:((fun x=>xs[x]?) ∘ fun x=>i + x)=fun m=>xs[i + m]?:=rfl
 rw[e2] at this
 rw[this]
theorem getItem_tuple_cut {t sl:Addr}{items:Array Value}{vl vu:Value}{lo hi:Option Int}{Q:1e4}(ht:IsTup s.heap t items)(hs:s.heap.IsSliceOf sl vl vu .none)(pl:IsPart vl lo)(pu:IsPart vu hi)
  (hw:¬(sIx items.size 0 lo=0/\sIx items.size items.size hi=items.size))
  (h:Q (.ref s.heap.objs.size) { s with heap:=s.heap.push { cls:=.type "tuple",data:=.seq ((items.toList.drop (sIx items.size 0 lo)).take (sIx items.size items.size hi - sIx items.size 0 lo)).toArray } })
  (hsz:items.size<=Yu):wpAny 3e9 A (Uw (.ref t) (.ref sl)) Q E s:=by
 have htake:sizeOk (.seq ((items.toList.drop (sIx items.size 0 lo)).take (sIx items.size items.size hi - sIx items.size 0 lo)).toArray):=by
  show ((items.toList.drop (sIx items.size 0 lo)).take (sIx items.size items.size hi - sIx items.size 0 lo)).toArray.size<=Yu
  rw[Yh,Y7,XN,YH]
  lia
 have hj:sIx items.size items.size hi<=items.size:=sIx_le _ _ (Yk _) hi
 obtain ⟨os,hos,hcs,hds⟩:=id hs
 have hTs:s.TypeIs (.ref sl) "slice":=⟨os,hos,hcs⟩
 unfold Uw
 try with_reducible refine Xh ?_
 first | refine Yb (Ye ?_) | skip
 refine Yb (wpAny_sequenceKey ht.typeIs 2e4 ?_)
 refine Yb (XU (name:=Vn "__getitem__") ht.typeIs Xd
  (XO Xd ht.typeIs entry_tuple_getitem ?_ (args_tuple_getitem _ _)))
 show wpAny _ _ (VG (.ref t) >>= _) _ _ s
 refine Yb (tupleItemsOf_ ht ?_)
 refine Yb (VM hTs ?_)
 rw[if_pos 2e4]
 refine Yb (sliceApplied_gen hs pl pu ?_)
 have hno:¬((((sIx items.size 0 lo:Nat):Int)==0&&(1:Int)==1&&(sIx items.size items.size hi - sIx items.size 0 lo)==items.size)=true):=by
  intro q
  rw[Yd,Yd] at q
  have q1:((sIx items.size 0 lo:Nat):Int)=0:=eq_of_beq q.1.1
  have q2:sIx items.size items.size hi - sIx items.size 0 lo=items.size:=eq_of_beq q.2
  exact hw ⟨by lia,by lia⟩
 show wpAny _ _ (if (((sIx items.size 0 lo:Nat):Int)==0&&(1:Int)==1&&(sIx items.size items.size hi - sIx items.size 0 lo)==items.size)=true then _ else _) _ _ s
 rw[if_neg hno,pick_gen]
 first
  | exact Yb (m:=Wb _) (XA (Ye ⟨_,rfl,Ye h⟩) htake)
  | exact Yb (m:=Wb _) (XA (Yb (Ye (Ye ⟨_,rfl,Ye h⟩))) htake)
  | exact Yb (Yb (m:=Wb _) (XA (Ye (Ye ⟨_,rfl,Ye h⟩)) htake))
  | exact Yb (Yb (m:=Wb _) (XA (Ye ⟨_,rfl,Ye h⟩) htake))
end
end HT
namespace L2
open PySem PySem.Spec PyProof.Rows
abbrev TO:=St->Hp->(Option Int->Hp->Prop)->Prop
def PO (X:Cx)(e:Option Expr)(t:TO):Prop:=
 ∀(pins:2e0) (s:Shared) (σ:St) (H:Hp) (Q:Option Int->Hp->Prop),Inv X pins σ H s->t σ H Q->
  wpAny 3e0 X.A (evalPart e X.env) (fun u s'=>∃o H',Inv X pins σ H' s'/\IsPart u o/\Q o H') X.xe s
noncomputable def tNoPart:TO:=fun _ H Q=>Q none H
noncomputable def tPart (t:TE):TO:=fun σ H Q=>t σ H fun x H1=>∃i,x=.int i/\Q (some i) H1
section
variable {X:Cx}{e:Expr}{te:TE}{lo hi:Option Expr}{tl th:TO}{pos p2:Pos}
theorem po_none:PO X none tNoPart:=by
 intro pins s σ H Q I h
 rw[evalPart_none]
 exact Ye ⟨none,H,I,.none,h⟩
theorem po_some (h:PE X e te):PO X (some e) (tPart te):=by
 intro pins s σ H Q I hw
 rw[evalPart_some]
 refine thn (h pins s σ H _ I hw) fun u s1 h_=>?_
 obtain ⟨x,H1,I1,r1,q1⟩:=h_
 obtain ⟨i,rfl,q⟩:=q1
 obtain ⟨t,rfl⟩:=r1
 exact ⟨some i,H1,I1,.int i t,q⟩
def SlR (X:Cx)(r:V->Option Int->Option Int->Hp->VK->Prop):Prop:=
 ∀(pins:2e0) (s:Shared) (σ:St) (H:Hp) (x:V) (v vl vu:Value) (lo hi:Option Int) (sl:Addr) (Q:VK),Inv X pins σ H s->RelV x v->s.heap.IsSliceOf sl vl vu .none->IsPart vl lo->IsPart vu hi->r x lo hi H Q->
  ∃T id,typeLookup (.type T) "__getitem__"=pure (some (.builtin id))/\s.TypeIs v T/\wpAny 3e0 X.A (Uw v (.ref sl)) (EP X pins σ Q) X.xe s
theorem SlR.or {r r':V->Option Int->Option Int->Hp->VK->Prop}(h:SlR X r)(h':SlR X r'):SlR X (fun x lo hi H Q=>r x lo hi H Q\/r' x lo hi H Q):=by
 intro pins s σ H x v vl vu lo hi sl Q I rx hs pl pu q
 rcases q with q | q
 ·exact h pins s σ H x v vl vu lo hi sl Q I rx hs pl pu q
 ·exact h' pins s σ H x v vl vu lo hi sl Q I rx hs pl pu q
noncomputable def tSl (r:V->Option Int->Option Int->Hp->VK->Prop)(te:TE)(tl th:TO):TE:=fun σ H Q=>te σ H fun x H1=>tl σ H1 fun l H2=>th σ H2 fun u H3=>r x l u H3 Q
theorem pe_slice {r:V->Option Int->Option Int->Hp->VK->Prop}(hr:SlR X r)(he:PE X e te)(hl:PO X lo tl)(hu:PO X hi th):PE X (.Subscript e (.Slice lo hi none p2) pos) (tSl r te tl th):=by
 intro pins s σ H Q I h
 refine Subscript_ (thn (he pins s σ H _ I h) fun v s1 h_=>?_)
 obtain ⟨x,H1,I1,r1,q1⟩:=h_
 refine wpAny_Slice (thn (hl pins s1 σ H1 _ I1 q1) fun vl s2 ⟨l,H2,I2,pl,q2⟩=>thn (hu pins s2 σ H2 _ I2 q2) fun vu s3 h_=>?_)
 obtain ⟨u,H3,I3,pu,q3⟩:=h_
 rw[evalPart_none]
 refine Ye ?_
 have I4:Inv X pins σ H3 { s3 with heap:=s3.heap.push { cls:=.type "slice",data:=.fields #[vl,vu,.none] } }:=I3.kept (t':=s3.toks) fun b ob q=>Yc _ q
 obtain ⟨T,id,hT,ht,hg⟩:=hr pins { s3 with heap:=s3.heap.push { cls:=.type "slice",data:=.fields #[vl,vu,.none] } } σ H3 x v vl vu l u s3.heap.objs.size Q I4 r1 (Heap.IsSliceOf.new ..) pl pu q3
 show wpAny 3e0 X.A (subscriptTail e (.Slice lo hi none p2) v (.ref s3.heap.objs.size)) (EP X pins σ Q) X.xe { s3 with heap:=s3.heap.push { cls:=.type "slice",data:=.fields #[vl,vu,.none] } }
 exact tail_any (ops:=[.ref s3.heap.objs.size,v]) ht hT hg (by with_unfolding_all rfl)
def cutV (xs:List V)(lo hi:Option Int):List V:=(xs.drop (HT.sIx xs.length 0 lo)).take (HT.sIx xs.length xs.length hi - HT.sIx xs.length 0 lo)
theorem Zc5 (xs:List V)(lo hi:Option Int):(cutV xs lo hi).length<=xs.length:=by
 unfold cutV
 rw[Y7,XN]
 lia
def rSlT (K:W.Frag):V->Option Int->Option Int->Hp->VK->Prop:=fun x lo hi H Q=>∃a xs,x=.ref a/\SqT K H a xs/\
 ¬(HT.sIx xs.length 0 lo=0/\HT.sIx xs.length xs.length hi=xs.length)/\∀p,H p=none->Q (.ref p) (upd H p (.tup (cutV xs lo hi)))
theorem sl_tup:SlR X (rSlT X.K):=by
 intro pins s σ H x v vl vu lo hi sl Q I rx hs pl pu h
 obtain ⟨a,xs,rfl,hx,hw,q⟩:=h
 cases rx
 obtain ⟨its,r,ht,hz⟩:=I.tuple hx
 have hlen:its.toArray.size=xs.length:=by rw[Yh];exact r.length.symm
 refine ⟨"tuple",_,Xd.lookup,ht.typeIs,?_⟩
 refine HT.getItem_tuple_cut ht hs pl pu (by rw[hlen];exact hw) ?_ (by rw[hlen];exact hz)
 rw[hlen]
 refine ⟨.ref s.heap.objs.size,_,I.laid (t':=s.toks) (o:=.tup (cutV xs lo hi)) (fun b ob q=>Yc _ q) (Yk _) ?_,rfl,q _ (I.hok.fresh (Yk _))⟩
 exact ⟨YG (Zc5 xs lo hi) hz,_,(r.drop (HT.sIx xs.length 0 lo)).take (HT.sIx xs.length xs.length hi - HT.sIx xs.length 0 lo),IsTup.new _ _⟩
def rCatT (K:W.Frag):R2:=fun x y H Q=>∃a b xs ys,x=.ref a/\y=.ref b/\SqT K H a xs/\SqT K H b ys/\xs≠[]/\xs.length + ys.length<=Yu/\
 (ys=[]->Q (.ref a) H)/\(ys≠[]->∀p,H p=none->Q (.ref p) (upd H p (.tup (xs++ys))))
theorem Vals.nil_iff {xs:List V}{us:3e5}(r:Vals xs us):us=[]↔xs=[]:=by
 cases r with
 | nil=>simp
 | cons _ _=>simp
theorem op_catT:OpR X (Wx .Add) (rCatT X.K):=by
 intro pins s σ H x y v u Q I rx ry h
 obtain ⟨a,b,xs,ys,rfl,rfl,ha,hb,hx,hz,q1,q2⟩:=h
 cases rx
 cases ry
 obtain ⟨its,r1,p1,_⟩:=I.tuple ha
 obtain ⟨its2,r2,p2,_⟩:=I.tuple hb
 refine HT.cat_tup p1 p2 (fun z=>hx (r1.nil_iff.mp z)) (fun z=>⟨.ref a,H,I,rfl,q1 (r2.nil_iff.mp z)⟩) (fun z=>?_) (by rw[←r1.length,←r2.length];exact hz)
 refine ⟨.ref s.heap.objs.size,_,I.laid (t':=s.toks) (o:=.tup (xs++ys)) (fun b ob q=>Yc _ q) (Yk _) ?_,rfl,q2 (fun w=>z (r2.nil_iff.mpr w)) _ (I.hok.fresh (Yk _))⟩
 exact ⟨by rw[Y8];exact hz,_,r1.append r2,IsTup.new _ _⟩
end
noncomputable def ixN (n:Nat)(i:Int):Option Nat:=if 0<=i then (if i < n then some i.toNat else none) else if -(n:Int)<=i then some (i + n).toNat else none
def atI {α:Type}(xs:List α)(i:Int):Option α:=(ixN xs.length i).bind fun j=>xs[j]?
theorem ixN_seq {n:Nat}{i:Int}{j:Nat}(h:ixN n i=some j):seqIndex? i n=some j/\j < n/\-(n:Int)<=i/\i < n:=by
 unfold ixN at h
 by_cases h0:0<=i
 ·rw[if_pos h0] at h
  by_cases h1:i < n
  ·rw[if_pos h1] at h
   have e:i.toNat=j:=YA h
   exact ⟨by rw[seqIndex_of h0 h1,e],by lia,by lia,h1⟩
  ·rw[if_neg h1] at h;cases h
 ·rw[if_neg h0] at h
  by_cases h1:-(n:Int)<=i
  ·rw[if_pos h1] at h
   have e:(i + n).toNat=j:=YA h
   exact ⟨by rw[seqIndex_neg 1e3 h1,e],by lia,h1,by lia⟩
  ·rw[if_neg h1] at h;cases h
theorem atI_get {α:Type}{xs:List α}{i:Int}{v:α}(h:atI xs i=some v):∃j,seqIndex? i xs.length=some j/\xs[j]? = some v/\j < xs.length/\-(xs.length:Int)<=i/\i < xs.length:=by
 unfold atI at h
 cases e:ixN xs.length i with
 | none=>rw[e] at h;cases h
 | some j=>
  rw[e] at h
  obtain ⟨h1,h2,h3,h4⟩:=ixN_seq e
  exact ⟨j,h1,h,h2,h3,h4⟩
def PlainIx (b:Expr):Prop:=∀o i,subscripted b false o i=operate [o,i] (Uw o i)
def IxR (X:Cx)(r:R2):Prop:=
 ∀(value slice:Expr) (pins:2e0) (s:Shared) (σ:St) (H:Hp) (x y:V) (v u:Value) (Q:VK),Inv X pins σ H s->RelV x v->RelV y u->r x y H Q->
  subscripted slice false v u=operate [v,u] (Uw v u)->wpAny 3e0 X.A (subscriptTail value slice v u) (EP X pins σ Q) X.xe s
def MtR (X:Cx)(id:String)(r:V->List V->Hp->VK->Prop):Prop:=
 ∀(pins:2e0) (s:Shared) (σ:St) (H:Hp) (x:V) (xs:List V) (v:Value) (us:3e5) (Q:VK),Inv X pins σ H s->RelV x v->Vals xs us->r x xs H Q->
  wpAny 3e0 X.A (call (.builtin id) (v::us)) (EP X pins σ Q) X.xe s
section
variable {X:Cx}{a b:Expr}{ta tb:TE}{pos:Pos}
theorem IxR.or {r r':R2}(h:IxR X r)(h':IxR X r'):IxR X (fun x y H Q=>r x y H Q\/r' x y H Q):=by
 intro value slice pins s σ H x y v u Q I rx ry q hs
 rcases q with q | q
 ·exact h value slice pins s σ H x y v u Q I rx ry q hs
 ·exact h' value slice pins s σ H x y v u Q I rx ry q hs
theorem pe_ix {r:R2}(hr:IxR X r)(ha:PE X a ta)(hb:PE X b tb)(hs:PlainIx b):PE X (.Subscript a b pos) (tOp r ta tb):=by
 intro pins s σ H Q I h
 exact Subscript_ (binT ha hb I h fun v u s2 x y H2 I2 rx ry q=>hr a b pins s2 σ H2 x y v u Q I2 rx ry q (hs _ _))
def rIxL (K:W.Frag):R2:=fun x y H Q=>∃p xs i v,x=.ref p/\y=.int i/\SqL K H p xs/\atI xs i=some v/\Q v H
def rIxT (K:W.Frag):R2:=fun x y H Q=>∃p xs i v,x=.ref p/\y=.int i/\SqT K H p xs/\atI xs i=some v/\Q v H
def rIxS:R2:=fun x y H Q=>∃z i c,x=.str z/\y=.int i/\z.length<=Yu/\atI z.cps.toList i=some c/\Q (.str ⟨#[c]⟩) H
theorem ix_list:IxR X (rIxL X.K):=by
 intro value slice pins s σ H x y v u Q I rx ry h hs
 obtain ⟨p,xs,i,z,rfl,rfl,hq,he,q⟩:=h
 cases rx
 obtain ⟨t,rfl⟩:=ry
 obtain ⟨its,r,pl,hz⟩:=I.list hq
 obtain ⟨j,h1,h2,h3,h4,h5⟩:=atI_get he
 obtain ⟨w,ew,rw'⟩:=r.get h2
 have hl:=r.length
 have hn:=line63
 have fin:EP X pins σ Q w s:=⟨z,H,I,rw',q⟩
 by_cases h0:0<=i
 ·have hj:i.toNat=j:=by
   rw[seqIndex_of h0 h5] at h1
   exact YA h1
  exact item_listR pl.isList h0 1e3 (by rw[hj];simpa using ew) fin hs
 ·have hj:(i + (its.toArray.size:Int)).toNat=j:=by
   rw[seqIndex_neg 1e3 h4] at h1
   rw[Yh,←hl]
   exact YA h1
  exact subscriptTail_builtinR (x:=w) pl.isList.typeIs slot_list_getitem.lookup
   (wpAny_getItem_list_neg (Q:=fun r s'=>r=w/\EP X pins σ Q r s') pl.isList 1e3 (by rw[Yh]<;>lia) 1e3 (by rw[hj];simpa using ew) ⟨rfl,fin⟩) hs
theorem ix_tup:IxR X (rIxT X.K):=by
 intro value slice pins s σ H x y v u Q I rx ry h hs
 obtain ⟨p,xs,i,z,rfl,rfl,hq,he,q⟩:=h
 cases rx
 obtain ⟨t,rfl⟩:=ry
 obtain ⟨its,r,pl,hz⟩:=I.tuple hq
 obtain ⟨j,h1,h2,h3,h4,h5⟩:=atI_get he
 obtain ⟨w,ew,rw'⟩:=r.get h2
 have hl:=r.length
 have hn:=line63
 have fin:EP X pins σ Q w s:=⟨z,H,I,rw',q⟩
 exact subscriptTail_builtinR (x:=w) pl.typeIs slot_tuple_getitem.lookup
  (getItem_tuple (j:=j) (Q:=fun r s'=>r=w/\EP X pins σ Q r s') pl 1e3 1e3 (by rw[Yh,←hl];exact h1) (by simpa using ew) ⟨rfl,fin⟩) hs
theorem ix_str:IxR X rIxS:=by
 intro value slice pins s σ H x y v u Q I rx ry h hs
 obtain ⟨z,i,c,rfl,rfl,hz,he,q⟩:=h
 obtain ⟨t,rfl⟩:=rx
 obtain ⟨t',rfl⟩:=ry
 obtain ⟨j,h1,h2,h3,h4,h5⟩:=atI_get he
 have hl:z.cps.toList.length=z.length:=by simp[Str.length]
 rw[hl] at h1 h4 h5
 have hn:=line63
 exact tail_any (typeIs_str s z t) slot_str_getitem.lookup (getItem_str (c:=c) (by
  have e1:decide (i < -(2 ^ 63:Int))=false:=decide_eq_false 1e3
  have e2:decide (i ≥ 2 ^ 63)=false:=decide_eq_false 1e3
  rw[e1,e2,Bool.or_false]) (by rw[h1];simpa using h2) ⟨.str ⟨#[c]⟩,H,I.tok _,⟨_,rfl⟩,q⟩) hs
def rIx (K:W.Frag):R2:=fun x y H Q=>rIxL K x y H Q\/rIxT K x y H Q\/rIxS x y H Q
theorem ix_seq:IxR X (rIx X.K):=ix_list.or (ix_tup.or ix_str)
theorem mapSeq_set (its:3e5)(n j:Nat)(u:Value):XI (·.setIfInBounds j u) { cls:=.type "list",data:=.seq its.toArray n }={ cls:=.type "list",data:=.seq (its.set j u).toArray n }:=by
 simp[XI]
theorem Inv.lst {pins:2e0}{σ:St}{H:Hp}{s:Shared}{p:Addr}{xs:List V}(I:2e3)(h:H p=some (.lst xs)):
  ∃(its:3e5) (n:Nat),Vals xs its/\s.heap.get? p=some { cls:=.type "list",data:=.seq its.toArray n }/\xs.length<=sizeLine:=by
 obtain ⟨z,its,n,r,e⟩:=I.hok p _ h
 exact ⟨its,n,r,e,z⟩
theorem Inv.lstUpd {pins:2e0}{σ:St}{H:Hp}{s:Shared}{p:Addr}{xs ys:List V}{its its':3e5}{n n':Nat}{f:Obj->Obj}(I:2e3)(h:H p=some (.lst xs))
  (ho:s.heap.get? p=some { cls:=.type "list",data:=.seq its.toArray n }) (hf:f { cls:=.type "list",data:=.seq its.toArray n }={ cls:=.type "list",data:=.seq its'.toArray n' }) (r:Vals ys its') (hz:ys.length<=Yu) (t:Nat):
  Inv X pins σ (upd H p (.lst ys)) { s with heap:=s.heap.update p f,toks:=t }:=by
 have e:(s.heap.update p f).get? p=some { cls:=.type "list",data:=.seq its'.toArray n' }:=by
  rw[WA f ho (by rw[hf]<;>rfl),hf]
 refine I.write (x:=p) (e:=p) (by rw[h];trivial) (.inl rfl) (fun b u hb q=>(Heap.get?_update_other _ _ (XT hb)).trans q) ⟨_,e⟩ ?_
 exact ⟨hz,its',n',r,e⟩
def rSetL:V->V->V->Hp->(Hp->Prop)->Prop:=fun o i v H Q=>∃p xs k j,o=.ref p/\i=.int k/\H p=some (.lst xs)/\ixN xs.length k=some j/\Q (upd H p (.lst (xs.set j v)))
theorem set_list:PSet X rSetL:=by
 intro pins s σ H o i v ov iv u Q I ro ri rv h
 obtain ⟨p,xs,k,j,rfl,rfl,hp,hj,q⟩:=h
 cases ro
 obtain ⟨t,rfl⟩:=ri
 obtain ⟨its,n,r,ho,hz⟩:=I.lst hp
 obtain ⟨h1,h2,h3,h4⟩:=ixN_seq hj
 have hl:=r.length
 have hn:=line63
 have I':Inv X pins σ (upd H p (.lst (xs.set j v))) { s with heap:=s.heap.update p (XI (·.setIfInBounds j u)) }:=
  I.lstUpd hp ho (mapSeq_set its n j u) (r.set rv j) (by rw[W6];exact hz) s.toks
 by_cases h0:0<=k
 ·have hk:k.toNat=j:=by
   rw[seqIndex_of h0 h4] at h1
   exact YA h1
  exact W.ki_setAt ho h0 1e3 (by rw[Yh,←hl];exact h4) (by rw[hk];exact ⟨_,I',q⟩)
 ·have hk:(k + (its.toArray.size:Int)).toNat=j:=by
   rw[seqIndex_neg 1e3 h3] at h1
   rw[Yh,←hl]
   exact YA h1
  exact W.ki_setBack ho 1e3 (by rw[Yh,←hl];exact h3) 1e3 (by rw[hk];exact ⟨_,I',q⟩)
theorem slice_bounds (lo hi:Option Int)(n:Nat):(Vg lo hi none n).1=((HT.sIx n 0 lo:Nat):Int)/\(Vg lo hi none n).2.1=((HT.sIx n n hi:Nat):Int)/\(Vg lo hi none n).2.2=1:=by
 refine ⟨?_,?_,rfl⟩
 ·cases lo with
  | none=>simp[Vg,HT.sIx]
  | some i=>
   simp only[Vg,HT.sIx,Option.getD_none,show (1:Int) > 0 by decide,if_true]
   by_cases h:i < 0
   ·simp only[h,if_true]<;>lia
   ·simp only[h,if_false]<;>lia
 ·cases hi with
  | none=>simp[Vg,HT.sIx]
  | some i=>
   simp only[Vg,HT.sIx,Option.getD_none,show (1:Int) > 0 by decide,if_true]
   by_cases h:i < 0
   ·simp only[h,if_true]<;>lia
   ·simp only[h,if_false]<;>lia
theorem slicePick_cut (its:3e5)(lo hi:Option Int):slicePick its.toArray lo hi none=((its.drop (HT.sIx its.length 0 lo)).take (HT.sIx its.length its.length hi - HT.sIx its.length 0 lo)).toArray:=by
 obtain ⟨h1,h2,h3⟩:=slice_bounds lo hi its.toArray.size
 unfold slicePick
 rw[h1,h2,h3]
 simp only[sliceRange_one,pick_run,Yh]<;>rfl
def rSlL (K:W.Frag):V->Option Int->Option Int->Hp->VK->Prop:=fun x lo hi H Q=>∃a xs,x=.ref a/\SqL K H a xs/\∀p,H p=none->Q (.ref p) (upd H p (.lst (cutV xs lo hi)))
theorem sl_list:SlR X (rSlL X.K):=by
 intro pins s σ H x v vl vu lo hi sl Q I rx hs pl pu h
 obtain ⟨a,xs,rfl,hx,q⟩:=h
 cases rx
 obtain ⟨its,r,ht,hz⟩:=I.list hx
 have hlen:=r.length
 refine ⟨"list",_,slot_list_getitem.lookup,ht.isList.typeIs,?_⟩
 refine wpAny_getItem_list_slice ht.isList hs pl pu .none 3e4 ?_ (by rw[Yh]<;>lia)
 rw[slicePick_cut,←hlen]
 refine ⟨.ref s.heap.objs.size,_,I.laid (t':=s.toks) (o:=.lst (cutV xs lo hi)) (fun b ob q=>Yc _ q) (Yk _) ?_,rfl,q _ (I.hok.fresh (Yk _))⟩
 exact ⟨YG (Zc5 xs lo hi) hz,_,0,(r.drop (HT.sIx xs.length 0 lo)).take (HT.sIx xs.length xs.length hi - HT.sIx xs.length 0 lo),Yp _ rfl⟩
noncomputable def flatV:V->Bool
 | .non=>true
 | .bl _=>true
 | .int _=>true
 | .str _=>true
 | _=>false
noncomputable def eqV:V->V->Bool
 | .non,.non=>true
 | .bl a,.bl b=>a==b
 | .bl a,.int b=>(if a then 1 else 0)==b
 | .int a,.bl b=>a==(if b then 1 else 0)
 | .int a,.int b=>a==b
 | .str a,.str b=>a==b
 | _,_=>false
theorem eqAt_V {A:Around}{s:Shared}{y x:V}{u v:Value}(ry:RelV y u)(rx:RelV x v)(fy:flatV y=true)(fx:flatV x=true):SeqAt.EqAt A s u v (eqV y x):=by
 cases y with
 | non=>
  cases ry
  cases x with
  | non=>cases rx;exact SeqAt.EqAt.same _
  | bl b=>cases rx;exact SeqAt.EqAt.none_bool b
  | int b=>obtain ⟨t,rfl⟩:=rx;exact SeqAt.EqAt.none_int b t
  | str b=>obtain ⟨t,rfl⟩:=rx;exact SeqAt.EqAt.none_str b t
  | _=>exact absurd (show false=true from fx) Yi
 | bl a=>
  cases ry
  cases x with
  | non=>cases rx;exact SeqAt.EqAt.bool_none a
  | bl b=>cases rx;exact SeqAt.EqAt.bool_bool a b
  | int b=>obtain ⟨t,rfl⟩:=rx;exact SeqAt.EqAt.bool_int a b t
  | str b=>obtain ⟨t,rfl⟩:=rx;exact SeqAt.EqAt.bool_str a b t
  | _=>exact absurd (show false=true from fx) Yi
 | int a=>
  obtain ⟨t',rfl⟩:=ry
  cases x with
  | non=>cases rx;exact SeqAt.EqAt.int_none a t'
  | bl b=>cases rx;exact SeqAt.EqAt.int_bool a t' b
  | int b=>obtain ⟨t,rfl⟩:=rx;exact SeqAt.EqAt.int_int a t' b t
  | str b=>obtain ⟨t,rfl⟩:=rx;exact SeqAt.EqAt.int_str a t' b t
  | _=>exact absurd (show false=true from fx) Yi
 | str a=>
  obtain ⟨t',rfl⟩:=ry
  cases x with
  | non=>cases rx;exact SeqAt.EqAt.str_none a t'
  | bl b=>cases rx;exact SeqAt.EqAt.str_bool a t' b
  | int b=>obtain ⟨t,rfl⟩:=rx;exact SeqAt.EqAt.str_int a t' b t
  | str b=>obtain ⟨t,rfl⟩:=rx;exact SeqAt.EqAt.str_str a t' b t
  | _=>exact absurd (show false=true from fx) Yi
 | _=>exact absurd (show false=true from fy) Yi
def eqU (x:V)(u:Value):Bool:=match u with
 | .none=>eqV .non x
 | .bool b=>eqV (.bl b) x
 | .int i _=>eqV (.int i) x
 | .str z _=>eqV (.str z) x
 | _=>false
theorem eqU_of {x y:V}{u:Value}(r:RelV y u)(f:flatV y=true):eqU x u=eqV y x:=by
 cases y with
 | non=>cases r;rfl
 | bl b=>cases r;rfl
 | int i=>obtain ⟨t,rfl⟩:=r;rfl
 | str z=>obtain ⟨t,rfl⟩:=r;rfl
 | _=>exact absurd (show false=true from f) Yi
theorem any_eqU {x:V}:∀{xs:List V} {us:3e5},Vals xs us->xs.all flatV=true->us.any (eqU x)=xs.any fun y=>eqV y x
 | _,_,.nil,_=>rfl
 | y::xs,u::us,.cons r t,f=>by
  rw[Y9,Yd] at f
  rw[XE,XE,eqU_of r f.1,any_eqU t f.2]
theorem mem_eqAt {A:Around}{s:Shared}{x:V}{v:Value}(rx:RelV x v)(fx:flatV x=true):∀{xs:List V} {us:3e5},Vals xs us->xs.all flatV=true->∀u∈us,SeqAt.EqAt A s u v (eqU x u)
 | _,_,.nil,_=>fun u hu=>by cases hu
 | y::xs,u::us,.cons r t,f=>fun u' hu=>by
  rw[Y9,Yd] at f
  rcases Yn.mp hu with rfl | hu
  ·rw[eqU_of r f.1];exact eqAt_V r rx f.1 fx
  ·exact mem_eqAt rx fx t f.2 u' hu
def inV (x:V)(xs:List V):Bool:=xs.any fun y=>eqV y x
def rIn (K:W.Frag)(neg:Bool):R2:=fun x y H Q=>∃p xs,y=.ref p/\(SqL K H p xs\/SqT K H p xs)/\flatV x=true/\xs.all flatV=true/\Q (.bl (if neg then !inV x xs else inV x xs)) H
theorem op_in_seq:OpR X (Y6 .In) (rIn X.K false):=by
 intro pins s σ H x y v u Q I rx ry h
 obtain ⟨p,xs,rfl,hq,fx,fs,q⟩:=h
 cases ry
 rcases hq with hq | hq
 ·obtain ⟨its,r,pl,hz⟩:=I.list hq
  refine SeqAt.in_listAt (eqU x) pl.isList (fun w hw=>mem_eqAt rx fx r fs w (by simpa using hw)) ⟨.bl _,H,I,rfl,?_⟩
  rw[show its.toArray.any (eqU x)=its.any (eqU x) by simp,any_eqU r fs]
  exact q
 ·obtain ⟨its,r,pl,hz⟩:=I.tuple hq
  refine SeqAt.in_tupleAt (eqU x) pl (fun w hw=>mem_eqAt rx fx r fs w (by simpa using hw)) ⟨.bl _,H,I,rfl,?_⟩
  rw[show its.toArray.any (eqU x)=its.any (eqU x) by simp,any_eqU r fs]
  exact q
theorem CallR.or {f:Value}{r r':List V->Hp->VK->Prop}(h:CallR X f r)(h':CallR X f r'):CallR X f (fun xs H Q=>r xs H Q\/r' xs H Q):=by
 intro pins s σ H xs us Q I rs q
 rcases q with q | q
 ·exact h pins s σ H xs us Q I rs q
 ·exact h' pins s σ H xs us Q I rs q
theorem call_list_of:CallR X (.type "list") (fun xs H Q=>∃p ys,xs=[.ref p]/\(SqL X.K H p ys\/SqT X.K H p ys)/\∀l,H l=none->Q (.ref l) (upd H l (.lst ys))):=by
 intro pins s σ H xs us Q I r h
 obtain ⟨p,ys,rfl,hq,q⟩:=h
 obtain ⟨u,rfl,rx⟩:=vals1 r
 cases rx
 have fin:∀(its:3e5),Vals ys its->ys.length<=Yu->∀(h':Heap) (c':Nat),(∀b o',s.heap.get? b=some o'->h'.get? b=some o')->
   h'.get? s.heap.objs.size=some { cls:=.type "list",dict:=none,data:=.seq its.toArray c',slots:=#[] }->EP X pins σ Q (.ref s.heap.objs.size) { s with heap:=h' }:=fun its r' hz h' c' kp e=>
  ⟨.ref s.heap.objs.size,_,I.laid (t':=s.toks) kp (Yk _) (show ObjOk X.prog X.w _ h' _ (.lst ys) from ⟨hz,its,c',r',e⟩),rfl,q _ (I.hok.fresh (Yk _))⟩
 rcases hq with hq | hq
 ·obtain ⟨its,r',pl,hz⟩:=I.list hq
  have hlen:=r'.length
  obtain ⟨o,ho,hc,n,hd⟩:=pl.isList
  exact call_list_seq p (.inl rfl) ho hc hd (fun h' c' kp e=>fin its r' hz h' c' kp e) (by simp only[Yh]<;>lia)
 ·obtain ⟨its,r',pl,hz⟩:=I.tuple hq
  have hlen:=r'.length
  obtain ⟨o,ho,hc,n,hd⟩:=pl
  exact call_list_seq p (.inr rfl) ho hc hd (fun h' c' kp e=>fin its r' hz h' c' kp e) (by simp only[Yh]<;>lia)
theorem call_tuple_of:CallR X (.type "tuple") (fun xs H Q=>∃p ys,xs=[.ref p]/\((SqL X.K H p ys/\∀l,H l=none->Q (.ref l) (upd H l (.tup ys)))\/(SqT X.K H p ys/\Q (.ref p) H))):=by
 intro pins s σ H xs us Q I r h
 obtain ⟨p,ys,rfl,h⟩:=h
 obtain ⟨u,rfl,rx⟩:=vals1 r
 cases rx
 rcases h with ⟨hq,q⟩ | ⟨hq,q⟩
 ·obtain ⟨its,r',pl,hz⟩:=I.list hq
  have hlen:=r'.length
  refine call_tuple_list pl.isList (fun h' kp=>?_) (by simp only[Yh]<;>lia)
  have I1:Inv X pins σ H { s with heap:=h' }:=I.kept (t':=s.toks) kp
  have I2:Inv X pins σ (upd H h'.objs.size (.tup ys)) { s with heap:=h'.push { cls:=.type "tuple",data:=.seq its.toArray } }:=
   I1.laid (t':=s.toks) (fun b o e=>Yc _ e) (Yk _) (show ObjOk X.prog X.w _ _ _ (.tup ys) from ⟨hz,its,r',IsTup.new _ _⟩)
  exact ⟨.ref h'.objs.size,_,I2,rfl,q _ (I1.hok.fresh (Yk _))⟩
 ·obtain ⟨its,r',pl,hz⟩:=I.tuple hq
  exact call_tuple_same pl ⟨.ref p,H,I,rfl,q⟩
def tyV (K:W.Frag)(T:String)(x:V)(H:Hp):Prop:=match x with
 | .str _=>T="str"
 | .int _=>T="int"
 | .ref p=>(T="list"/\∃xs,SqL K H p xs)\/(T="tuple"/\∃o,K.lookup p=some o/\o.cls=.type "tuple"/\o.dict=none)\/
   (T="dict"/\((∃kvs,H p=some (.dK kvs))\/∃kvs,H p=some (.dT kvs)))\/(T="set"/\∃S n,H p=some (.set S n))
 | _=>False
theorem tyV_is {pins:2e0}{σ:St}{H:Hp}{s:Shared}{T:String}{x:V}{v:Value}(I:2e3)(r:RelV x v)(ty:tyV X.K T x H):
  s.TypeIs v T/\∀a,v=.ref a->∃ob,s.heap.get? a=some ob/\ob.dict=none:=by
 cases x with
 | str z=>
  obtain ⟨t,rfl⟩:=r
  cases (show T="str" from ty)
  exact ⟨typeIs_str s z t,fun _ e=>nomatch e⟩
 | int i=>
  obtain ⟨t,rfl⟩:=r
  cases (show T="int" from ty)
  exact ⟨typeIs_int s i t,fun _ e=>nomatch e⟩
 | ref p=>
  cases r
  rcases ty with ⟨rfl,xs,hq⟩ | ⟨rfl,o,hk,hc,hd⟩ | ⟨rfl,hk⟩ | ⟨rfl,S,n,hk⟩
  ·obtain ⟨its,_,pl,_⟩:=I.list hq
   refine ⟨pl.isList.typeIs,fun a e=>?_⟩
   cases e
   obtain ⟨o,n,e,c,hd,_⟩:=pl
   exact ⟨o,e,hd⟩
  ·refine ⟨⟨o,I.kIn p o hk,hc⟩,fun a e=>?_⟩
   cases e
   exact ⟨o,I.kIn _ o hk,hd⟩
  ·have z:∃o,s.heap.get? p=some o/\o.ExactDict:=by
    rcases hk with ⟨kvs,hk⟩ | ⟨kvs,hk⟩
    ·obtain ⟨_,_,_,_,o,_,_,e,ex,_⟩:=I.hok p _ hk
     exact ⟨o,e,ex⟩
    ·obtain ⟨_,_,_,_,o,_,_,e,ex,_⟩:=I.hok p _ hk
     exact ⟨o,e,ex⟩
   obtain ⟨o,e,ex⟩:=z
   refine ⟨⟨o,e,ex.1⟩,fun a e2=>?_⟩
   cases e2
   exact ⟨o,e,ex.2.1⟩
  ·obtain ⟨o,_,_,_,e,ex,_⟩:=I.hok p _ hk
   refine ⟨⟨o,e,ex.1⟩,fun a e2=>?_⟩
   cases e2
   exact ⟨o,e,ex.2.1⟩
 | _=>exact Wu ty
noncomputable def tBM (K:W.Frag)(T:String)(r:V->List V->Hp->VK->Prop)(to:TE)(t:TA):TE:=fun σ H Q=>to σ H fun x H1=>tyV K T x H1/\t σ H1 fun xs H2=>r x xs H2 Q
variable {o e:Expr}{es:4e8}{to:TE}{t:TA}{name:Str}{apos cpos:Pos}{T id:String}{r:V->List V->Hp->VK->Prop}
theorem pe_bm (pa:PlainAttrs T)(slot:Slot T name id)(hty:typeOf (.builtin id)=pure (.type "method_descriptor"))(hm:MtR X id r)(ho:PE X o to)(ha:PA X 5e1 t)
  (hbase:WG o name X.env (eval o X.env)=eval o X.env:=by rfl)
  (hfew:((backTo cpos (Yj 5e1 X.env)).all (fun x=>!x.1)&&(Uu cpos (Vh [] X.env)).all (fun x=>x.1.isSome)
   &&decide ((e::es).length + ([]:List Vi).length + (if ([]:List Vi).isEmpty then 0 else 1) < 30))=true:=by rfl)
  (hline:(apos.endLine==cpos.line)=true:=by rfl) (hs:1e9:=by rfl) (hplain:(backTo cpos (Yj es X.env)).any (·.1)=false:=by rfl):
  PE X (.Call (.Attribute o name apos) 5e1 [] cpos) (tBM X.K T r to t):=by
 intro pins s σ H Q I h
 refine wpAny_Call_method_late hbase hfew hline rfl (thn (ho pins s σ H _ I h) fun v s1 h_=>?_)
 obtain ⟨x,H1,I1,r1,ty,q1⟩:=h_
 obtain ⟨h1,h2⟩:=tyV_is I1 r1 ty
 refine ⟨T,id,pa,slot,hty,h1,h2,?_⟩
 have hA:=ha cpos pins s1 σ H1 _ I1 q1
 rw[hs] at hA ⊢
 refine Calls.callWith_builtin (by show (false||(backTo cpos (Yj es X.env)).any (·.1))=false;rw[hplain]<;>rfl) (Calls.evalArgs_plain ?_)
 exact thn hA fun us s2 ⟨vs,H2,I2,r2,q2⟩=>hm pins s2 σ H2 x vs v us Q I2 r1 r2 q2
end
def MtM (X:Cx)(id:String)(r:V->List V->Hp->VK->Prop):Prop:=
 ∀(pins:2e0) (s:Shared) (σ:St) (H:Hp) (x:V) (xs:List V) (v:Value) (us:3e5) (Q:VK),Inv X pins σ H s->RelV x v->Vals xs us->r x xs H Q->
  wpAny 3e0 X.A (call (.builtin id) (v::us)) (EP X pins σ Q) X.xe s
theorem Vals.one:∀{x:V} {us:3e5},Vals [x] us->∃u,us=[u]/\RelV x u:=by
 intro x us r
 cases r with
 | cons r t=>cases t;exact ⟨_,rfl,r⟩
theorem Vals.two:∀{x y:V} {us:3e5},Vals [x,y] us->∃u v,us=[u,v]/\RelV x u/\RelV y v:=by
 intro x y us r
 cases r with
 | cons r t=>cases t with
  | cons q t=>cases t;exact ⟨_,_,rfl,r,q⟩
section
variable {X:Cx}{pins:2e0}{σ:St}{H:Hp}{s:Shared}{l b:Addr}{xs ys zs:List V}
theorem Inv.lset {its its':3e5}{n:Nat}{f:Array Value->Array Value}{t':Nat}(I:2e3)(hH:H l=some (.lst xs))
  (e:s.heap.get? l=some { cls:=.type "list",data:=.seq its.toArray n }) (hf:f its.toArray=its'.toArray) (hv:Vals ys its') (hz:ys.length<=Yu):
  Inv X pins σ (upd H l (.lst ys)) { s with heap:=s.heap.update l (XI f),toks:=t' }:=by
 have q:=PySem.IsL.update e f
 rw[hf] at q
 refine I.write (x:=l) (e:=l) (by rw[hH];exact trivial) (.inl rfl) (fun b' u hb hu=>(Heap.get?_update_other s.heap (XI f) (XT hb)).trans hu) ⟨_,q⟩ ?_
 exact ⟨hz,its',_,hv,q⟩
theorem Inv.lnew {its:3e5}{t':Nat}(I:2e3)(hv:Vals ys its)(hz:ys.length<=Yu):
  Inv X pins σ (upd H s.heap.objs.size (.lst ys)) { s with heap:=s.heap.push { cls:=.type "list",data:=.seq its.toArray },toks:=t' }:=
 I.laid (fun _ _ q=>Yc _ q) (Yk _) ⟨hz,its,0,hv,Yp _ rfl⟩
theorem Inv.fresh (I:2e3):H s.heap.objs.size=none:=I.hok.fresh (Yk _)
theorem Inv.lstM (I:2e3)(hH:H l=some (.lst xs)):xs.length<=Yu/\∃(its:3e5) (n:Nat),Vals xs its/\xs.length=its.length/\s.heap.get? l=some { cls:=.type "list",data:=.seq its.toArray n }:=by
 obtain ⟨z,its,n,r,e⟩:=I.hok l _ hH
 exact ⟨z,its,n,r,r.length,e⟩
end
section
variable {X:Cx}
def rAppend:V->List V->Hp->VK->Prop:=fun x vs H Q=>∃l xs y,x=.ref l/\vs=[y]/\H l=some (.lst xs)/\xs.length < Yu/\Q .non (upd H l (.lst (xs++[y])))
theorem mt_append:MtM X "list.append" rAppend:=by
 intro pins s σ H x vs v us Q I rx rv h
 obtain ⟨l,xs,y,rfl,rfl,hH,hz,q⟩:=h
 cases rx
 obtain ⟨u,rfl,ru⟩:=rv.one
 obtain ⟨z,its,n,r,hl,e⟩:=I.lstM hH
 refine call_meets F.slot_list_append ⟨_,e,rfl⟩ F.entry_list_append (F.args_list_append_2 _ _) (PySem.list_append l its.toArray n u (by rw[Yh];lia)) ⟨e,?_⟩
 refine ⟨.non,_,I.lset (its':=its++[u]) hH e 3e4 (r.append (.cons ru .nil)) ?_,rfl,q⟩
 rw[Y8,List.length_singleton]
 lia
end
end L2
namespace Att
open PySem PySem.W PySem.Calls PyProof.Rows
theorem ZcY {P:Params}{h:Heap}:∀(ns:List Int) (vs:3e5),WellAll P h vs (ns.map WData.int)->IntsAre vs ns:=by
 intro ns
 induction ns with
 | nil=>
  intro vs w
  rw[List.map_nil] at w
  cases w
  exact .nil
 | cons n ns ih=>
  intro vs w
  rw[YO] at w
  cases w with
  | cons a b=>
   cases a
   exact .cons _ _ (ih _ b)
theorem script_of {l:OpenLaw}{n:Nat}(hn:l.most=some n){P:Params}{h:Heap}{args:List WData}{vals:3e5}
    (hpre:l.row.toRowW.claim.pre args=true) (hwl:WellAll P h vals args):
    ∃a vs ns,vals=[Yy a]/\args=[WData.list (ns.map WData.int)]/\h.get? a=some { cls:=.type "list",data:=.seq vs.toArray }/\IntsAre vs ns/\ns.length<=n:=by
  have hsh:WShape.hasAll [] args [.list .int]=true:=(pre_splitW hpre).1
  have hc:l.pre.holds [] { args:=args }=true:=(pre_splitW hpre).2
  obtain ⟨d,r,rfl,h1,h2⟩:=hasAllW_cons hsh
  obtain rfl:=hasAllW_nil h2
  obtain ⟨xs,rfl,h3⟩:=hasW_list h1
  obtain ⟨ns,rfl⟩:=items_int h3
  have hlen:ns.length<=n:=by
    unfold OpenLaw.pre at hc
    have h4:(WTm.not (.lt (.lit (.int (n:Int))) (.len (.arg 0)))).holds [] { args:=[.list (ns.map .int)] }=true:=by
      have h4:=(holds_andW hc).1
      rw[hn] at h4
      exact h4
    have h5:=condW_of h4 (w_not (w_lt w_lit (w_len_list (w_arg rfl))))
    rw[Yr] at h5
    refine Ua fun q=>?_
    have q':(n:Int) < ((ns.length:Nat):Int):=by lia
    first
      | (rw[decide_eq_true q'] at h5;exact absurd h5 (by decide))
      | (simp at h5;lia)
  cases hwl with
  | cons w1 w2=>
    cases w2
    cases w1 with
    | list ho hall=>exact ⟨_,_,ns,rfl,rfl,ho,ZcY ns _ hall,hlen⟩
theorem post_true (l:OpenLaw)(args:List WData):l.row.toRowW.claim.post args (.bool true) args=true:=
 postW_of (r:=l.row.toRowW) (X:=(true==true))
  (show WShape.has [] (.bool true) .bool=true by first | rfl | decide | simp[WShape.has,WShape.arms,WShape.armsAll])
  (show (WTm.eq .res (.lit (.bool true))).value [] { args:=args,res:=some (.bool true),after:=args }=some (.bool (true==true)) from w_eq_bool (w_res rfl) w_lit) rfl
theorem attach_call {l:OpenLaw}{n:Nat}{q:Yq}{loose:4e6}{XP:(Str->Option Value)->Heap->Prop}{YP:World->Heap->Prop}{d:DefRec}
  (hn:l.most=some n) (hdf:d.params.defaults=[])
  (call:∀(w:World) (s₀ s₁:Shared) (mg mb:2e2) (fa:Addr) (o:Obj) (pm cd doc:Value) (a:Addr) (vs:3e5) (ns:List Int),
   Ground q loose [] XP w s₀ mg mb s₁.heap->YP w s₁.heap->
   s₁.heap.get? fa=some o->o.data=.func (docDef d.name d.params d.body d.scope pm cd doc)->s₁.heap.CodeRec cd d.name->mg d.name=some (.ref fa)->
   s₁.heap.get? a=some { cls:=.type "list",data:=.seq vs.toArray }->IntsAre vs ns->ns.length<=n->s₁.gens=#[]->
   Uf (model l.prog w) UE (.call (.ref fa) ⟨[.ref a],[]⟩) (fun r s'=>r=.ok (.ret (.bool true))/\OldK s₁.heap s'.heap/\s'.os=s₁.os/\Uc s'.gens) s₁):
  WalkO q loose XP YP l.row.toRowW d [] (fun f vs=>PySem.call f vs):=by
 intro w s₀ s₁ mg mb G Y fa o pm cd doc dV kV ho hd hcd hD hmg hg args vals as hpre hlay hrd hwl hlo
 obtain rfl:dV=.none:=Dflts.none hD hdf
 obtain rfl:kV=.none:=Dflts.noKw hD
 obtain ⟨a,vs,ns,rfl,rfl,hobj,hints,hlen⟩:=script_of hn hpre hwl
 refine enter_call (VL (call w s₀ s₁ mg mb fa o pm cd doc a vs ns G Y ho (fd_plain hd) hcd hmg hobj hints hlen hg) fun r s' hq=>?_)
 obtain ⟨rfl,h2,h3,h4⟩:=hq
 exact ⟨.inl ⟨.bool true,.bool true,[],rfl,fun _=>rfl,.bool true,post_true l _,fun _=>⟨List.Pairwise.nil,fun _ hm=>(nomatch hm)⟩⟩,h2,h3,h4⟩
end Att
namespace L2
open PySem PySem.Spec PyProof.Rows
theorem vals_ints:∀{vs:3e5} {ns:List Int},IntsAre vs ns->Vals (ns.map V.int) vs
 | _,_,.nil=>.nil
 | _,_,.cons n t h=>.cons ⟨t,rfl⟩ (vals_ints h)
def Only (H:Hp):Prop:=∀b,H b=none\/∃o xs,H b=some (.frz o (.lst xs))
theorem law_call {P:Yq}{w:World}{K:W.Frag}{mg mb:2e2}{CX:CXT}{k:Nat}{fa a:Addr}{fd:Yw}{x:Str}{sp:Sp}{s₁:Shared}{vs:3e5}{ns:List Int}
  (KX:K.In s₁.heap) (hns:s₁.heap.Ns Xk mg) (hb:s₁.heap.Ns builtinsNs mb) (hbb:∀x:Str,x≠"__name__"->mb x=Xe x) (hlim:s₁.heap.NoLimit) (hg:s₁.gens=#[])
  (ha:s₁.heap.get? a=some { cls:=.type "list",data:=.seq vs.toArray }) (hi:IntsAre vs ns) (hl:ns.length<=Yu) (hr:Room k UE)
  (F:∀base:Heap,K.In base->base.Ns Xk mg->FnOk P w K mg base CX k fa fd [x] sp) (hbind:∀(s:Shared) (u:Value),BindsTo s fd ⟨[u],[]⟩ [(x,u)])
  (hsp:∀H:Hp,Only H->SqL K H a (ns.map V.int)->sp [.ref a] H (fun v _=>v=.bl true) fun _ _ _=>False)
  (hCX:∀H e s',CX [] H s₁ (fun _ _ _=>False) e s'->False):
  Uf (model P w) UE (.call (.ref fa) ⟨[.ref a],[]⟩) (fun r s'=>r=.ok (.ret (.bool true))/\OldK s₁.heap s'.heap/\s'.os=s₁.os/\Uc s'.gens) s₁:=by
 have rv:=vals_ints hi
 have lenV:=hi.length
 have core:∀H:Hp,Only H->SqL K H a (ns.map V.int)->HOk P w H s₁.heap->(∀b,H b≠none->b=a)->(H a≠none->K.lookup a=none)->
   Uf (model P w) UE (.call (.ref fa) ⟨[.ref a],[]⟩) (fun r s'=>r=.ok (.ret (.bool true))/\OldK s₁.heap s'.heap/\s'.os=s₁.os/\Uc s'.gens) s₁:=by
  intro H hO hS hok hA hK
  have base_of:∀{b:Addr} {o:Obj},s₁.heap.get? b=some o->H b=none->(hidT s₁.heap H).get? b=some o:=fun e n=>hidT_get e n
  have noA:∀{b:Addr} {o:Obj} {es:Array WB} {ep:Nat},s₁.heap.get? b=some o->o.data=.dict es ep->H b=none:=fun {b o es ep} e d=>by
   cases q:H b with
   | none=>rfl
   | some u=>
    have e':b=a:=hA b (by rw[q];simp)
    subst e'
    rw[ha] at e;cases e
    have d':Data.seq vs.toArray _=Data.dict es ep:=d
    cases d'
  have nsK:∀{b:Addr} {m:2e2},s₁.heap.Ns b m->(hidT s₁.heap H).Ns b m:=fun {b m} ⟨o,es,ep,e,d,r⟩=>⟨o,es,ep,base_of e (noA e d),d,r⟩
  have hKb:K.In (hidT s₁.heap H):=fun b o e=>base_of (KX b o e) (by
   cases q:H b with
   | none=>rfl
   | some u=>
    have e':b=a:=hA b (by rw[q];simp)
    subst e'
    rw[hK (by rw[q];simp)] at e;cases e)
  have hM:Mod K mg (hidT s₁.heap H):=⟨hKb,nsK hns,⟨mb,nsK hb,hbb⟩,let ⟨mc,h1,h2⟩:=hlim;⟨mc,nsK h1,h2⟩⟩
  have e0:Env0 P w K mg (hidT s₁.heap H) UE [] s₁ H:=⟨rfl,hM,fun b o e=>of_hidT e,Nat.le_of_eq (hidT_size _ _),trivial,fun b hb=>absurd (show b∈([]:List Addr) from hb) 3e4,hok,.of_eq hg⟩
  refine VL ((F _ hKb (nsK hns)).run UE [] s₁ H ⟨[.ref a],[]⟩ [.ref a] [.ref a] _ _ hr e0 (hbind s₁ (.ref a)) (.cons rfl .nil) (hsp H hO hS)) fun r s' h=>?_
  cases r with
  | error e=>exact (hCX H e s' h).elim
  | ok fl=>
   cases fl with
   | next=>exact Wu h
   | brk=>exact Wu h
   | cont=>exact Wu h
   | ret u=>
    obtain ⟨v,H',os,bare,un,hok',r',q⟩:=h
    have q':v=.bl true:=q
    subst q'
    obtain rfl:u=Vy true:=r'
    refine ⟨rfl,OldK.of_keep fun b o e=>?_,os,bare⟩
    cases q:H b with
    | none=>exact un.keep b o e q (by intro z;exact absurd (show b∈([]:List Addr) from z) 3e4) 3e4
    | some u=>
     rcases hO b with z | ⟨ob,xs,z⟩
     ·rw[q] at z;cases z
     ·have z2:=un.frzs b ob _ z
      obtain ⟨e1,_⟩:=hok b _ z
      obtain ⟨e2,_⟩:=hok' b _ z2
      rw[e] at e1;cases e1
      exact e2
 cases hk:K.lookup a with
 | some o=>
  have e:=KX a o hk
  rw[ha] at e
  cases e
  refine core (fun _=>none) (fun _=>.inl rfl) (.inr ⟨_,vs.toArray,_,hk,rfl,rfl,rfl,by rw[Yh,lenV];exact hl,by simpa using rv⟩) (fun b u z=>by have z':(none:Option HO)=some u:=z;cases z') (fun b z=>absurd rfl z) fun z=>absurd rfl z
 | none=>
  refine core (fun b=>if b=a then some (.frz { cls:=.type "list",data:=.seq vs.toArray } (.lst (ns.map V.int))) else none) (fun b=>?_) (.inl (.inr ⟨{ cls:=.type "list",data:=.seq vs.toArray },if_pos rfl⟩)) (fun b u z=>?_) (fun b z=>?_) fun _=>hk
  ·by_cases hb:b=a
   ·exact .inr ⟨_,_,if_pos hb⟩
   ·exact .inl (if_neg hb)
  ·by_cases hb:b=a
   ·have z':=(if_pos hb).symm.trans z
    cases z'
    subst hb
    exact ⟨ha,by rw[Yr];exact hl,vs,_,rv,ha⟩
   ·have z':=(if_neg hb).symm.trans z
    cases z'
  ·by_cases hb:b=a
   ·exact hb
   ·exact absurd (if_neg hb) z
noncomputable def defArgs (s:Stmt):Arguments:=match s with
 | .FunctionDef _ a _ _ _ _ _ _ _ _=>a
 | _=>{ posonlyargs:=[],args:=[],vararg:=none,kwonlyargs:=[],kw_defaults:=[],kwarg:=none,defaults:=[] }
noncomputable def defBody (s:Stmt):List Stmt:=match s with
 | .FunctionDef _ _ b _ _ _ _ _ _ _=>b
 | _=>[]
noncomputable def defScope (s:Stmt):Scope:=match s with
 | .FunctionDef _ _ _ _ _ _ sc _ _ _=>sc
 | _=>{ kind:=.function,names:=[],isGenerator:=false,isCoroutine:=false }
noncomputable abbrev CX0:CXT:=fun _ _ _ _ _ _=>False
noncomputable abbrev E0:XK:=fun _ _ _=>False
theorem pass0 {X:Cx}:Passes CX0 X E0:=fun _ _ _ _ _ _ _ h=>h.elim
structure Fun (K:W.Frag)(x qual:Str)(st:Stmt)(f:Addr)(fd:Yw):Prop where
 ex:∃(oc:Value) (od:Option Addr) (kV doc pm:Value) (an:Option Addr) (cdv ct:Value) (osl:Array (Option Value)),
  fd=W.fnOf x qual (defArgs st) (defBody st) (defScope st) .none kV doc pm an cdv ct/\K.lookup f=some ⟨oc,od,.func fd,osl⟩/\W.codeIn K cdv qual=true
 kp:YC K (.ref f)=true
section
variable {P:Yq}{w:World}{K:W.Frag}{mg:2e2}{base:Heap}
theorem Fun.ok {x qual:Str}{st:Stmt}{f:Addr}{fd:Yw}{N ps:4e6}{k:Nat}{sp:Sp}(F:Fun K x qual st f fd)(S:FnScope N ps (defScope st))(len:∀vs H Q E,sp vs H Q E->vs.length=ps.length)
  (hbody:∀(cdv:Value) (A:Around) (outer:List Env) (s:Shared) (H:Hp) (vs:List V) (Q:VK) (E:XK),Room k (A.deeper (envOfC qual (defScope st) s.heap.objs.size f cdv))->sp vs H Q E->
   ∃t,PSs (cxOf CX0 P w K mg base N qual (defScope st) f cdv A outer s H E).nox (defBody st) t/\t { nx:=fun _ H'=>Q .non H',rt:=Q } (start N vs) H):FnOk P w K mg base CX0 (k + 1) f fd ps sp:=by
 obtain ⟨oc,od,kV,doc,pm,an,cdv,ct,osl,rfl,lk,hcd⟩:=F.ex
 refine fn_of lk hcd S len fun A outer s H vs Q E hr hsp=>?_
 obtain ⟨t,h,q⟩:=hbody cdv A outer s H vs Q E hr hsp
 exact ⟨t,h.nox,q⟩
theorem Fun.binds {x qual:Str}{st:Stmt}{f:Addr}{fd:Yw}{ps:4e6}(F:Fun K x qual st f fd)
  (h:∀(kV doc pm:Value) (an:Option Addr) (cdv ct:Value) (us:3e5),us.length=ps.length->bindArgs (W.fnOf x qual (defArgs st) (defBody st) (defScope st) .none kV doc pm an cdv ct) ⟨us,[]⟩=pure (ps.zip us)):Binds K fd ps []:=by
 obtain ⟨oc,od,kV,doc,pm,an,cdv,ct,osl,rfl,lk,hcd⟩:=F.ex
 exact .all (h kV doc pm an cdv ct)
theorem fun_mk {x qual:Str}{st:Stmt}{f:Addr}{oc:Value}{od an:Option Addr}{osl:Array (Option Value)}{kV doc pm cdv ct:Value}(l:K.lookup f=some ⟨oc,od,.func (W.fnOf x qual (defArgs st) (defBody st) (defScope st) .none kV doc pm an cdv ct),osl⟩)
  (c:W.codeIn K cdv qual=true) (k:YC K (.ref f)=true):Fun K x qual st f (W.fnOf x qual (defArgs st) (defBody st) (defScope st) .none kV doc pm an cdv ct):=⟨⟨oc,od,kV,doc,pm,an,cdv,ct,osl,rfl,l,c⟩,k⟩
end
theorem Zav {A:Around}{k:Nat}(hr:Room k A):A.units + 1 < cLine:=VN (Nat.add_le_add_left (by decide:1<=64) _) hr.units
end L2
set_option maxHeartbeats 4000000
namespace L2
open PySem PySem.Spec PyProof.Rows
section
variable {κ:Type} [DecidableEq κ]
noncomputable def valV (kvs:List (κ×V))(k:κ):Option V:=(kvs.find? fun kv=>decide (kv.1=k)).map (·.2)
noncomputable def putK (kvs:List (κ×V))(k:κ)(v:V):List (κ×V):=
 if (kvs.any fun kv=>decide (kv.1=k))=true then kvs.map (fun kv=>if kv.1=k then (kv.1,v) else kv) else kvs++[(k,v)]
theorem Zct {p:κ×V}{r:List (κ×V)}{k:κ}(e:p.1=k):valV (p::r) k=some p.2:=by simp[valV,Wc,e]
theorem Zcu {p:κ×V}{r:List (κ×V)}{k:κ}(e:¬p.1=k):valV (p::r) k=valV r k:=by simp[valV,Wc,e]
theorem valV_any (k:κ):∀kvs:List (κ×V),(kvs.any fun kv=>decide (kv.1=k))=(valV kvs k).isSome
 | []=>rfl
 | p::r=>by
  rw[XE]
  by_cases e:p.1=k
  ·simp only[Zct e,decide_eq_true e,Bool.true_or,Option.isSome_some]
  ·rw[Zcu e,decide_eq_false e,Bool.false_or];exact valV_any k r
theorem ZcU (kvs:List (κ×V))(k:κ)(v:V):(putK kvs k v).length<=kvs.length + 1:=by
 unfold putK
 split
 ·rw[Yr];lia
 ·rw[Y8,YL,W7];lia
theorem RelO.isSome_eq {o:Option V}{u:Option Value}(r:RelO o u):o.isSome=u.isSome:=by
 cases o with
 | none=>cases u with
  | none=>rfl
  | some _=>exact (show False from r).elim
 | some _=>cases u with
  | none=>exact (show False from r).elim
  | some _=>rfl
theorem KV.val {kvs:List (κ×V)}{vs:List (κ×Value)}(r:KV kvs vs)(k:κ):RelO (valV kvs k) (Ui vs k):=by
 unfold KV at r
 induction r with
 | nil=>exact WF
 | @cons p q ps qs h t ih=>
  obtain ⟨h1,h2⟩:=h
  by_cases e:p.1=k
  ·have e':q.1=k:=h1.symm.trans e
   have b:Ui (q::qs) k=some q.2:=by simp[Ui,Wc,e']
   rw[Zct e,b];exact h2
  ·have e':¬q.1=k:=fun z=>e (h1.trans z)
   have b:Ui (q::qs) k=Ui qs k:=by simp[Ui,Wc,e']
   rw[Zcu e,b];exact ih
theorem KV.any {kvs:List (κ×V)}{vs:List (κ×Value)}(r:KV kvs vs)(k:κ):(kvs.any fun kv=>decide (kv.1=k))=vs.any fun kv=>decide (kv.1=k):=by
 unfold KV at r
 induction r with
 | nil=>rfl
 | cons h t ih=>rw[XE,XE,ih,h.1]
theorem KV.repl {kvs:List (κ×V)}{vs:List (κ×Value)}(r:KV kvs vs)(k:κ){y:V}{u:Value}(ry:RelV y u):
  KV (kvs.map fun kv=>if kv.1=k then (kv.1,y) else kv) (vs.map fun kv=>if kv.1=k then (kv.1,u) else kv):=by
 unfold KV at r ⊢
 induction r with
 | nil=>exact .nil
 | @cons p q ps qs h t ih=>
  rw[YO,YO]
  refine .cons ?_ ih
  obtain ⟨h1,h2⟩:=h
  by_cases e:p.1=k
  ·rw[if_pos e,if_pos (h1.symm.trans e)];exact ⟨h1,ry⟩
  ·rw[if_neg e,if_neg (fun z=>e (h1.trans z))];exact ⟨h1,h2⟩
theorem KV.put {kvs:List (κ×V)}{vs:List (κ×Value)}(r:KV kvs vs)(k:κ){y:V}{u:Value}(ry:RelV y u):KV (putK kvs k y) (stored vs k u):=by
 unfold putK stored
 rw[r.any k]
 by_cases e:(vs.any fun kv=>decide (kv.1=k))=true
 ·rw[if_pos e,if_pos e];exact r.repl k ry
 ·rw[if_neg e,if_neg e];exact Paired.snoc r ⟨rfl,ry⟩
theorem KV.keys {kvs:List (κ×V)}{vs:List (κ×Value)}(r:KV kvs vs):kvs.map (·.1)=vs.map (·.1):=by
 unfold KV at r
 induction r with
 | nil=>rfl
 | cons h t ih=>rw[YO,YO,ih,h.1]
theorem KV.length {kvs:List (κ×V)}{vs:List (κ×Value)}(r:KV kvs vs):kvs.length=vs.length:=Vv r
end
theorem kV_is {P:Yq}{w:World}{k:Key}{u:Value}(r:RelV (kV k) u):(mixKind P w).is k u=true:=by
 cases k with
 | inl i=>obtain ⟨t,e⟩:=(show ∃t,u=Value.int i t from r);subst e;exact mixKind_int P w i t
 | inr x=>obtain ⟨t,e⟩:=(show ∃t,u=Value.str x t from r);subst e;exact mixKind_str P w x t
theorem ZcW {P:Yq}{w:World}:∀{ks:List Key} {us:3e5},Vals (ks.map kV) us->ItemsAre (mixKind P w) ks us
 | [],_,r=>by rw[List.map_nil] at r;cases r;exact .nil
 | k::ks,_,r=>by
  rw[YO] at r
  cases r with
  | cons h t=>exact .cons (kV_is h) (ZcW t)
abbrev KT (H:Hp):List (List Key×V)->List (List Key×Addr×Value)->Prop:=Paired fun p q=>p.1=q.1/\H q.2.1=some (.tup (p.1.map kV))/\RelV p.2 q.2.2
theorem KT.val {H:Hp}{kvs:List (List Key×V)}{xs:List (List Key×Addr×Value)}(r:KT H kvs xs)(k:List Key):RelO (valV kvs k) ((atKey xs k).map (·.2)):=by
 induction r with
 | nil=>exact WF
 | @cons p q ps qs h t ih=>
  obtain ⟨h1,_,h2⟩:=h
  by_cases e:p.1=k
  ·have e':q.1=k:=h1.symm.trans e
   have b:atKey (q::qs) k=some q.2:=by simp[atKey,Wc,e']
   rw[Zct e,b];exact h2
  ·have e':¬q.1=k:=fun z=>e (h1.trans z)
   have b:atKey (q::qs) k=atKey qs k:=by simp[atKey,Wc,e']
   rw[Zcu e,b];exact ih
theorem KT.repl {H:Hp}{kvs:List (List Key×V)}{xs:List (List Key×Addr×Value)}(r:KT H kvs xs)(k:List Key){y:V}{u:Value}(ry:RelV y u):
  KT H (kvs.map fun kv=>if kv.1=k then (kv.1,y) else kv) (xs.map (putAt k u)):=by
 induction r with
 | nil=>exact .nil
 | @cons p q ps qs h t ih=>
  rw[YO,YO]
  refine .cons ?_ ih
  obtain ⟨h1,h2,h3⟩:=h
  unfold putAt
  by_cases e:p.1=k
  ·rw[if_pos e,if_pos (h1.symm.trans e)];exact ⟨h1,h2,ry⟩
  ·rw[if_neg e,if_neg (fun z=>e (h1.trans z))];exact ⟨h1,h2,h3⟩
theorem KT.put {H:Hp}{kvs:List (List Key×V)}{xs:List (List Key×Addr×Value)}(r:KT H kvs xs)(k:List Key){b:Addr}{y:V}{u:Value}(hb:H b=some (.tup (k.map kV)))(ry:RelV y u):
  KT H (putK kvs k y) (storedH xs k b u):=by
 have e:(kvs.any fun kv=>decide (kv.1=k))=(atKey xs k).isSome:=by
  rw[valV_any,(r.val k).isSome_eq,Option.isSome_map]
 unfold putK storedH
 rw[e]
 by_cases q:(atKey xs k).isSome=true
 ·rw[if_pos q,if_pos q];exact r.repl k ry
 ·rw[if_neg q,if_neg q];exact Paired.snoc r ⟨rfl,hb,ry⟩
theorem KT.keeps {H H':Hp}{kvs:List (List Key×V)}{xs:List (List Key×Addr×Value)}(r:KT H kvs xs)(ht:∀b ys,H b=some (.tup ys)->H' b=some (.tup ys)):KT H' kvs xs:=
 Paired.mapP r fun _ _ z=>⟨z.1,ht _ _ z.2.1,z.2.2⟩
section
variable {P:Yq}{w:World}{H:Hp}{h:Heap}{a:Addr}
theorem rd_of {u:HO}(ok:HOk P w H h)(e:Rd H a u):ObjOk P w H h a u:=e.ok ok
theorem dk_rd {kvs:List (Key×V)}(ok:HOk P w H h)(e:Rd H a (.dK kvs)):kvs.length<=Yu/\(a==XH)=false/\∃vs,KV kvs vs/\h.DictOf (mixKind P w) a vs:=
 show ObjOk P w H h a (.dK kvs) from rd_of ok e
theorem dk_of {kvs:List (Key×V)}(ok:HOk P w H h)(e:H a=some (.dK kvs)):kvs.length<=Yu/\(a==XH)=false/\∃vs,KV kvs vs/\h.DictOf (mixKind P w) a vs:=dk_rd ok (.inl e)
theorem key_of {ks:List Key}(ok:HOk P w H h)(e:H a=some (.tup (ks.map kV))):(WK (mixKind P w)).is h ks a:=by
 obtain ⟨_,its,r,o,h1,h2,n,h3⟩:=(show ObjOk P w H h a (.tup (ks.map kV)) from ok a _ e)
 exact ⟨o,its.toArray,n,h1,h2,h3,by simpa using ZcW r⟩
theorem dt_rd {kvs:List (List Key×V)}(ok:HOk P w H h)(e:Rd H a (.dT kvs)):kvs.length<=Yu/\(a==XH)=false/\
  ∃xs,KT H kvs xs/\h.DictOfH (WK (mixKind P w)) a xs:=by
 obtain ⟨z,y,xs,r,o,es,ep,h1,h2,h3,h4,h5⟩:=(show ObjOk P w H h a (.dT kvs) from rd_of ok e)
 refine ⟨z,y,xs,r,o,es,ep,h1,h2,h3,h4,fun x hx=>?_,h5⟩
 have all:∀{l:List (List Key×V)} {m:List (List Key×Addr×Value)},KT H l m->∀x∈m,(WK (mixKind P w)).is h x.1 x.2.1:=by
  intro l m q
  induction q with
  | nil=>intro x hx;exact nomatch hx
  | @cons p q ps qs hq t ih=>
   intro x hx
   rcases Yn.mp hx with e | hx
   ·subst e
    exact key_of ok (by rw[←hq.1];exact hq.2.1)
   ·exact ih x hx
 exact all r x hx
theorem dt_of {kvs:List (List Key×V)}(ok:HOk P w H h)(e:H a=some (.dT kvs)):kvs.length<=Yu/\(a==XH)=false/\
  ∃xs,KT H kvs xs/\h.DictOfH (WK (mixKind P w)) a xs:=dt_rd ok (.inl e)
end
def DGet (H:Hp)(a:Addr)(y:V)(r:Option V):Prop:=
 (∃kvs k,Rd H a (.dK kvs)/\y=kV k/\r=valV kvs k)\/∃kvs k b,Rd H a (.dT kvs)/\y=.ref b/\H b=some (.tup (k.map kV))/\r=valV kvs k
def DPut (H:Hp)(a:Addr)(y v:V)(H':Hp):Prop:=
 (∃kvs k,H a=some (.dK kvs)/\y=kV k/\kvs.length < Yu/\H'=upd H a (.dK (putK kvs k v)))\/
 ∃kvs k b,H a=some (.dT kvs)/\y=.ref b/\H b=some (.tup (k.map kV))/\kvs.length < Yu/\H'=upd H a (.dT (putK kvs k v))
theorem DGet.k {H:Hp}{a:Addr}{kvs:List (Key×V)}{k:Key}(e:H a=some (.dK kvs)):DGet H a (kV k) (valV kvs k):=.inl ⟨kvs,k,.inl e,rfl,rfl⟩
theorem DPut.k {H:Hp}{a:Addr}{kvs:List (Key×V)}{k:Key}{v:V}(e:H a=some (.dK kvs))(hl:kvs.length < Yu):DPut H a (kV k) v (upd H a (.dK (putK kvs k v))):=.inl ⟨kvs,k,e,rfl,hl,rfl⟩
section
variable {X:Cx}{pins:2e0}{σ:St}{H:Hp}{s:Shared}{a:Addr}{y v:V}{u r:Value}{o:Option V}{A:Around}{E:1e4}
theorem Inv.big (I:2e3):XH < s.heap.objs.size:=by
 have h:Xk < s.heap.objs.size:=(I.mod.glob.keeps I.bk).lt
 exact Uj 2e4 h
theorem d_getItem {Q:1e4}(hu:A.units + 1 < cLine)(I:2e3)(g:DGet H a y (some v))(ry:RelV y u)(h:∀w' s',Inv X pins σ H s'->RelV v w'->Q w' s'):
  wpAny 3e0 A (Uw (.ref a) u) Q E s:=by
 rcases g with ⟨kvs,k,e,ey,l⟩ | ⟨kvs,k,b,e,ey,eb,l⟩
 ·subst ey
  obtain ⟨z,hd,vs,rel,dd⟩:=dk_rd I.hok e
  obtain ⟨w',hw,rw'⟩:=RelO.some_of (v:=v) (o:=Ui vs k) (by rw[l];exact rel.val k)
  exact wpAny_getItem_of (kV_is ry) dd.mapOf hw (h w' _ (I.tok _) rw')
 ·subst ey
  cases (show u=Yy b from ry)
  obtain ⟨z,hd,xs,rel,dd⟩:=dt_rd I.hok e
  obtain ⟨w',hw,rw'⟩:=RelO.some_of (v:=v) (o:=(atKey xs k).map (·.2)) (by rw[l];exact rel.val k)
  obtain ⟨p,hp,hp2⟩:=Xg.mp hw
  refine wpAny_getItem_heap (tupleKind_room_in1 hu) (key_of I.hok eb) dd hp ?_
  rw[hp2]
  exact h w' _ (I.tok _) rw'
theorem d_write {h':Heap}{t':Nat}{ob:HO}(I:2e3)(mu:Mut (H a))(hs:XF a s.heap h')(he:∃q,h'.get? a=some q)(new:ObjOk X.prog X.w (upd H a ob) h' a ob):
  Inv X pins σ (upd H a ob) { s with heap:=h',toks:=t' }:=
 I.write (x:=a) (e:=a) mu (.inl rfl) (fun b q hb z=>(hs.2 b hb).trans z) he new
theorem dk_new {P:Yq}{w:World}{H':Hp}{h':Heap}{kvs:List (Key×V)}{vs:List (Key×Value)}(z:kvs.length<=Yu)(hd:(a==XH)=false)(rel:KV kvs vs)(dd:h'.DictOf (mixKind P w) a vs):
  ObjOk P w H' h' a (.dK kvs):=⟨z,hd,vs,rel,dd⟩
theorem d_setItem {H':Hp}{Q:Unit->Shared->Prop}(hu:A.units + 1 < cLine)(I:2e3)(g:DPut H a y v H')(ry:RelV y u)(rv:RelV v r)(h:∀s',Inv X pins σ H' s'->Q () s'):
  wpAny 3e0 A (setItem (.ref a) u r) Q E s:=by
 rcases g with ⟨kvs,k,e,ey,l,eH⟩ | ⟨kvs,k,b,e,ey,eb,l,eH⟩
 ·subst ey eH
  obtain ⟨z,hd,vs,rel,dd⟩:=dk_of I.hok e
  have hz:vs.length<=sizeLine:=by rw[←rel.length];exact z
  have hl:(putK kvs k v).length<=sizeLine:=by have:=ZcU kvs k v;lia
  refine wpAny_setItem_pairs (hsz:=hz) (kV_is ry) dd fun h' dd' hs=>h _ ?_
  have he:∃q,h'.get? a=some q:=let ⟨q,_,_,hq,_⟩:=dd';⟨q,hq⟩
  exact d_write I (by rw[e];exact WF) hs he (dk_new hl hd (rel.put k rv) dd')
 ·subst ey eH
  cases (show u=Yy b from ry)
  obtain ⟨z,hd,xs,rel,dd⟩:=dt_of I.hok e
  have hz:xs.length<=sizeLine:=by rw[←Vv rel];exact z
  have hl:(putK kvs k v).length<=sizeLine:=by have:=ZcU kvs k v;lia
  refine wpAny_setItem_heap (hsz:=hz) (tupleKind_room_in1 hu) (key_of I.hok eb) dd fun h' dd' hs=>h _ ?_
  obtain ⟨q,es,ep,hq,h2,h3,h4,_,h5⟩:=dd'
  refine d_write I (by rw[e];exact WF) hs ⟨q,hq⟩ ⟨hl,hd,_,(rel.put k eb rv).keeps fun c ys ec=>?_,q,es,ep,hq,h2,h3,h4,h5⟩
  rw[Zax (ne_of ec e (fun z=>nomatch z))]
  exact ec
end
theorem dict_typeIs {X:Cx}{pins:2e0}{σ:St}{H:Hp}{s:Shared}{a:Addr}{y:V}{o:Option V}(I:2e3)(g:DGet H a y o):s.TypeIs (.ref a) "dict":=by
 rcases g with ⟨kvs,k,e,_,_⟩ | ⟨kvs,k,b,e,_,_,_⟩
 ·obtain ⟨_,_,vs,_,dd⟩:=dk_rd I.hok e
  exact dd.typeIs
 ·obtain ⟨_,_,xs,_,dd⟩:=dt_rd I.hok e
  exact dd.typeIs
noncomputable def sDPut (td ty tv:TE):TS:=fun D σ H=>tv σ H fun v H1=>td σ H1 fun x H2=>ty σ H2 fun y H3=>∃a H4,x=.ref a/\DPut H3 a y v H4/\D.nx σ H4
section
variable {X:Cx}{o i e value:Expr}{pos pos' tpos:Pos}{td ty tv:TE}
theorem ps_dput (hu:X.A.units + 1 < cLine)(ho:PE X o td)(hi:PE X i ty)(hv:PE X value tv)(hs:WZ value (some (.Subscript o i pos')) pos.line X.env=pure false):
  PS X (.Assign [.Subscript o i pos'] value pos) (sDPut td ty tv):=by
 intro pins s σ H D I h
 refine wpAny_Assign_Subscript (thn (hv pins s σ H _ I h) fun r s1 ⟨v,H1,I1,rv,q1⟩=>thn (ho pins s1 σ H1 _ I1 q1) fun u s2 ⟨x,H2,I2,rx,q2⟩=>thn (hi pins s2 σ H2 _ I2 q2) fun iv s3 ⟨y,H3,I3,ry,a,H4,ex,g,q3⟩=>?_) hs
 subst ex
 obtain rfl:u=Yy a:=rx
 exact d_setItem hu I3 g ry rv fun s4 I4=>⟨σ,H4,I4,q3⟩
end
theorem dk_empty {P:Yq}{w:World}{H:Hp}(h:Heap)(hb:XH < h.objs.size):ObjOk P w H (h.push { cls:=.type "dict",data:=.dict #[] }) h.objs.size (.dK []):=
 ⟨YT _,beq_eq_false_iff_ne.mpr (XT (Yo hb)),[],.nil,Heap.DictOf.new h⟩
def tDNewK:TE:=fun _ H Q=>∀p,H p=none->Q (.ref p) (upd H p (.dK []))
section
variable {X:Cx}{pos:Pos}
theorem pe_dnewK:PE X (.Dict [] [] pos) tDNewK:=fun pins s σ H Q I h=>
 wpAny_Dict_empty ⟨.ref s.heap.objs.size,_,I.laid (a:=s.heap.objs.size) (o:=.dK []) (t':=s.toks) (fun _ _ q=>Yc _ q) (Yk _) (dk_empty s.heap I.big),rfl,h _ (I.hok.fresh (Yk _))⟩
end
structure M1 (X:Cx)(o:Expr)(m:Str)(apos:Pos)(e:Expr)(cpos:Pos):Prop where
 base:WG o m X.env (eval o X.env)=eval o X.env
 few:((backTo cpos (Yj [e] X.env)).all (fun x=>!x.1)&&(Uu cpos (Vh [] X.env)).all (fun x=>x.1.isSome)
  &&decide (([e]:List Expr).length + ([]:List Vi).length + (if ([]:List Vi).isEmpty then 0 else 1) < 30))=true
 line:(apos.endLine==cpos.line)=true
 trees:backTo cpos (Yj [e] X.env)=[(false,eval e X.env)]
def IsD (H:Hp)(a:Addr):Prop:=(∃kvs,Rd H a (.dK kvs))\/∃kvs,Rd H a (.dT kvs)
theorem isD_at {X:Cx}{pins:2e0}{σ:St}{H:Hp}{s:Shared}{a:Addr}(I:2e3)(d:IsD H a):
  s.TypeIs (.ref a) "dict"/\(∀b,Yy a=.ref b->∃ob,s.heap.get? b=some ob/\ob.dict=none)/\(a==XH)=false:=by
 rcases d with ⟨kvs,e⟩ | ⟨kvs,e⟩
 ·obtain ⟨_,hd,vs,_,dd⟩:=dk_rd I.hok e
  refine ⟨dd.typeIs,fun b q=>?_,hd⟩
  cases q
  obtain ⟨ob,_,_,h1,h2,_⟩:=dd
  exact ⟨ob,h1,h2.2.1⟩
 ·obtain ⟨_,hd,xs,_,dd⟩:=dt_rd I.hok e
  refine ⟨dd.typeIs,fun b q=>?_,hd⟩
  cases q
  obtain ⟨ob,_,_,h1,h2,_⟩:=dd
  exact ⟨ob,h1,h2.2.1⟩
noncomputable def clFrom (cells:List (Str×Addr)):List (Str×W4)->List (Str×Addr)->List (Str×Addr)
  | [],cs=>cs
  | (n,k)::r,cs=>clFrom cells r (if k=.free then (n,(cells.lookup n).getD 0)::cs else cs)
theorem Zc7 {cells:List (Str×Addr)}:∀{names:List (Str×W4)} {cs:List (Str×Addr)},(∀y∈names,y.2=.free->∃c,cells.lookup y.1=some c)->(∀x c,cs.lookup x=some c->cells.lookup x=some c)->
    ∀x c,(clFrom cells names cs).lookup x=some c->cells.lookup x=some c
  | [],_,_,h,x,c,e=>h x c e
  | (n,k)::r,cs,hn,h,x,c,e=>by
    unfold clFrom at e
    refine Zc7 (fun y hy=>hn y (Xf _ hy)) (fun y d q=>?_) x c e
    by_cases hk:k=.free
    · rw[if_pos hk] at q
      obtain ⟨c',hc'⟩:=hn (n,k) Xr hk
      rw[YJ] at q
      by_cases hy:y==n
      · rw[hy] at q
        have:y=n:=by simpa using hy
        subst this
        rw[show cells.lookup y=some c' from hc'] at q ⊢
        simpa using q
      · have hy':(y==n)=false:=by simpa using hy
        rw[hy'] at q
        exact h y d q
    · rw[if_neg hk] at q
      exact h y d q
theorem Zcq {cells:List (Str×Addr)}{x:Str}:∀{names:List (Str×W4)} {cs:List (Str×Addr)},(∃c,cs.lookup x=some c)->∃c,(clFrom cells names cs).lookup x=some c
  | [],_,h=>h
  | (n,k)::r,cs,h=>by
    unfold clFrom
    refine Zcq ?_
    by_cases hk:k=.free
    · rw[if_pos hk,YJ]
      by_cases hy:x==n
      · rw[hy];exact ⟨_,rfl⟩
      · have hy':(x==n)=false:=by simpa using hy
        rw[hy'];exact h
    · rw[if_neg hk];exact h
theorem Zcg {cells:List (Str×Addr)}{x:Str}:∀{names:List (Str×W4)} {cs:List (Str×Addr)},(x,Xi)∈names->∃c,(clFrom cells names cs).lookup x=some c
  | [],_,h=>nomatch h
  | (n,k)::r,cs,h=>by
    unfold clFrom
    rcases Yn.mp h with e | h
    · cases e
      refine Zcq ?_
      rw[if_pos rfl,YJ]
      simp
    · exact Zcg h
theorem Zdm {env:Env}{scope:Scope}(h:∀y∈scope.names,y.2=.free->∃c,env.cells.lookup y.1=some c):closureFor scope env=pure (clFrom env.cells scope.names []):=by
 simp only[closureFor]
 have key:∀(names:List (Str×W4)) (cs:List (Str×Addr)),(∀y∈names,y.2=.free->∃c,env.cells.lookup y.1=some c)->
   (forIn names cs fun x r=>if (x.2==Xi)=true then do let a ←cellOf env x.1;pure (WC ((x.1,a)::r)) else pure (WC r):Sem (List (Str×Addr)))=pure (clFrom env.cells names cs):=by
  intro names
  induction names with
  | nil=>intro cs _;rfl
  | cons y r ih=>
   intro cs hn
   obtain ⟨n,k⟩:=y
   rw[List.forIn_cons]
   by_cases hk:k=.free
   ·obtain ⟨c,hc⟩:=hn (n,k) Xr hk
    have hc':env.cells.lookup n=some c:=hc
    subst hk
    have e1:cellOf env n=pure c:=by unfold cellOf;rw[hc']
    show (_ >>= _)=_
    simp only[beq_self_eq_true,if_true,e1]
    unfold clFrom
    rw[if_pos rfl,hc']
    exact ih _ fun y hy=>hn y (Xf _ hy)
   ·have e2:(k==Xi)=false:=by simpa using hk
    show (_ >>= _)=_
    simp only[e2,YY,if_false]
    unfold clFrom
    rw[if_neg hk]
    exact ih _ fun y hy=>hn y (Xf _ hy)
 rw[key scope.names [] h]
 rfl
section
variable {prog:Yq}{w:World}{A:Around}{R:Result->Shared->Prop}{s:Shared}
abbrev Out (prog:Yq)(w:World)(A:Around)(env:Env)(R:Result->Shared->Prop):Value->Shared->Prop:=notedBy 3e9 A env fun e s'=>R (.error e) s'
noncomputable abbrev testsOf (env:Env)(ifs:4e8):Sem Bool:=forIn ifs true fun c r=>if r=true then do let ok ←isTrue c env (eval c env);pure (WC ok) else pure (WC r)
theorem compLoop_any {elt target iter:Expr}{ifs:4e8}{scope:Scope}{pos:Pos}{it acc:Value}{env:Env}(I:Nat->Shared->Prop)
  (turn:∀k z,I k z->wpAny 3e9 A (pyNext it) (fun r z1=>match r with
   | none=>R (.ok .next) z1
   | some v=>wpAny 3e9 A (W0 target it v) (fun _ z2=>wpAny 3e9 A (assign target env v) (fun _ z3=>wpAny 3e9 A (testsOf env ifs) (fun yes z4=>
     if yes=true then wpAny 3e9 A (eval elt env) (fun x z5=>wpAny 3e9 A (call (.builtin "list.append") [acc,x]) (fun _ z6=>∃m,m < k/\I m z6) (Out prog w A env R) z5) (Out prog w A env R) z4
     else ∃m,m < k/\I m z4) (Out prog w A env R) z3) (Out prog w A env R) z2) (Out prog w A env R) z1) (Out prog w A env R) z)
  (n:Nat) (h:I n s):Uf 3e9 A (.compLoop (.ListComp elt [⟨target,iter,ifs,0⟩] scope pos) 0 it acc env) R s:=by
 refine codeAny_loop rfl I ?_ n h
 intro k z hz
 refine wpAny_noted ?_
 rw[compTurn_list]
 apply Yb
 apply wpAny_standAt
 apply Yb
 refine X2 (turn k z hz) ?_ fun _ _ e=>e
 rintro (_ | v) z1 y1
 ·exact Ye y1
 apply Yb
 refine X2 y1 (fun _ z2 y2=>?_) fun _ _ e=>e
 apply Yb
 refine X2 y2 (fun _ z3 y3=>?_) fun _ _ e=>e
 apply Yb
 refine X2 y3 (fun yes z4 y4=>?_) fun _ _ e=>e
 by_cases b:yes=true
 ·subst b
  apply Yb
  apply Yb
  refine X2 y4 (fun x z5 y5=>?_) fun _ _ e=>e
  apply Yb
  exact X2 y5 (fun _ z6 y6=>Ye (Ye ⟨rfl,y6⟩)) fun _ _ e=>e
 ·have nb:yes=false:=by simpa using b
  subst nb
  exact Ye ⟨rfl,y4⟩
end
def CompCx (X:Cx)(N':4e6)(scope:Scope)(C:Addr)(s₀:Shared)(H₀:Hp)(ex:3e1)(pn:2e0):Cx:=
 { X with N:=N',s₀:=s₀,H₀:=H₀,env:=compEnvC scope (clFrom X.env.cells scope.names []) C X.env,outer:=X.stack,ex:=ex,fn:=fun _=>false,pn:=pn,xe:=fun _ _=>False }
structure CSc (X:Cx)(scope:Scope)(vs fs:List Str)(fr:List Nat):Prop where
 kind:scope.kind=.function
 cell:(scope.names.all fun y=>y.2 != .cell)=true
 free:(scope.names.all fun y=>y.2 != .free||(X.env.kindOf y.1==some .cell||X.env.kindOf y.1==some .free))=true
 loc:(scope.names.all fun y=>y.2 != .local||scope.names.lookup y.1==some .local)=true
 fre:(scope.names.all fun y=>y.2 != .free||scope.names.lookup y.1==some .free)=true
 fsf:(fs.all fun x=>scope.names.lookup x==some .free)=true
 at':fr.map (fun i=>X.N[i]?)=fs.map some
def PTs (X:Cx)(ifs:4e8)(t:TT):Prop:=
 ∀(pins:2e0) (s:Shared) (σ:St) (H:Hp) (Q:Bool->Hp->Prop),Inv X pins σ H s->t σ H Q->
  wpAny 3e0 X.A (forIn ifs true fun c r=>if r=true then do let ok ←isTrue c X.env (eval c X.env);pure (WC ok) else pure (WC r)) (TP X pins σ Q) X.xe s
noncomputable def tYes:TT:=fun _ H Q=>Q true H
theorem pts_nil {X:Cx}:PTs X [] tYes:=fun _ _ _ H _ I h=>wpAny_tests_nil ⟨H,I,h⟩
theorem pts_one {X:Cx}{c:Expr}{t:TT}(h:PT X c t):PTs X [c] t:=fun pins s σ H Q I q=>wpAny_tests_one (h pins s σ H Q I q)
noncomputable def stIn (vs:4e6)(fr:List Nat)(σ:St):St:=vs.map (fun _=>none)++fr.map fun i=>(σ[i]?).join
def CompW (J:It)(vs:4e6)(fr:List Nat)(g:TG)(tt:TT)(te:TE)(σ:St)(H1:Hp)(Q:VK):Prop:=
 ∃W:Nat->Nat->St->List V->Hp->Prop,(∃m,W 0 m (stIn vs fr σ) [] H1)/\∀i m σ' ys H,W i m σ' ys H->
  (J.stop i H/\ys.length<=Yu/\∀D,H D=none->Q (.ref D) (upd H D (.lst ys)))\/
  (J.go i H/\ys.length<=Yu/\∃N:St->List V->Hp->Prop,(∀σ2 ys2 H2,N σ2 ys2 H2->∃m',m' < m/\W (i + 1) m' σ2 ys2 H2)/\∀x H',J.yld i H x H'->g x σ' H' fun σ2 H2=>tt σ2 H2 fun b H3=>
   if b=true then te σ2 H3 fun y H4=>N σ2 (ys++[y]) H4 else N σ2 ys H3)
noncomputable def tComp (wi:TI)(vs:4e6)(fr:List Nat)(g:TG)(tt:TT)(te:TE):TE:=fun σ H Q=>wi σ H fun J H1=>CompW J vs fr g tt te σ H1 Q
section
variable {X:Cx}{tg elt iter:Expr}{ifs:4e8}{scope:Scope}{pos:Pos}{vs fs:4e6}{fr:List Nat}
theorem mem_all {α:Type}{p:α->Bool}{l:List α}(h:l.all p=true){x:α}(hx:x∈l):p x=true:=Yt.mp h x hx
theorem CSc.cell' (S:CSc X scope vs fs fr):∀y∈scope.names,y.2≠.cell:=fun y hy e=>by have:=mem_all S.cell hy;rw[e] at this;simp at this
theorem CSc.free' (S:CSc X scope vs fs fr):∀y∈scope.names,y.2=.free->X.env.kindOf y.1=some .cell\/X.env.kindOf y.1=some .free:=fun y hy e=>by
 have:=mem_all S.free hy;rw[e] at this;simpa using this
theorem CSc.loc' (S:CSc X scope vs fs fr):∀y∈scope.names,y.2=.local->scope.names.lookup y.1=some .local:=fun y hy e=>by
 have:=mem_all S.loc hy;rw[e] at this;simpa using this
theorem Zbh {α β:Type} [BEq α] [LawfulBEq α]:∀{l:List (α×β)} {x:α} {k:β},l.lookup x=some k->(x,k)∈l
  | [],_,_,h=>by simp at h
  | (n,k')::r,x,k,h=>by
    rw[YJ] at h
    cases e:x==n with
    | true=>rw[e] at h;cases h;rw[eq_of_beq e];exact Xr
    | false=>rw[e] at h;exact Xf _ (Zbh h)
theorem Zby {env:Env}{x:Str}:∀{names:List (Str×W4)} {k:W4},
    (names.map fun (n,k)=>if (k==Xi&&env.scope.kind==.function&&env.kindOf n==some .cell) then (n,Wo) else (n,k)).lookup x=some k->
    names.lookup x=some k\/(k=.cell/\names.lookup x=some .free)
  | [],_,h=>by simp at h
  | (n,k')::r,k,h=>by
    have ih:=@Zby env x r k
    have h':List.lookup x ((if (k'==Xi&&env.scope.kind==.function&&env.kindOf n==some .cell)=true then (n,Wo) else (n,k'))::(r.map fun (n,k)=>if (k==Xi&&env.scope.kind==.function&&env.kindOf n==some .cell) then (n,Wo) else (n,k)))=some k:=h
    cases hx:x==n with
    | true=>
      by_cases hc:(k'==Xi&&env.scope.kind==.function&&env.kindOf n==some .cell)=true
      · rw[if_pos hc] at h'
        simp only[YJ,hx] at h' ⊢
        cases h'
        have:k'=.free:=by simp at hc;exact hc.1.1
        exact .inr ⟨rfl,by rw[this]⟩
      · rw[if_neg hc] at h'
        simp only[YJ,hx] at h' ⊢
        exact .inl h'
    | false=>
      by_cases hc:(k'==Xi&&env.scope.kind==.function&&env.kindOf n==some .cell)=true
      · rw[if_pos hc] at h'
        simp only[YJ,hx] at h' ⊢
        exact ih h'
      · rw[if_neg hc] at h'
        simp only[YJ,hx] at h' ⊢
        exact ih h'
theorem Zcl {env:Env}{x:Str}:∀{names:List (Str×W4)},names.lookup x=some .free->
    let l:=(names.map fun (n,k)=>if (k==Xi&&env.scope.kind==.function&&env.kindOf n==some .cell) then (n,Wo) else (n,k)).lookup x
    l=some .cell\/l=some .free
  | [],h=>by simp at h
  | (n,k')::r,h=>by
    have ih:=@Zcl env x r
    show List.lookup x ((if (k'==Xi&&env.scope.kind==.function&&env.kindOf n==some .cell)=true then (n,Wo) else (n,k'))::(r.map fun (n,k)=>if (k==Xi&&env.scope.kind==.function&&env.kindOf n==some .cell) then (n,Wo) else (n,k)))=some .cell\/
      List.lookup x ((if (k'==Xi&&env.scope.kind==.function&&env.kindOf n==some .cell)=true then (n,Wo) else (n,k'))::(r.map fun (n,k)=>if (k==Xi&&env.scope.kind==.function&&env.kindOf n==some .cell) then (n,Wo) else (n,k)))=some .free
    cases hx:x==n with
    | true=>
      simp only[YJ,hx] at h
      have h:k'=.free:=YA h
      by_cases hc:(k'==Xi&&env.scope.kind==.function&&env.kindOf n==some .cell)=true
      · rw[if_pos hc,YJ,hx];exact .inl rfl
      · rw[if_neg hc,YJ,hx,h];exact .inr rfl
    | false=>
      simp only[YJ,hx] at h
      by_cases hc:(k'==Xi&&env.scope.kind==.function&&env.kindOf n==some .cell)=true
      · rw[if_pos hc];simp only[YJ,hx];exact ih h
      · rw[if_neg hc];simp only[YJ,hx];exact ih h
end
section
variable {X:Cx}{tg elt iter:Expr}{ifs:4e8}{scope:Scope}{pos:Pos}{vs fs:4e6}{fr:List Nat}
theorem CSc.clos (S:CSc X scope vs fs fr)(ok:X.Ok):∀y∈scope.names,y.2=.free->∃c,X.env.cells.lookup y.1=some c:=fun y hy e=>ok.has y.1 (S.free' y hy e)
theorem CSc.cl (S:CSc X scope vs fs fr)(ok:X.Ok){x:Str}{c:Addr}(e:(clFrom X.env.cells scope.names []).lookup x=some c):X.env.cells.lookup x=some c:=
 Zc7 (S.clos ok) (fun _ _ q=>by simp at q) x c e
theorem Zbe {h:Heap}{b:Addr}{o:Obj}{n:Nat}(e:h.get? b=some o)(hn:h.objs.size<=n):b≠n:=Yo (Yv (Ys e) hn)
theorem comp_start {pins:2e0}{σ:St}{H:Hp}{s:Shared}{fp:3e1}{C:Addr}{h1:Heap}{tk:Nat}{m1:2e2}(S:CSc X scope vs fs fr)(I:2e3)
  (hf:∀b∈fp,FpOk X pins H b) (hfo:∀b∈fp,∃o,s.heap.get? b=some o) (hC:s.heap.objs.size<=C) (hn:h1.Ns C m1) (old:∀b o,s.heap.get? b=some o->h1.get? b=some o):
  Inv (CompCx X (vs++fs) scope C s H fp (X.pn++pins)) [] (stIn vs fr σ) H { s with heap:=h1,toks:=tk }:=by
 have cl:=fun x c e=>S.cl I.ok (x:=x) (c:=c) e
 have hsub:=I.stkSub
 have cellLt:∀x c,X.env.cells.lookup x=some c->c < s.heap.objs.size:=fun x c e=>by obtain ⟨v,q⟩:=I.cell x c e;exact q.lt
 refine ⟨⟨I.ok.mod,S.kind,I.ok.glob,I.ok.blt,hC,fun x y c e1 e2=>I.ok.inj x y c (cl x c e1) (cl y c e2),fun x hx=>?_,fun _ _ z _=>(nomatch z),I.ok.hd,I.ok.frames,.inl rfl,fun b hb=>?_,I.bs,YG I.ok.bsz I.sz,fun b o e hb=>?_,fun b hb z=>?_,I.stack,I.stkFree⟩,
  rfl,I.bare,Un.kept old,⟨m1,hn,fun i x v e1 e2 e3=>?_⟩,fun x c e=>?_,I.hok.fresh hC,fun x c e=>I.freeC x c (cl x c e),fun p hp=>?_,I.hok.kept old,?_⟩
 ·-- has
  have hx':(relabel scope X.env).names.lookup x=some .cell\/(relabel scope X.env).names.lookup x=some .free:=hx
  have:scope.names.lookup x=some .free:=by
   rcases hx' with q | q
   ·rcases Zby q with q | ⟨_,q⟩
    ·exact absurd rfl (S.cell' _ (Zbh q))
    ·exact q
   ·rcases Zby q with q | ⟨q,_⟩
    ·exact q
    ·cases q
  exact Zcg (Zbh this)
 ·-- exf
  obtain ⟨o,ho⟩:=hfo b hb
  obtain ⟨f0,f1,f2,f3,f4,f5⟩:=hf b hb
  exact ⟨Zbe ho hC,fun x c e=>f4 x c (cl x c e)⟩
 ·-- noex
  have e':=(I.ok.bs b o e).1
  obtain ⟨_,_,_,f3,_,_⟩:=hf b hb
  rcases f3 with z | z
  ·exact I.ok.noex b o e z
  ·exact absurd (Yv (Ys e') z) (Wj _)
 ·-- exfs
  obtain ⟨_,f1,f2,_⟩:=hf b hb
  rcases Yn.mp (hsub b z) with q | q
  ·exact f1 q
  ·exact f2 q
 ·-- loc
  have e1:(vs++fs)[i]? = some x:=e1
  unfold stIn at e2
  by_cases hi:i < vs.length
  ·rw[Yf (by simpa using hi)] at e2
   simp[hi] at e2
  ·rw[YW (by simpa using hi),Yr,YK] at e2
   rw[YW (by simpa using hi)] at e1
   obtain ⟨j,hj⟩:∃j,fr[i - vs.length]? = some j:=by
    cases q:fr[i - vs.length]? with
    | none=>rw[q] at e2;cases e2
    | some j=>exact ⟨j,rfl⟩
   rw[hj] at e2
   have e2':(σ[j]?).join=some v:=YA e2
   have hσ:σ[j]? = some (some v):=by
    cases q:σ[j]? with
    | none=>rw[q] at e2';cases e2'
    | some r=>rw[q] at e2';exact congrArg some e2'
   have hN:X.N[j]? = some x:=by
    have:=congrArg (fun l=>l[i - vs.length]?) S.at'
    simp only[YK,hj,e1,Vz] at this
    exact YA this
   have hxf:scope.names.lookup x=some .free:=by
    have:=mem_all S.fsf (Xc e1)
    simpa using this
   have hk:=S.free' _ (Zbh hxf) rfl
   obtain ⟨m,hm,hl⟩:=I.loc
   have hvis:Vis X.env.scope x:=by
    rcases hk with k | k
    ·exact .inr (.inl k)
    ·exact .inr (.inr k)
   obtain ⟨u,ru,lk⟩:=hl j x v hN hσ hvis
   refine ⟨u,ru,?_⟩
   rcases lk with ⟨k,_⟩ | ⟨_,c,hc,hv⟩
   ·have k':X.env.kindOf x=some .local:=k
    rcases hk with z | z
    ·have z':X.env.kindOf x=some .cell:=z
     rw[k'] at z';cases z'
    ·have z':X.env.kindOf x=some .free:=z
     rw[k'] at z';cases z'
   ·obtain ⟨c',hc'⟩:=Zcg (cells:=X.env.cells) (cs:=[]) (Zbh hxf)
    have:=cl x c' hc'
    rw[hc] at this
    cases this
    refine .inr ⟨Zcl hxf,c,hc',?_⟩
    obtain ⟨o,ho,hd⟩:=hv
    exact ⟨o,old c o ho,hd⟩
 ·-- cell
  obtain ⟨v,o,ho,hd⟩:=I.cell x c (cl x c e)
  exact ⟨v,o,old c o ho,hd⟩
 ·-- pin
  have hp':p∈X.pn++pins:=by simpa[CompCx] using hp
  obtain ⟨e,n,ne,nf,d⟩:=I.pin p hp'
  refine ⟨old _ _ e,n,Zbe e hC,fun z=>?_,d⟩
  rcases Yn.mp (hsub _ z) with q | q
  ·exact ne q
  ·exact nf q
 ·show (stIn vs fr σ).length=(vs++fs).length
  have:=congrArg List.length S.at'
  simp only[Yr] at this
  unfold stIn
  simp[this]
theorem comp_back {pins:2e0}{σ σ':St}{H H':Hp}{s s':Shared}{fp:3e1}{C D:Addr}{ys:List V}{its:3e5}{n:Nat}{pl:2e0}(I:2e3)
  (hf:∀b∈fp,FpOk X pins H b) (J:Inv (CompCx X (vs++fs) scope C s H fp (X.pn++pins)) pl σ' H' s')
  (hD:s.heap.objs.size<=D) (hDn:H' D=none) (hl:ys.length<=Yu) (r:Vals ys its) (ho:s'.heap.get? D=some { cls:=.type "list",data:=.seq its.toArray n }):Inv X pins σ (upd H' D (.lst ys)) s':=by
 have ne:∀b o,s.heap.get? b=some o->b≠D:=fun b o e=>Zbe e hD
 have u:Un (frs X.stack) fp H H' s.heap s'.heap:=J.base
 refine I.call' (ch:=fp) J.os ⟨u.keep,u.slot,fun b o e q hx=>?_,u.there,fun b xs e=>?_,fun b o xs e=>?_,fun b ps e=>?_⟩ (fun b o e=>?_) J.bare fun b hb=>?_
 ·rw[Zax (ne b o e)];exact u.free b o e q hx
 ·rw[Zax (Zaq (u.tups b xs e) hDn)];exact u.tups b xs e
 ·rw[Zax (Zaq (u.frzs b o xs e) hDn)];exact u.frzs b o xs e
 ·obtain ⟨more,q⟩:=u.tbls b ps e
  exact ⟨more,by rw[Zax (Zaq q hDn)];exact q⟩
 ·by_cases hb:b=D
  ·subst hb
   rw[ZaU] at e;cases e
   exact ⟨hl,its,n,r,ho⟩
  ·rw[Zax hb] at e
   exact (J.hok b o e).stay (fun _ _ _ q=>q) (fun c q=>by rw[Zax (Zaq q hDn)];exact q) fun c xs q=>by rw[Zax (Zaq q hDn)];exact q
 ·obtain ⟨f0,f1,f2,f3,f4,f5⟩:=hf b hb
  exact ⟨f3,f1,f4,f5⟩
end
section
variable {X:Cx}{tg elt iter:Expr}{ifs:4e8}{scope:Scope}{pos:Pos}{vs fs:4e6}{fr:List Nat}{g:TG}{tt:TT}{te:TE}
theorem no_xe {α:Type}{M:Model}{A:Around}{t:Sem α}{Q Q':α->Shared->Prop}{E:1e4}{s:Shared}(h:wpAny M A t Q (fun _ _=>False) s)(hQ:∀a s,Q a s->Q' a s):wpAny M A t Q' E s:=
 X2 h hQ fun _ _ f=>Wu f
theorem Zdl {pins:2e0}{σ:St}{H:Hp}{s:Shared}{Q:VK}{it:Addr}{fp:3e1}{tn:Nat->Heap->Prop}{J:It}{RR:Value->Addr->Result->Shared->Prop}
  (S:CSc X scope vs fs fr) (hc:X.calm=true)
  (bG:∀C s₀ H₀ ex pn,PG 5e8 tg g) (bT:∀C s₀ H₀ ex pn,PTs 5e8 ifs tt) (bE:∀C s₀ H₀ ex pn,PE 5e8 elt te)
  (I:2e3) (T:Turn X.prog X.w X.K tg J fp it tn) (st:tn 0 s.heap) (hf:∀b∈fp,FpOk X pins H b)
  (q:CompW J vs fr g tt te σ H Q)
  (hRR:∀D C H' s' m',Inv X pins σ H' s'->Q (.ref D) H'->s'.heap.Ns C m'->H' C=none->s.heap.objs.size<=C->RR (.ref D) C (.ok .next) s'):
  wpAny 3e0 X.A (newList []) (fun acc s₃=>wpAny 3e0 X.A (newFunctionEnv scope X.env.globals (clFrom X.env.cells scope.names []) [] X.env.qual none .none (some X.env)) (fun cenv s₄=>
   Uf (model X.prog X.w) X.A (.compStart (.ListComp elt [⟨tg,iter,ifs,0⟩] scope pos) 0 (.ref it) acc { cenv with scope:=relabel scope X.env }) (RR acc cenv.locals) s₄) X.xe s₃) X.xe s:=by
 obtain ⟨W,⟨m0,w0⟩,turn⟩:=q
 refine XA (wpAny_newFunctionEnv S.cell' (by intro y hy;simp at hy) (fun h₁ hns₁ hsb₁=>?_) S.kind)
 dsimp only at hns₁ hsb₁ ⊢
 generalize hH2:s.heap.push { cls:=.type "list",dict:=none,data:=.seq ([]:List Value).toArray }=H2 at hns₁ hsb₁ ⊢
 have hCs:H2.objs.size=s.heap.objs.size + 1:=by rw[←hH2,Heap.size_push]
 have hDC:s.heap.objs.size≠H2.objs.size:=by rw[hCs];exact Yo (Vr _)
 have hCle:s.heap.objs.size<=H2.objs.size:=by rw[hCs];exact Nat.le_succ _
 have old:∀b o,s.heap.get? b=some o->h₁.get? b=some o:=fun b o e=>hsb₁.extBut b o (Zbe e hCle) (Yc _ (hH2 ▸ Yc _ e))
 have hacc:h₁.get? s.heap.objs.size=some { cls:=.type "list",data:=.seq ([]:List Value).toArray 0 }:=hsb₁.extBut _ _ hDC (Yc _ (hH2 ▸ Yp _ rfl))
 have hfo:∀b∈fp,∃o,s.heap.get? b=some o:=fun b hb=>by obtain ⟨o,e,_⟩:=T.obj 0 _ st b hb;exact ⟨o,e⟩
 generalize hY:CompCx X (vs++fs) scope H2.objs.size s H fp (X.pn++pins)=Y
 have J0:Inv Y [] (stIn vs fr σ) H { s with heap:=h₁,toks:=s.toks + ([]:List (Str×Value)).length }:=by
  rw[←hY];exact comp_start S I hf hfo hCle hns₁ old
 have hG:PG Y tg g:=by rw[←hY];exact bG _ _ _ _ _
 have hT:PTs Y ifs tt:=by rw[←hY];exact bT _ _ _ _ _
 have hE:PE Y elt te:=by rw[←hY];exact bE _ _ _ _ _
 have ePr:Y.prog=X.prog:=by rw[←hY];rfl
 have eW:Y.w=X.w:=by rw[←hY];rfl
 have eK:Y.K=X.K:=by rw[←hY];rfl
 have eA:Y.A=X.A:=by rw[←hY];rfl
 have eC:Y.calm=true:=by rw[←hY];exact hc
 have eEnv:Y.env=compEnvC scope (clFrom X.env.cells scope.names []) H2.objs.size X.env:=by rw[←hY];rfl
 have eL:Y.env.locals=H2.objs.size:=by rw[eEnv];rfl
 have eX:Y.xe=fun _ _=>False:=by rw[←hY];rfl
 have eS:Y.s₀=s:=by rw[←hY];rfl
 have eEx:Y.ex=fp:=by rw[←hY];rfl
 have eFs:Y.fs=frs X.stack:=by rw[←hY];rfl
 have ePn:Y.pn=X.pn++pins:=by rw[←hY];rfl
 have eCl:∀x c,Y.env.cells.lookup x=some c->X.env.cells.lookup x=some c:=fun x c e=>by
  rw[eEnv] at e;exact S.cl I.ok e
 have cellLt:∀x c,Y.env.cells.lookup x=some c->c≠s.heap.objs.size:=fun x c e=>by
  obtain ⟨v,z⟩:=I.cell x c (eCl x c e);exact Yo z.lt
 have pnLt:∀p∈Y.pn,p.1≠s.heap.objs.size:=fun p hp=>by
  rw[ePn] at hp;exact Zbe (I.pin p hp).1 (Yk _)
 have fpD:∀b∈fp,b≠s.heap.objs.size:=fun b hb=>by obtain ⟨o,e⟩:=hfo b hb;exact Zbe e (Yk _)
 have hDfs:s.heap.objs.size∉Y.fs:=fun z=>by
  rw[eFs] at z
  rcases Yn.mp (I.stkSub _ z) with z | z
  ·exact absurd I.lt (by rw[←z];exact Wj _)
  ·exact I.nofs (Yk _) z
 have stat:∀{H':Hp} {o:Obj},(∀b∈fp,H' b=none)->∀b∈fp,FpOk Y [(s.heap.objs.size,o)] H' b:=fun {H' o} hn b hb=>by
  obtain ⟨f0,f1,f2,f3,f4,f5⟩:=hf b hb
  obtain ⟨ob,e⟩:=hfo b hb
  refine ⟨hn b hb,by rw[eL];exact Zbe e hCle,fun z=>?_,.inl (by rw[eEx];exact hb),fun x c e=>f4 x c (eCl x c e),fun p hp=>?_⟩
  ·rw[eFs] at z
   rcases Yn.mp (I.stkSub _ z) with z | z
   ·exact f1 z
   ·exact f2 z
  ·rcases YX.mp hp with hp | hp
   ·rw[ePn] at hp;exact f5 p hp
   ·have:p=(s.heap.objs.size,o):=by simpa using hp
    rw[this];exact XT (fpD b hb)
 have pinD:∀{σ':St} {H':Hp} {s':Shared} {its:3e5} {k:Nat},Inv Y [] σ' H' s'->H' s.heap.objs.size=none->s'.heap.get? s.heap.objs.size=some { cls:=.type "list",data:=.seq its.toArray k }->
   Inv Y [(s.heap.objs.size,{ cls:=.type "list",data:=.seq its.toArray k })] σ' H' s':=fun {σ' H' s' its k} i hn e=>i.pins_of fun p hp=>by
  have:p=(s.heap.objs.size,{ cls:=.type "list",data:=.seq its.toArray k }):=by simpa using hp
  subst this
  exact ⟨e,hn,by rw[eL];exact hDC,hDfs,fun v z=>by cases z⟩
 have loop:∀s₃:Shared,s₃={ s with heap:=h₁,toks:=s.toks + ([]:List (Str×Value)).length }->
   Uf 3e0 X.A (.compLoop (.ListComp elt [⟨tg,iter,ifs,0⟩] scope pos) 0 (.ref it) (.ref s.heap.objs.size) (compEnvC scope (clFrom X.env.cells scope.names []) H2.objs.size X.env))
    (RR (.ref s.heap.objs.size) H2.objs.size) s₃:=by
  rintro s₃ rfl
  rw[←eEnv,←ePr,←eW,←eA]
  refine compLoop_any (fun n s'=>∃i σ' ys its k H',Inv Y [(s.heap.objs.size,{ cls:=.type "list",data:=.seq its.toArray k })] σ' H' s'/\Vals ys its/\tn i s'.heap/\(∀b∈fp,H' b=none)/\W i n σ' ys H') ?_ m0
   ⟨0,_,[],[],0,H,pinD J0 (I.hok.fresh (Yk _)) hacc,.nil,T.keep _ _ _ st fun b _ o e=>old b o e,fun b hb=>(hf b hb).1,w0⟩
  rintro n s3 ⟨i,σ3,ys,its,k,H3,J3,rv,st3,fr3,w3⟩
  have pD:=J3.pin (s.heap.objs.size,_) (YI _ (YD.mpr rfl))
  have eI:=rv.length
  rcases turn i n σ3 ys H3 w3 with ⟨stop,hlen,qn⟩ | ⟨go,hlen,N,hN,step⟩
  ·have dn:=T.done Y ePr eW eK eC i _ s3 σ3 H3 (fun _ _=>False) J3 (stat fr3) st3 stop
   rw[←ePr,←eW] at dn
   refine no_xe dn fun r s4 h_=>?_
   obtain ⟨hr,J4⟩:=h_
   subst hr
   have pD4:=J4.pin (s.heap.objs.size,_) (YI _ (YD.mpr rfl))
   obtain ⟨m4,hm4,_⟩:=id J4.loc
   rw[eL] at hm4
   have nC:H3 H2.objs.size=none:=by rw[←eL];exact J4.free
   refine hRR _ _ _ s4 m4 (comp_back I hf (by rw[hY];exact J4) (Yk _) pD4.2.1 hlen rv pD4.1) (qn _ pD4.2.1) hm4 ?_ hCle
   rw[Zax (XT hDC)];exact nC
  ·have im:=T.item Y ePr eW eK eC i _ s3 σ3 H3 (fun _ _=>False) J3 (stat fr3) st3 go
   rw[←ePr,←eW] at im
   refine no_xe im fun r s4 h_=>?_
   obtain ⟨u,hr,h4⟩:=h_
   subst hr
   refine no_xe h4 fun _ s5 h_=>?_
   obtain ⟨x,H5,J5,r5,y5,st5,fr5⟩:=h_
   have J5':=J5.pinned (stat fr5) (T.obj _ _ st5)
   have go1:=hG _ s5 σ3 H5 x u _ J5' r5 (step x H5 y5)
   rw[eX] at go1
   refine no_xe go1 fun _ s6 h_=>?_
   obtain ⟨σ6,H6,J6,q6⟩:=h_
   have go2:=hT _ s6 σ6 H6 _ J6 q6
   rw[eX] at go2
   refine no_xe go2 fun ok s7 h_=>?_
   obtain ⟨H7,J7,q7⟩:=h_
   have fin:∀{σ8:St} {H8:Hp} {s8:Shared},Inv Y ([(s.heap.objs.size,{ cls:=.type "list",data:=.seq its.toArray k })]++pinsAt fp s5.heap) σ8 H8 s8->
     tn (i + 1) s8.heap/\(∀b∈fp,H8 b=none):=fun {σ8 H8 s8} J8=>by
    refine ⟨T.keep _ _ _ st5 fun b hb o e=>(J8.pin (b,o) (YI _ (YI _ (ZbD hb e)))).1,fun b hb=>?_⟩
    obtain ⟨o,e,d⟩:=T.obj _ _ st5 b hb
    exact (J8.pin (b,o) (YI _ (YI _ (ZbD hb e)))).2.1
   cases ok with
   | false=>
    rw[if_neg Yi] at q7 ⊢
    obtain ⟨m',hm,w7⟩:=hN _ _ _ q7
    exact ⟨m',hm,i + 1,σ6,ys,its,k,H7,J7.unpinned,rv,(fin J7).1,(fin J7).2,w7⟩
   | true=>
    rw[if_pos rfl] at q7 ⊢
    have go3:=hE _ s7 σ6 H7 _ J7 q7
    rw[eX] at go3
    refine no_xe go3 fun yv s8 h_=>?_
    obtain ⟨y,H8,J8,r8,n8⟩:=h_
    obtain ⟨m',hm,w8⟩:=hN _ _ _ n8
    have pD8:=J8.pin (s.heap.objs.size,_) (YI _ (Xm _ (YD.mpr rfl)))
    refine append_at (hsz:=by rw[Yh,←eI];exact hlen) pD8.1 fun h9 hs9 hD9=>?_
    have J9:Inv Y [] σ6 H8 { s8 with heap:=h9 }:=(J8.pins_of (pins':=[]) fun p hp=>absurd hp (by simp)).turned (t':=s8.toks) (fun b o hb e=>(hs9.2 b hb).trans e) pD8.2.1 (by rw[eL];exact hDC)
     (.inr (by rw[eS];exact Yk _)) cellLt fun p hp=>pnLt p (by simpa using hp)
    refine ⟨m',hm,i + 1,σ6,ys++[y],its++[yv],k + 1,H8,pinD J9 pD8.2.1 (by rw[hD9,List.push_toArray]),Vals.append rv (.cons r8 .nil),?_,(fin J8).2,w8⟩
    exact T.keep _ _ _ (fin J8).1 fun b hb o e=>(hs9.2 b (fpD b hb)).trans e
 exact codeAny_compStart_list (loop _ rfl) (T.self _ 0 _ _ _ (T.keep _ _ _ st fun b _ o e=>old b o e) (loop _ rfl))
theorem pe_comp {wi:TI}(S:CSc X scope vs fs fr)(hc:X.calm=true)(hi:PI X tg iter wi)
  (bG:∀C s₀ H₀ ex pn,PG 5e8 tg g) (bT:∀C s₀ H₀ ex pn,PTs 5e8 ifs tt) (bE:∀C s₀ H₀ ex pn,PE 5e8 elt te)
  (hs:∀x,XX iter X.env x=pure x:=by intro _;rfl):
  PE X (.ListComp elt [⟨tg,iter,ifs,0⟩] scope pos) (tComp wi vs fr g tt te):=by
 intro pins s σ H Q I h
 rw[eval_ListComp]
 refine wpAny_comprehension_free (use:=none) rfl hs (Zdm (S.clos I.ok)) S.kind S.loc' (thn (hi pins s σ H _ I h) fun v s1 h1=>thn h1 fun itv s2 h2=>?_)
 obtain ⟨it,fp,tn,J,H2,e,I2,T,st2,f2,q2⟩:=h2
 subst e
 refine Zdl (RR:=fun acc C=>compPost 3e0 X.A X.xe none (EP X pins σ Q) acc C) S hc bG bT bE I2 T st2 f2 q2 ?_
 intro D C H' s' m' I' hq hn hC hle
 refine ⟨m',hn,fun h' hs'=>⟨.ref D,H',?_,rfl,hq⟩⟩
 refine I'.turned (t':=s'.toks) (fun b o hb e=>(hs'.2 b hb).trans e) hC ?_ (.inr (YG I2.sz hle)) ?_ ?_
 ·exact X3 (Yv I2.lt hle)
 ·intro x c e
  obtain ⟨v,z⟩:=I2.cell x c e
  exact Yo (Yv z.lt hle)
 ·intro p hp
  exact Zbe (I2.pin p hp).1 hle
theorem ps_comp {wi:TI}{i:Nat}{x:Str}{px spos:Pos}(hN:X.N.Nodup)(hx:X.N[i]? = some x)(hl:X.env.scope.names.lookup x=some .local)
  (S:CSc X scope vs fs fr) (hc:X.calm=true) (hi:PI X tg iter wi)
  (bG:∀C s₀ H₀ ex pn,PG 5e8 tg g) (bT:∀C s₀ H₀ ex pn,PTs 5e8 ifs tt) (bE:∀C s₀ H₀ ex pn,PE 5e8 elt te)
  (hsw:WZ (.ListComp elt [⟨tg,iter,ifs,0⟩] scope pos) (some (.Name x px)) spos.line X.env=pure true:=by rfl)
  (hs:∀x,XX iter X.env x=pure x:=by intro _;rfl):
  PS X (.Assign [.Name x px] (.ListComp elt [⟨tg,iter,ifs,0⟩] scope pos) spos) (fun D σ H=>tComp wi vs fr g tt te σ H fun v H1=>D.nx (σ.set i (some v)) H1):=by
 intro pins s σ H D I h
 rw[exec_Assign_Name_used _ _ _ _ hsw]
 refine Yb (wpAny_standAt (Yb ?_))
 show wpAny _ X.A (do let _ ←comprehension (.ListComp elt [⟨tg,iter,ifs,0⟩] scope pos) scope X.env _ (newList []) false (eval iter X.env) (some (assign (.Name x px) X.env))) _ _ s
 refine Yb (X2 (wpAny_comprehension_free (use:=some (assign (.Name x px) X.env)) (Q:=fun _ s'=>SP X pins D .next s') rfl hs (Zdm (S.clos I.ok)) S.kind S.loc'
  (thn (hi pins s σ H _ I h) fun v s1 h1=>thn h1 fun itv s2 h2=>?_)) (fun _ s' hq=>Ye (Ye hq)) fun _ _ e=>e)
 obtain ⟨it,fp,tn,J,H2,e,I2,T,st2,f2,q2⟩:=h2
 subst e
 refine Zdl (RR:=fun acc C=>compPost 3e0 X.A X.xe (some (assign (.Name x px) X.env)) (fun _ s'=>SP X pins D .next s') acc C) (Q:=fun v H1=>D.nx (σ.set i (some v)) H1) S hc bG bT bE I2 T st2 f2 q2 ?_
 intro Dd C H' s' m' I' hq hn hC hle
 show wpAny _ X.A (assign (.Name x px) X.env (.ref Dd)) _ _ _
 have hCL:C≠X.env.locals:=X3 (Yv I2.lt hle)
 have hCc:∀x c,X.env.cells.lookup x=some c->c≠C:=fun x c e=>by
  obtain ⟨v,z⟩:=I2.cell x c e
  exact Yo (Yv z.lt hle)
 refine wpAny_assign_Name (store_ok2 I' hN hx (.inl hl) (v:=.ref Dd) rfl (fun s'' I'' hch=>?_) (.inr hl))
 obtain ⟨a,hs'',ha⟩:=hch
 have hCa:C≠a:=by
  rcases ha with rfl | ha
  ·exact hCL
  ·exact XT (hCc x a ha)
 refine ⟨m',hn.sameBut hs'' hCa,fun h' hs'=>⟨σ.set i (some (.ref Dd)),H',?_,hq⟩⟩
 refine I''.turned (t':=s''.toks) (fun b o hb e=>(hs'.2 b hb).trans e) hC hCL (.inr (YG I2.sz hle)) hCc ?_
 intro p hp
 exact Zbe (I2.pin p hp).1 hle
end
section
variable {X:Cx}
noncomputable def Its (z:Str):It:=⟨fun i _=>i < z.cps.size,fun i H x H'=>H'=H/\∃c,z.cps[i]? = some c/\x=.str ⟨#[c]⟩,fun i _=>i=z.cps.size⟩
theorem turn_str {P:Yq}{w:World}{K:W.Frag}{tg:Expr}{it:Addr}{z:Str}{t:Tok}{ty:String}(hty:ty="str_ascii_iterator"\/ty="str_iterator"):Turn P w K tg (Its z) [it] it (fun i h=>h.IsStrIter it ty z t i) where
 mem:=by simp
 obj:=fun i h st b hb=>by
  have e:b=it:=by simpa using hb
  subst e
  obtain ⟨o,e,c,d⟩:=st
  exact ⟨o,e,fun v z=>by rw[d] at z;cases z⟩
 keep:=fun i h h' st k=>by
  obtain ⟨o,e,c,d⟩:=st
  exact ⟨o,k it 3e4 o e,c,d⟩
 item:=by
  intro X hP hw hK hc i pins s σ H E I hf st hg
  subst hP hw hK
  obtain ⟨f0,f1,f2,f3,f4,f5⟩:=hf it 3e4
  have fin:∀v h' tk,SignAt z i v->h'.IsStrIter it ty z t (i + 1)->(∀b o,b∉[it]->s.heap.get? b=some o->h'.get? b=some o)->
    ∃u,some v=some u/\wpAny 3e0 X.A (W0 tg (.ref it) u) (fun _ s2=>∃x H',Inv X pins σ H' s2/\RelV x u/\(Its z).yld i H x H'/\s2.heap.IsStrIter it ty z t (i + 1)/\∀b∈[it],H' b=none) E { s with heap:=h',toks:=tk }:=fun v h' tk hv st' kk=>by
   obtain ⟨c,u,hcx,rfl⟩:=hv
   have I1:Inv X pins σ H { s with heap:=h',toks:=tk }:=I.turned (fun b o hb e=>kk b o (by simpa using hb) e) f0 f1 f3 f4 f5
   obtain ⟨o,e,oc,d⟩:=id st'
   refine ⟨_,rfl,go_of (s:={ s with heap:=h',toks:=tk }) e oc d (by rcases hty with rfl | rfl<;>decide) ⟨.str ⟨#[c]⟩,H,I1,⟨u,rfl⟩,⟨rfl,c,hcx,rfl⟩,st',fun b hb=>(hf b hb).1⟩⟩
  rcases hty with rfl | rfl
  ·exact (Walks.strAscii (prog:=X.prog) (w:=X.w) (I.ok.hd hc) it z t).item i s _ _ hg st fin
  ·exact (Walks.strWide (prog:=X.prog) (w:=X.w) (I.ok.hd hc) it z t).item i s _ _ hg st fin
 done:=by
  intro X hP hw hK hc i pins s σ H E I hf st hg
  subst hP hw hK
  obtain ⟨f0,f1,f2,f3,f4,f5⟩:=hf it 3e4
  have hg:i=z.cps.size:=hg
  subst hg
  have fin:∀h' tk,(∀b o,b∉[it]->s.heap.get? b=some o->h'.get? b=some o)->(none:Option Value)=none/\Inv X pins σ H { s with heap:=h',toks:=tk }:=fun h' tk kk=>
   ⟨rfl,I.turned (fun b o hb e=>kk b o (by simpa using hb) e) f0 f1 f3 f4 f5⟩
  rcases hty with rfl | rfl
  ·exact (Walks.strAscii (prog:=X.prog) (w:=X.w) (I.ok.hd hc) it z t).done s _ _ st fin
  ·exact (Walks.strWide (prog:=X.prog) (w:=X.w) (I.ok.hd hc) it z t).done s _ _ st fin
 self:=fun _ _ _ _ _ st h=>by
  rcases hty with rfl | rfl
  ·exact wpAny_pyIter_striter_ascii st h
  ·exact wpAny_pyIter_striter_wide st h
theorem range_all (bs:List Bool):((Yg bs.length).all fun i=>bs.getD i false)=bs.all id:=by
 rw[W2]
 simp only[Yt,Y0]
 constructor
 ·intro h b hb
  obtain ⟨i,hi,e⟩:=XB hb
  have:=h i hi
  rw[YE,Ya hi] at this
  subst e
  simpa using this
 ·intro h i hi
  rw[YE,Ya hi]
  simpa using h _ (Y5 hi)
theorem call_all_bl (hc:X.calm=true):CallR X (.builtin "all") (fun xs H Q=>∃(a:Addr) (bs:List Bool),xs=[.ref a]/\SqL X.K H a (bs.map V.bl)/\Q (.bl (bs.all id)) H):=by
 intro pins s σ H xs us Q I r h
 obtain ⟨a,bs,rfl,hq,q⟩:=h
 obtain ⟨u,rfl,ru⟩:=Vals.one r
 cases (show u=Yy a from ru)
 obtain ⟨its,rv,p,hz⟩:=I.list hq
 have hlt:a < s.heap.objs.size:=by obtain ⟨o,e,_⟩:=p.isList;exact Ys e
 refine call_all_walk (VZ p.isList ?_)
 have hlen:its.toArray.size=bs.length:=by have:=rv.length;simp at this;simp[this]
 refine ⟨s.heap.objs.size,_,_,its.toArray.size,_,_,fun i=>bs.getD i false,rfl,Walks.list (by exact I.ok.hd hc) s.heap.objs.size a (Yo hlt) its.toArray,⟨⟨_,Yp _ rfl,rfl,rfl⟩,p.isList.push _⟩,?_,?_⟩
 ·intro i v s' Q' E' hv hQ'
  have hi:i < bs.length:=by
   rw[←hlen]
   exact (Array.getElem?_eq_some_iff.mp hv).1
  obtain ⟨u,e1,r1⟩:=rv.get (i:=i) (x:=V.bl bs[i]) (by simp[hi])
  have e2:its[i]? = some v:=by simpa using hv
  rw[e1] at e2
  have e3:u=v:=YA e2
  have e4:u=Vy bs[i]:=r1
  rw[←e3,e4]
  refine Xp ?_
  have:bs.getD i false=bs[i]:=by rw[YE,Ya hi];rfl
  have hQ2:Q' (bs.getD i false) s':=hQ'
  rw[this] at hQ2
  exact hQ2
 ·intro h' tk kk
  refine ⟨.bl _,H,I.kept fun b o e=>kk b o (fun z=>?_) (Yc _ e),?_,q⟩
  ·have:b=s.heap.objs.size:=by simpa using z
   exact absurd this (Yo (Ys e))
  ·show Vy _=Vy _
   rw[hlen,range_all]
theorem mt_strip:MtR X "str.strip" (fun x xs H Q=>∃(z y:Str),x=.str z/\xs=[.str y]/\z.length<=Yu/\Q (.str (Txt.stripChars z y)) H):=by
 intro pins s σ H x xs v us Q I rx rs h
 obtain ⟨z,y,rfl,rfl,hz,q⟩:=h
 obtain ⟨t,rfl⟩:=rx
 obtain ⟨u,rfl,ru⟩:=Vals.one rs
 obtain ⟨t2,rfl⟩:=ru
 exact SC.stripChars (fun t' k=>⟨.str _,H,I.tok k,⟨t',rfl⟩,q⟩) hz
end
section
variable {α:Type}
theorem ZbS {p:α->Bool}:∀{l:List α},l.all p=true->l.takeWhile p=l
 | [],_=>rfl
 | a::r,h=>by
  rw[Y9,Yd] at h
  rw[WU,h.1]
  simp[ZbS h.2]
theorem ZbR {p:α->Bool}:∀(l:List α),(l.takeWhile p).length<=l.length
 | []=>Yk _
 | a::r=>by
  rw[WU]
  split
  ·simpa using ZbR r
  ·simp
theorem ZbH {p:α->Bool}:∀{l:List α},(l.takeWhile p).length=l.length->l.all p=true
 | [],_=>rfl
 | a::r,h=>by
  rw[WU] at h
  split at h
  ·rename_i hp
   rw[Y9,hp,XV]
   exact ZbH (by simpa using h)
  ·simp at h
theorem ZbK {p:α->Bool}:∀{l:List α},l.all p=false->∃a r,l.drop (l.takeWhile p).length=a::r/\p a=false
 | [],h=>by simp at h
 | a::r,h=>by
  rw[WU]
  cases hp:p a with
  | true=>
   rw[Y9,hp,XV] at h
   obtain ⟨b,q,e,hb⟩:=ZbK (p:=p) h
   exact ⟨b,q,by simpa using e,hb⟩
  | false=>exact ⟨a,r,by simp,hp⟩
end
theorem strip_empty (z y:Str)(g:Nat->Bool)(hg:g=y.cps.contains):(Txt.stripChars z y=Ue)↔z.cps.toList.all g=true:=by
 subst hg
 unfold Txt.stripChars Txt.stripBy
 have hl:z.length=z.cps.toList.length:=by simp[Str.length]
 cases ha:z.cps.toList.all y.cps.contains with
 | true=>
  have e1:Ux y.cps.contains true z=z.length:=by
   unfold Ux;rw[if_pos rfl,ZbS ha,hl]
  have e2:UF y.cps.contains true z z.length=z.length:=by
   unfold UF;rw[if_pos rfl,hl,Vs];simp
  constructor
  ·intro _;rfl
  ·intro _
   have e3:stripped y.cps.contains true true z=Str.empty:=by
    unfold stripped
    rw[e1,e2]
    unfold W8 Ue
    simp[Nat.min_le_left]
   rw[e3]
   split
   ·rename_i hs
    unfold stripSame at hs
    rw[e1] at hs
    have hs:=(Yd _ _ ▸ hs).1
    have:z.length=0:=by simpa using hs
    have h0:z.cps.size=0:=this
    cases z with
    | mk c=>
     have:c=#[]:=Vo h0
     rw[this];rfl
   ·rfl
 | false=>
  constructor
  ·intro h
   exfalso
   obtain ⟨a,r,e,hp⟩:=ZbK ha
   have hlo:Ux y.cps.contains true z=(z.cps.toList.takeWhile y.cps.contains).length:=by unfold Ux;rw[if_pos rfl]
   have hne:z≠Str.empty:=by
    intro q;rw[q] at ha;simp[Ue] at ha
   split at h
   ·exact hne h
   ·unfold stripped at h
    have hsz:(W8 z (Ux y.cps.contains true z) (UF y.cps.contains true z (Ux y.cps.contains true z))).cps.size=0:=by rw[h];rfl
    unfold W8 at hsz
    simp only[Array.size_extract] at hsz
    have hle:UF y.cps.contains true z (Ux y.cps.contains true z)<=z.cps.size:=by
     unfold UF;rw[if_pos rfl];exact Nat.sub_le _ _
    rw[Uk hle] at hsz
    have hhi:UF y.cps.contains true z (Ux y.cps.contains true z)=z.length - ((a::r).reverse.takeWhile y.cps.contains).length:=by
     unfold UF;rw[if_pos rfl,hlo,e]
    have hdl:(z.cps.toList.drop (z.cps.toList.takeWhile y.cps.contains).length).length=r.length + 1:=by rw[e];rfl
    rw[XN] at hdl
    have htw:((a::r).reverse.takeWhile y.cps.contains).length < r.length + 1:=by
     have h1:=ZbR (p:=y.cps.contains) (a::r).reverse
     rw[List.length_reverse] at h1
     rcases YF ((a::r).reverse.takeWhile y.cps.contains).length (r.length + 1) with q | q
     ·exact q
     ·exfalso
      have h2:((a::r).reverse.takeWhile y.cps.contains).length=(a::r).reverse.length:=by rw[List.length_reverse];exact Nat.le_antisymm h1 q
      have h3:=ZbH h2
      rw[List.all_reverse,Y9,hp] at h3
      cases h3
    rw[hhi,hlo,hl] at hsz
    lia
  ·intro h;cases h
end L2
namespace Se
open PySem PySem.SetTable
noncomputable def adv (mask:Nat)(p:Probe):Probe:=
 if p.more > 0 then { p with j:=p.j + 1,more:=p.more - 1 } else
 { p with j:=(leap mask p.i p.perturb).1,more:=runEnd mask (leap mask p.i p.perturb).1 - (leap mask p.i p.perturb).1,i:=(leap mask p.i p.perturb).1,perturb:=(leap mask p.i p.perturb).2 }
theorem adv_eq (t:Xy)(p:Probe):t.advance p=adv t.mask p:=by unfold SetTable.advance adv;rfl
def it (mask:Nat):Nat->Probe->Probe
 | 0,p=>p
 | n + 1,p=>it mask n (adv mask p)
theorem it_succ (mask n:Nat):∀p,it mask (n + 1) p=adv mask (it mask n p):=by
 induction n with
 | zero=>intro p;rfl
 | succ n ih=>intro p;exact ih (adv mask p)
theorem Zcp (mask a:Nat):∀(b:Nat) (p:Probe),it mask (a + b) p=it mask b (it mask a p):=by
 induction a with
 | zero=>intro b p;rw[X5];rfl
 | succ a ih=>intro b p;rw[Nat.succ_add];exact ih b (adv mask p)
noncomputable def inRun (mask i d pt:Nat):Probe:={ j:=i + d,more:=runEnd mask i - i - d,i:=i,perturb:=pt,dummy:=none }
noncomputable def len (mask i:Nat):Nat:=runEnd mask i - i
theorem len_le (mask i:Nat):len mask i<=9:=by unfold len runEnd;split<;>lia
theorem adv_in {mask i d pt:Nat}(h:d < len mask i):adv mask (inRun mask i d pt)=inRun mask i (d + 1) pt:=by
 unfold len at h
 unfold adv inRun
 dsimp only
 rw[if_pos 1e3]
 have e1:i + d + 1=i + (d + 1):=by lia
 have e2:runEnd mask i - i - d - 1=runEnd mask i - i - (d + 1):=by lia
 rw[e1,e2]
theorem adv_out {mask i d pt:Nat}(h:d=len mask i):adv mask (inRun mask i d pt)=inRun mask (leap mask i pt).1 0 (leap mask i pt).2:=by
 unfold len at h
 unfold adv inRun
 dsimp only
 rw[if_neg 1e3]
 rfl
theorem it_in {mask i pt:Nat}:∀(k d:Nat),d + k<=len mask i->it mask k (inRun mask i d pt)=inRun mask i (d + k) pt
 | 0,d,_=>rfl
 | k + 1,d,h=>by
  show it mask k (adv mask (inRun mask i d pt))=_
  rw[adv_in 1e3,it_in k (d + 1) 1e3]
  have e:d + 1 + k=d + (k + 1):=by lia
  rw[e]
theorem it_next {mask i d pt:Nat}(h:d<=len mask i):it mask (len mask i - d + 1) (inRun mask i d pt)=inRun mask (leap mask i pt).1 0 (leap mask i pt).2:=by
 rw[it_succ,it_in _ _ 1e3,adv_out 1e3]
noncomputable def lp (mask:Nat):Nat->Nat×Nat->Nat×Nat
 | 0,p=>p
 | n + 1,p=>lp mask n (leap mask p.1 p.2)
theorem it_lp (mask:Nat):∀(k i pt:Nat),∃c,c<=10 * k/\it mask c (inRun mask i 0 pt)=inRun mask (lp mask k (i,pt)).1 0 (lp mask k (i,pt)).2
 | 0,i,pt=>⟨0,YT _,rfl⟩
 | k + 1,i,pt=>by
  obtain ⟨c,hc,e⟩:=it_lp mask k (leap mask i pt).1 (leap mask i pt).2
  refine ⟨(len mask i - 0 + 1) + c,?_,?_⟩
  ·have:=len_le mask i;lia
  ·rw[Zcp,it_next (YT _),e];rfl
theorem lp_add (mask a:Nat):∀(b:Nat) (p:Nat×Nat),lp mask (a + b) p=lp mask b (lp mask a p):=by
 induction a with
 | zero=>intro b p;rw[X5];rfl
 | succ a ih=>intro b p;rw[Nat.succ_add];exact ih b _
theorem lp_pt (mask:Nat):∀(k i pt:Nat),(lp mask k (i,pt)).2=pt / 32 ^ k
 | 0,i,pt=>by simp[lp]
 | k + 1,i,pt=>by
  show (lp mask k (leap mask i pt)).2=_
  have:leap mask i pt=((i * 5 + 1 + pt / 32) % (mask + 1),pt / 32):=rfl
  rw[this,lp_pt mask k,Nat.div_div_eq_div_mul,Nat.pow_succ,Nat.mul_comm]
theorem lp_lt (mask:Nat):∀(k i pt:Nat),i < mask + 1->(lp mask k (i,pt)).1 < mask + 1
 | 0,i,pt,h=>h
 | k + 1,i,pt,h=>lp_lt mask k _ _ (Uv _ (VO _))
noncomputable def f (mask i:Nat):Nat:=(i * 5 + 1) % (mask + 1)
def fk (mask:Nat):Nat->Nat->Nat
 | 0,i=>i
 | n + 1,i=>fk mask n (f mask i)
theorem lp_zero (mask:Nat):∀(k i:Nat),lp mask k (i,0)=(fk mask k i,0)
 | 0,i=>rfl
 | k + 1,i=>by
  show lp mask k (leap mask i 0)=_
  have:leap mask i 0=(f mask i,0):=by simp[leap,f]
  rw[this,lp_zero mask k];rfl
theorem fk_add (mask a:Nat):∀(b i:Nat),fk mask (a + b) i=fk mask b (fk mask a i):=by
 induction a with
 | zero=>intro b i;rw[X5];rfl
 | succ a ih=>intro b i;rw[Nat.succ_add];exact ih b _
def Mk (mask:Nat):Prop:=mask=7\/mask=31\/mask=127
def orb (mask:Nat):Nat->Nat->List Nat
 | 0,_=>[]
 | n + 1,i=>i::orb mask n (f mask i)
theorem orb_get (mask:Nat):∀(n i j:Nat),j∈orb mask n i->∃k,k < n/\fk mask k i=j
 | 0,i,j,h=>by cases h
 | n + 1,i,j,h=>by
  rcases Yn.mp h with rfl | h
  ·exact ⟨0,by lia,rfl⟩
  ·obtain ⟨k,hk,e⟩:=orb_get mask n _ _ h
   exact ⟨k + 1,by lia,e⟩
theorem orb_all {mask:Nat}(h:Mk mask):(Yg (mask + 1)).all (fun j=>(orb mask (mask + 1) 0).elem j)=true/\fk mask (mask + 1) 0=0:=by
 rcases h with rfl | rfl | rfl<;>exact ⟨by decide +kernel,by decide +kernel⟩
theorem from0 {mask j:Nat}(h:Mk mask)(hj:j < mask + 1):∃k,k < mask + 1/\fk mask k 0=j:=by
 have:=Yt.mp (orb_all h).1 j (Y0.mpr hj)
 exact orb_get mask _ _ _ (List.elem_iff.mp this)
theorem goes {mask i j:Nat}(h:Mk mask)(hi:i < mask + 1)(hj:j < mask + 1):∃k,k < mask + 1/\fk mask k i=j:=by
 obtain ⟨a,ha,ea⟩:=from0 h hi
 obtain ⟨b,hb,eb⟩:=from0 h hj
 by_cases hab:a<=b
 ·refine ⟨b - a,by lia,?_⟩
  rw[←ea,←fk_add,show a + (b - a)=b by lia,eb]
 ·refine ⟨b + (mask + 1) - a,by lia,?_⟩
  rw[←ea,←fk_add,show a + (b + (mask + 1) - a)=(mask + 1) + b by lia,fk_add,(orb_all h).2,eb]
theorem meets {mask i d pt j:Nat}(h:Mk mask)(hd:d<=len mask i)(hpt:pt < 2 ^ 64)(hj:j < mask + 1):∃k,k < 10 * turns mask/\(it mask k (inRun mask i d pt)).j=j:=by
 have e1:=it_next (pt:=pt) hd
 obtain ⟨c,hc,e2⟩:=it_lp mask 13 (leap mask i pt).1 (leap mask i pt).2
 have hz:(lp mask 13 ((leap mask i pt).1,(leap mask i pt).2)).2=0:=by
  rw[lp_pt]
  have:(leap mask i pt).2=pt / 32:=rfl
  rw[this,Nat.div_div_eq_div_mul]
  exact Nat.div_eq_of_lt (Uj hpt 2e4)
 have hl:(lp mask 13 ((leap mask i pt).1,(leap mask i pt).2)).1 < mask + 1:=lp_lt mask 13 _ _ (Uv _ (VO _))
 generalize lp mask 13 ((leap mask i pt).1,(leap mask i pt).2)=q at hz hl e2
 obtain ⟨i2,pt2⟩:=q
 dsimp only at hz hl e2
 subst hz
 obtain ⟨k,hk,ek⟩:=goes h hl hj
 obtain ⟨c2,hc2,e3⟩:=it_lp mask k i2 0
 rw[lp_zero,ek] at e3
 refine ⟨(len mask i - d + 1) + (c + c2),?_,?_⟩
 ·have:=len_le mask i;unfold turns;lia
 ·rw[Zcp,e1,Zcp,e2,e3];rfl
theorem bits_lt (h:Int):bits h < 2 ^ 64:=by
 unfold bits
 have h1:0<=h % (2 ^ 64:Int):=Y1 _ 2e4
 have h2:h % (2 ^ 64:Int) < 2 ^ 64:=YQ _ 2e4
 lia
def Wf (mask:Nat)(p:Probe):Prop:=∃i d pt,p=inRun mask i d pt/\d<=len mask i/\pt < 2 ^ 64
theorem Wf.adv {mask:Nat}{p:Probe}(h:Wf mask p):Wf mask (adv mask p):=by
 obtain ⟨i,d,pt,rfl,hd,hp⟩:=h
 by_cases e:d=len mask i
 ·rw[adv_out e];exact ⟨_,0,_,rfl,YT _,VN (Nat.div_le_self _ _) hp⟩
 ·rw[adv_in 1e3];exact ⟨i,d + 1,pt,rfl,by lia,hp⟩
theorem Wf.it {mask:Nat}:∀(n:Nat) {p:Probe},Wf mask p->Wf mask (it mask n p)
 | 0,p,h=>h
 | n + 1,p,h=>Wf.it n h.adv
theorem Wf.start (mask:Nat)(h:Int):Wf mask (inRun mask (bits h % (mask + 1)) 0 (bits h)):=⟨_,0,_,rfl,YT _,bits_lt h⟩
theorem Wf.meets {mask j:Nat}{p:Probe}(w:Wf mask p)(h:Mk mask)(hj:j < mask + 1):∃k,k < 10 * turns mask/\(Se.it mask k p).j=j:=by
 obtain ⟨i,d,pt,rfl,hd,hp⟩:=w
 exact Se.meets h hd hp hj
theorem Wf.dummy {mask:Nat}{p:Probe}(w:Wf mask p):p.dummy=none:=by obtain ⟨i,d,pt,rfl,_⟩:=w;rfl
def Rising (xs:Array Nat):Prop:=∀(a b:Nat) (x y:Nat),a < b->xs[a]? = some x->xs[b]? = some y->x < y
theorem below_go {xs:Array Nat}{j:Nat}(hr:Rising xs):∀(fuel lo hi:Nat),lo<=hi->hi<=xs.size->hi - lo<=fuel->(∀k x,k < lo->xs[k]? = some x->x < j)->(∀k x,hi<=k->xs[k]? = some x->j<=x)->
  (∀k x,k < below.go xs j fuel lo hi->xs[k]? = some x->x < j)/\(∀k x,below.go xs j fuel lo hi<=k->xs[k]? = some x->j<=x)/\below.go xs j fuel lo hi<=xs.size
 | 0,lo,hi,h1,h2,h3,ha,hb=>by
  have:hi=lo:=by lia
  subst this
  exact ⟨ha,hb,h2⟩
 | fuel + 1,lo,hi,h1,h2,h3,ha,hb=>by
  unfold below.go
  by_cases hlt:lo < hi
  ·rw[if_pos hlt]
   have hm:(lo + hi) / 2 < xs.size:=by lia
   obtain ⟨v,hv⟩:∃v,xs[(lo + hi) / 2]? = some v:=⟨_,Yx hm⟩
   have hd:xs.getD ((lo + hi) / 2) j=v:=by rw[YB,hv];rfl
   dsimp only
   rw[hd]
   by_cases hj:v < j
   ·rw[if_pos hj]
    refine below_go hr fuel _ hi 1e3 h2 1e3 (fun k x hk hx=>?_) hb
    rcases YF k ((lo + hi) / 2) with q | q
    ·exact Uj (hr k _ x v q hx hv) hj
    ·have:k=(lo + hi) / 2:=by lia
     subst this;rw[hv] at hx;cases hx;exact hj
   ·rw[if_neg hj]
    refine below_go hr fuel lo _ 1e3 1e3 1e3 ha (fun k x hk hx=>?_)
    rcases YF ((lo + hi) / 2) k with q | q
    ·exact Wi (VN (Ua hj) (hr _ k v x q hv hx))
    ·have:k=(lo + hi) / 2:=by lia
     subst this;rw[hv] at hx;cases hx;exact Ua hj
  ·rw[if_neg hlt]
   have:hi=lo:=by lia
   subst this
   exact ⟨ha,hb,h2⟩
theorem below_ok {xs:Array Nat}(hr:Rising xs)(j:Nat):(∀k x,k < below xs j->xs[k]? = some x->x < j)/\(∀k x,below xs j<=k->xs[k]? = some x->j<=x)/\below xs j<=xs.size:=
 below_go hr _ 0 _ (YT _) (Yk _) 1e3 (fun k x h=>absurd h (XG _)) (fun k x h e=>by rw[Y2 h] at e;cases e)
theorem below_at {xs:Array Nat}(hr:Rising xs){i j:Nat}(e:xs[i]? = some j):below xs j=i:=by
 obtain ⟨h1,h2,h3⟩:=below_ok hr j
 rcases V0 (below xs j) i with q | q | q
 ·obtain ⟨v,hv⟩:∃v,xs[below xs j]? = some v:=by
   have hi:i < xs.size:=by rcases YF i xs.size with z | z;exact z;rw[Y2 z] at e;cases e
   exact ⟨_,Yx 1e3⟩
  have a:=h2 _ _ (Yk _) hv
  have b:=hr _ _ _ _ q hv e
  lia
 ·exact q
 ·have:=h1 i j q e;lia
theorem ZbU {t:Xy}{i j:Nat}(hr:Rising t.place)(e:t.place[i]? = some j):t.slot j=.live i:=by
 unfold V4
 rw[below_at hr e]
 dsimp only
 rw[e]
 simp
theorem live_slot {t:Xy}{i j:Nat}(e:t.slot j=.live i):t.place[i]? = some j:=by
 unfold V4 at e
 dsimp only at e
 split at e
 ·rename_i h;cases e;exact eq_of_beq h
 ·split at e<;>cases e
theorem has_none (j:Nat):has #[] j=false:=by unfold has;simp
theorem slot_free {t:Xy}{j:Nat}(hd:t.dummies=#[])(hn:∀i:Nat,t.place[i]?≠some j):t.slot j=.empty:=by
 unfold V4
 dsimp only
 rw[if_neg (by simpa using hn _),hd,has_none]
 simp
theorem free_slot {t:Xy}{j:Nat}(hr:Rising t.place)(e:t.slot j=.empty):∀i:Nat,t.place[i]?≠some j:=by
 intro i q
 rw[ZbU hr q] at e
 cases e
theorem slot_kind {t:Xy}(hd:t.dummies=#[])(j:Nat):t.slot j≠.dummy:=by
 unfold V4
 dsimp only
 rw[hd,has_none]
 split<;>simp
def Sees (t:Xy)(hashAt:Nat->Int)(h:Int)(p:Probe)(m:Met):Prop:=
 ∃n,(∀k,k < n->∃i,t.slot (it t.mask k p).j=.live i/\hashAt i≠h)/\
  ((m=.empty (it t.mask n p).j none/\t.slot (it t.mask n p).j=.empty)\/∃i,m=.candidate (it t.mask n p).j i (it t.mask (n + 1) p)/\t.slot (it t.mask n p).j=.live i/\hashAt i=h)
theorem go_sees {t:Xy}{hashAt:Nat->Int}{h:Int}(hd:t.dummies=#[]):∀(fuel:Nat) (p:Probe),Wf t.mask p->(∃k,k < fuel/\t.slot (it t.mask k p).j=.empty)->∃m,probe.go t hashAt h fuel p=some m/\Sees t hashAt h p m
 | 0,p,_,hk=>by obtain ⟨k,hk,_⟩:=hk;exact absurd hk (XG _)
 | fuel + 1,p,w,hk=>by
  unfold probe.go
  cases e:t.slot p.j with
  | empty=>exact ⟨_,rfl,0,fun k hk=>absurd hk (XG _),.inl ⟨by rw[w.dummy];rfl,e⟩⟩
  | dummy=>exact absurd e (slot_kind hd _)
  | live i=>
   dsimp only
   by_cases q:(hashAt i==h)=true
   ·rw[if_pos q]
    refine ⟨_,rfl,0,fun k hk=>absurd hk (XG _),.inr ⟨i,?_,e,eq_of_beq q⟩⟩
    rw[adv_eq];rfl
   ·rw[if_neg q,adv_eq]
    obtain ⟨k,hk,ek⟩:=hk
    have k0:k≠0:=by rintro rfl;rw[show (it t.mask 0 p).j=p.j from rfl,e] at ek;cases ek
    obtain ⟨k,rfl⟩:∃k',k=k' + 1:=⟨k - 1,by lia⟩
    obtain ⟨m,em,n,h1,h2⟩:=go_sees hd fuel (adv t.mask p) w.adv ⟨k,by lia,ek⟩
    refine ⟨m,em,n + 1,fun k hk=>?_,h2⟩
    cases k with
    | zero=>exact ⟨i,e,by simpa using q⟩
    | succ k=>exact h1 k 1e3
theorem nd_sub {α:Type} [BEq α] [LawfulBEq α]:∀(l l':List α),l.Nodup->(∀x∈l,x∈l')->l.length<=l'.length
 | [],_,_,_=>YT _
 | x::l,l',hn,hs=>by
  obtain ⟨h1,h2⟩:=Wz.mp hn
  have hx:x∈l':=hs x (.head _)
  have:=nd_sub l (l'.erase x) h2 fun y hy=>(List.mem_erase_of_ne (by rintro rfl;exact h1 hy)).mpr (hs y (.tail _ hy))
  rw[List.length_erase_of_mem hx] at this
  have:=List.length_pos_of_mem hx
  simp only[YL];lia
def start (mask:Nat)(h:Int):Probe:=inRun mask (bits h % (mask + 1)) 0 (bits h)
structure T0 (t:Xy)(es:Array (Int×Value)):Prop where
 mm:Mk t.mask
 dm:t.dummies=#[]
 rs:Rising t.place
 sz:t.place.size=es.size
 lt:∀i j:Nat,t.place[i]? = some j->j < t.mask + 1
 rc:∀(i j:Nat) (e:Int×Value),t.place[i]? = some j->es[i]? = some e->∃n,(it t.mask n (start t.mask e.1)).j=j/\∀m,m < n->∃i':Nat,t.place[i']? = some (it t.mask m (start t.mask e.1)).j
structure TI (t:Xy)(es:Array (Int×Value)):Prop extends T0 t es where
 fl:es.size * 5 < t.mask * 3
theorem ZcL {xs:Array Nat}(hr:Rising xs){M:Nat}(h:∀j,j < M->∃i:Nat,xs[i]? = some j):∀j,j < M->∃i:Nat,j<=i/\xs[i]? = some j
 | 0,hj=>by obtain ⟨i,e⟩:=h 0 hj;exact ⟨i,YT _,e⟩
 | j + 1,hj=>by
  obtain ⟨i,hi,e⟩:=ZcL hr h j 1e3
  obtain ⟨i',e'⟩:=h (j + 1) hj
  refine ⟨i',?_,e'⟩
  rcases V0 i i' with q | q | q
  ·lia
  ·subst q;rw[e] at e';exact absurd (YA e') 1e3
  ·have:=hr _ _ _ _ q e' e;lia
theorem Mk.pos {mask:Nat}(h:Mk mask):7<=mask/\mask<=127/\mask % 2=1:=by rcases h with rfl | rfl | rfl<;>decide
theorem T0.room {t:Xy}{es:Array (Int×Value)}(T:T0 t es)(hs:es.size < t.mask + 1):∃j,j < t.mask + 1/\t.slot j=.empty:=by
 by_cases h:∃j,j < t.mask + 1/\∀i:Nat,t.place[i]?≠some j
 ·obtain ⟨j,hj,hn⟩:=h;exact ⟨j,hj,slot_free T.dm hn⟩
 ·exfalso
  have h':∀j,j < t.mask + 1->∃i:Nat,t.place[i]? = some j:=fun j hj=>by
   apply Classical.byContradiction;intro q
   exact h ⟨j,hj,fun i e=>q ⟨i,e⟩⟩
  obtain ⟨i,hi,e⟩:=ZcL T.rs h' t.mask 1e3
  have:i < t.place.size:=by
   rcases YF i t.place.size with z | z
   ·exact z
   ·rw[Y2 z] at e;cases e
  have:=T.sz;lia
theorem TI.few {t:Xy}{es:Array (Int×Value)}(T:TI t es):es.size < t.mask:=by have:=T.fl;lia
theorem T0.fits {t:Xy}{es:Array (Int×Value)}(T:T0 t es)(h:es.size<=t.mask):t.fits es.size=true:=by
 unfold SetTable.fits SetTable.fill
 rw[T.dm,T.sz]
 simpa using h
theorem ins_get {α:Type}(xs:Array α)(p:Nat)(x:α)(hp:p<=xs.size)(i:Nat):(insertAt xs p x)[i]? = if i < p then xs[i]? else if i=p then some x else xs[i - 1]?:=by
 rw[←Xl,SetTable.toList_insertAt]
 have hl:(xs.toList.take p).length=p:=by simp;lia
 by_cases h:i < p
 ·rw[if_pos h,Yf 1e3,Xq h,Xl]
 ·rw[if_neg h,YW 1e3,hl]
  by_cases e:i=p
  ·subst e;simp
  ·rw[if_neg e]
   obtain ⟨k,hk⟩:∃k,i - p=k + 1:=⟨i - p - 1,by lia⟩
   rw[hk,List.getElem?_cons_succ,List.getElem?_drop,Xl]
   congr 1;lia
theorem ins_size {α:Type}(xs:Array α)(p:Nat)(x:α):(insertAt xs p x).size=xs.size + 1:=by
 rw[←YH,SetTable.toList_insertAt]
 simp only[Y8,YL,Y7,XN,YH];lia
theorem T0.put {t:Xy}{es:Array (Int×Value)}(T:T0 t es){h:Int}{x:Value}{n:Nat}(hn:(it t.mask n (start t.mask h)).j < t.mask + 1)(hf:t.slot (it t.mask n (start t.mask h)).j=.empty)(hm:∀m,m < n->∃i:Nat,t.place[i]? = some (it t.mask m (start t.mask h)).j):
  ∀t1 p,t.put (it t.mask n (start t.mask h)).j=(t1,p)->p<=es.size/\t1.mask=t.mask/\t1.led=t.led/\T0 t1 (insertAt es p (h,x)):=by
 intro t1 p e
 unfold SetTable.put at e
 dsimp only at e
 rw[T.dm,has_none] at e
 cases e
 have fr:=free_slot T.rs hf
 obtain ⟨b1,b2,b3⟩:=below_ok T.rs (it t.mask n (start t.mask h)).j
 generalize hj:(it t.mask n (start t.mask h)).j=j at *
 generalize hp:below t.place j=p at *
 have hpe:p<=es.size:=by rw[←T.sz];exact b3
 have pg:=ins_get t.place p j b3
 have eg:=ins_get es p (h,x) hpe
 have old:∀i v:Nat,t.place[i]? = some v->(insertAt t.place p j)[if i < p then i else i + 1]? = some v:=fun i v e=>by
  rw[pg]
  by_cases q:i < p
  ·rw[if_pos q,if_pos q];exact e
  ·rw[if_neg q,if_neg 1e3,if_neg 1e3];exact e
 refine ⟨hpe,rfl,rfl,⟨T.mm,rfl,?_,?_,?_,?_⟩⟩
 ·intro a b u v hab hu hv
  have hu:(insertAt t.place p j)[a]? = some u:=hu
  have hv:(insertAt t.place p j)[b]? = some v:=hv
  rw[pg] at hu hv
  split at hu
  ·rename_i ha
   split at hv
   ·exact T.rs _ _ _ _ hab hu hv
   ·split at hv
    ·cases hv;exact b1 _ _ ha hu
    ·have z:=b2 _ _ (show p<=b - 1 by lia) hv
     exact Yv (b1 _ _ ha hu) z
  ·split at hu
   ·cases hu
    rw[if_neg 1e3,if_neg 1e3] at hv
    have z:=b2 _ _ (show p<=b - 1 by lia) hv
    rcases Nat.lt_or_eq_of_le z with q | q
    ·exact q
    ·exact absurd (q ▸ hv) (fr _)
   ·rw[if_neg 1e3,if_neg 1e3] at hv
    exact T.rs _ _ _ _ 1e3 hu hv
 ·show (insertAt t.place p j).size=_
  rw[ins_size,ins_size,T.sz]
 ·intro i v e
  have e:(insertAt t.place p j)[i]? = some v:=e
  rw[pg] at e
  split at e
  ·exact T.lt _ _ e
  ·split at e
   ·cases e;exact hn
   ·exact T.lt _ _ e
 ·intro i v e hv he
  have hv:(insertAt t.place p j)[i]? = some v:=hv
  rw[pg] at hv
  rw[eg] at he
  have keep:(∃n,(it t.mask n (start t.mask e.1)).j=v/\∀m,m < n->∃i':Nat,t.place[i']? = some (it t.mask m (start t.mask e.1)).j)->
    ∃n,(it t.mask n (start t.mask e.1)).j=v/\∀m,m < n->∃i':Nat,(insertAt t.place p j)[i']? = some (it t.mask m (start t.mask e.1)).j:=
   fun ⟨n,h1,h2⟩=>⟨n,h1,fun m hm=>let ⟨i',q⟩:=h2 m hm;⟨_,old _ _ q⟩⟩
  split at hv
  ·rename_i q
   rw[if_pos q] at he
   exact keep (T.rc _ _ _ hv he)
  ·rename_i q
   rw[if_neg q] at he
   split at hv
   ·rename_i q2
    rw[if_pos q2] at he
    cases hv;cases he
    exact ⟨n,hj,fun m hm'=>let ⟨i',q⟩:=hm m hm';⟨_,old _ _ q⟩⟩
   ·rename_i q2
    rw[if_neg q2] at he
    exact keep (T.rc _ _ _ hv he)
theorem cover_lp {mask i pt j:Nat}(h:Mk mask)(hi:i < mask + 1)(hpt:pt < 2 ^ 64)(hj:j < mask + 1):∃k,k < turns mask/\(lp mask k (i,pt)).1=j:=by
 have hz:(lp mask 13 (i,pt)).2=0:=by
  rw[lp_pt];exact Nat.div_eq_of_lt (Uj hpt 2e4)
 have hl:=lp_lt mask 13 i pt hi
 generalize e:lp mask 13 (i,pt)=q at hz hl
 obtain ⟨i2,pt2⟩:=q
 dsimp only at hz hl
 subst hz
 obtain ⟨k,hk,ek⟩:=goes h hl hj
 refine ⟨13 + k,by unfold turns;lia,?_⟩
 rw[lp_add,e,lp_zero];exact ek
noncomputable def own (owner:Array (Option Nat))(j:Nat):Option Nat:=owner.getD j (some 0)
theorem free_ok {mask:Nat}{owner:Array (Option Nat)}:∀(fuel i pt:Nat),(∃k,k < fuel/\own owner (lp mask k (i,pt)).1=none)->
  ∃j n,layClean.free mask owner fuel i pt=some j/\(it mask n (inRun mask i 0 pt)).j=j/\own owner j=none/\∀m,m < n->own owner (it mask m (inRun mask i 0 pt)).j≠none
 | 0,i,pt,h=>by obtain ⟨k,hk,_⟩:=h;exact absurd hk (XG _)
 | fuel + 1,i,pt,h=>by
  unfold layClean.free
  have hle:i<=runEnd mask i:=by unfold runEnd;split<;>lia
  cases e:(Yg (runEnd mask i + 1 - i)).find? (fun k=>(owner.getD (i + k) (some 0)).isNone) with
  | some k=>
   obtain ⟨h1,h2,h3⟩:=List.find?_range_eq_some.mp e
   have hk:=Y0.mp h2
   have hi:=it_in (mask:=mask) (i:=i) (pt:=pt) k 0 (by unfold len;lia)
   refine ⟨i + k,k,rfl,?_,?_,fun m hm q=>?_⟩
   ·rw[hi,X5];rfl
   ·exact Option.isNone_iff_eq_none.mp h1
   ·have:=h3 m hm
    rw[it_in m 0 (by unfold len;lia),X5] at q
    have q:owner.getD (i + m) (some 0)=none:=q
    rw[q] at this
    simp at this
  | none=>
   have hn:=List.find?_range_eq_none.mp e
   obtain ⟨k,hk,ek⟩:=h
   have k0:k≠0:=by
    rintro rfl
    have ek:owner.getD i (some 0)=none:=ek
    have:=hn 0 1e3
    rw[Nat.add_zero,ek] at this
    simp at this
   obtain ⟨k,rfl⟩:∃k',k=k' + 1:=⟨k - 1,by lia⟩
   obtain ⟨j,n,h1,h2,h3,h4⟩:=free_ok fuel (leap mask i pt).1 (leap mask i pt).2 ⟨k,by lia,ek⟩
   refine ⟨j,(len mask i - 0 + 1) + n,h1,?_,h3,fun m hm=>?_⟩
   ·rw[Zcp,it_next (YT _)];exact h2
   ·by_cases q:m<=len mask i
    ·rw[it_in m 0 1e3,X5]
     have:=hn m (by unfold len at q;lia)
     intro z
     have z:owner.getD (i + m) (some 0)=none:=z
     rw[z] at this
     simp at this
    ·obtain ⟨m',rfl⟩:∃m',m=(len mask i - 0 + 1) + m':=⟨m - (len mask i + 1),by lia⟩
     rw[Zcp,it_next (YT _)]
     exact h4 m' 1e3
structure OI (mask:Nat)(hs:List Int)(owner:Array (Option Nat)):Prop where
 sz:owner.size=mask + 1
 lt:∀j i:Nat,owner[j]? = some (some i)->i < hs.length
 on:∀i,i < hs.length->∃j:Nat,owner[j]? = some (some i)
 inj:∀j j' i:Nat,owner[j]? = some (some i)->owner[j']? = some (some i)->j=j'
 rc:∀(j i:Nat) (h:Int),owner[j]? = some (some i)->hs[i]? = some h->∃n,(it mask n (start mask h)).j=j/\∀m,m < n->∃i':Nat,owner[(it mask m (start mask h)).j]? = some (some i')
theorem own_some {owner:Array (Option Nat)}{j:Nat}(hj:j < owner.size)(h:own owner j≠none):∃i:Nat,owner[j]? = some (some i):=by
 unfold own at h
 rw[YB,Yx hj] at h
 rw[Yx hj]
 cases e:owner[j] with
 | none=>rw[e] at h;exact absurd rfl h
 | some i=>exact ⟨i,rfl⟩
theorem own_none {owner:Array (Option Nat)}{j:Nat}(h:own owner j=none):j < owner.size/\owner[j]? = some none:=by
 unfold own at h
 rw[YB] at h
 rcases YF j owner.size with q | q
 ·rw[Yx q] at h
  have h:owner[j]=none:=h
  exact ⟨q,by rw[Yx q,h]⟩
 ·rw[Y2 q] at h;cases h
theorem OI.room {mask:Nat}{hs:List Int}{owner:Array (Option Nat)}(O:OI mask hs owner)(h:hs.length < mask + 1):∃j,j < mask + 1/\own owner j=none:=by
 apply Classical.byContradiction
 intro q
 have al:∀j,j < mask + 1->∃i:Nat,owner[j]? = some (some i):=fun j hj=>own_some (by rw[O.sz];exact hj) fun z=>q ⟨j,hj,z⟩
 have g:∀j,j < mask + 1->owner[j]? = some (some ((owner.getD j none).getD 0)):=fun j hj=>by
  obtain ⟨i,e⟩:=al j hj
  rw[YB,e];rfl
 have:=nd_sub ((Yg (mask + 1)).map fun j=>(owner.getD j none).getD 0) (Yg hs.length) ?_ ?_
 ·simp at this;lia
 ·refine XC.mpr (XJ (fun {a b} ha hb hab e=>?_) WR)
  have h1:=g a (Y0.mp ha)
  have h2:=g b (Y0.mp hb)
  rw[e] at h1
  exact hab (O.inj _ _ _ h1 h2)
 ·intro x hx
  obtain ⟨j,hj,rfl⟩:=YM.mp hx
  exact Y0.mpr (O.lt _ _ (g j (Y0.mp hj)))
theorem it_lt {mask:Nat}{h:Int}(hM:Mk mask)(n:Nat):(it mask n (start mask h)).j < mask + 1:=by
 have key:∀n,∃i d pt,it mask n (start mask h)=inRun mask i d pt/\d<=len mask i/\i < mask + 1:=by
  intro n
  induction n with
  | zero=>exact ⟨_,0,_,rfl,YT _,Uv _ (VO _)⟩
  | succ n ih=>
   obtain ⟨i,d,pt,e,hd,hi⟩:=ih
   rw[it_succ,e]
   by_cases q:d=len mask i
   ·rw[adv_out q];exact ⟨_,0,_,rfl,YT _,Uv _ (VO _)⟩
   ·rw[adv_in 1e3];exact ⟨i,d + 1,pt,rfl,by lia,hi⟩
 obtain ⟨i,d,pt,e,hd,hi⟩:=key n
 rw[e]
 show i + d < mask + 1
 unfold len runEnd at hd
 split at hd<;>lia
theorem OI.step {mask:Nat}{hs:List Int}{owner:Array (Option Nat)}(O:OI mask hs owner)(hM:Mk mask)(h:hs.length < mask + 1)(hh:Int):
  ∃j,layClean.free mask owner (turns mask) (bits hh % (mask + 1)) (bits hh)=some j/\OI mask (hs++[hh]) (owner.setIfInBounds j (some hs.length)):=by
 obtain ⟨j0,hj0,e0⟩:=O.room h
 obtain ⟨k,hk,ek⟩:=cover_lp hM (Uv (bits hh) (VO mask)) (bits_lt hh) hj0
 obtain ⟨j,n,h1,h2,h3,h4⟩:=free_ok (mask:=mask) (owner:=owner) (turns mask) (bits hh % (mask + 1)) (bits hh) ⟨k,hk,by rw[ek];exact e0⟩
 have h2:(it mask n (start mask hh)).j=j:=h2
 obtain ⟨hj,hjn⟩:=own_none h3
 have gs:∀a:Nat,(owner.setIfInBounds j (some hs.length))[a]? = if j=a then some (some hs.length) else owner[a]?:=fun a=>by
  rw[Array.getElem?_setIfInBounds]
  by_cases q:j=a
  ·rw[if_pos q,if_pos q,if_pos hj]
  ·rw[if_neg q,if_neg q]
 have old:∀a i:Nat,owner[a]? = some (some i)->(owner.setIfInBounds j (some hs.length))[a]? = some (some i):=fun a i e=>by
  rw[gs,if_neg];exact e
  rintro rfl;rw[hjn] at e;cases e
 refine ⟨j,h1,⟨by simpa using O.sz,fun a i e=>?_,fun i hi=>?_,fun a b i ea eb=>?_,fun a i x ea ex=>?_⟩⟩
 ·rw[gs] at e
  split at e
  ·cases e;simp
  ·have:=O.lt _ _ e;simp;lia
 ·by_cases q:i < hs.length
  ·obtain ⟨a,e⟩:=O.on i q;exact ⟨a,old _ _ e⟩
  ·have:i=hs.length:=by simp at hi;lia
   subst this
   exact ⟨j,by rw[gs,if_pos rfl]⟩
 ·rw[gs] at ea eb
  split at ea
  ·rename_i qa
   cases ea
   split at eb
   ·rename_i qb;lia
   ·have:=O.lt _ _ eb;lia
  ·split at eb
   ·cases eb;have:=O.lt _ _ ea;lia
   ·exact O.inj _ _ _ ea eb
 ·rw[gs] at ea
  split at ea
  ·rename_i qa
   subst qa
   cases ea
   have:x=hh:=by simpa using ex.symm
   subst this
   refine ⟨n,h2,fun m hm=>?_⟩
   obtain ⟨i',e'⟩:=own_some (by rw[O.sz];exact it_lt hM m) (h4 m hm)
   exact ⟨i',old _ _ e'⟩
  ·have hl:=O.lt _ _ ea
   rw[Yf hl] at ex
   obtain ⟨n',q1,q2⟩:=O.rc _ _ _ ea ex
   exact ⟨n',q1,fun m hm=>let ⟨i',e'⟩:=q2 m hm;⟨i',old _ _ e'⟩⟩
noncomputable def stepO (mask:Nat)(acc:Option (Array (Option Nat)×Nat))(h:Int):Option (Array (Option Nat)×Nat):=do
 let (owner,k) ←acc
 let j ←layClean.free mask owner (turns mask) (bits h % (mask + 1)) (bits h)
 pure (owner.setIfInBounds j (some k),k + 1)
theorem layClean_ok {mask:Nat}(hM:Mk mask)(hashes:Array Int)(h:hashes.size < mask + 1):∃owner,layClean mask hashes=some owner/\OI mask hashes.toList owner:=by
 have key:∀(rest pre:List Int) (owner:Array (Option Nat)),OI mask pre owner->pre.length + rest.length < mask + 1->∃o',rest.foldl (stepO mask) (some (owner,pre.length))=some (o',pre.length + rest.length)/\OI mask (pre++rest) o':=by
  intro rest
  induction rest with
  | nil=>intro pre owner O _;exact ⟨owner,rfl,by rw[YV];exact O⟩
  | cons x rest ih=>
   intro pre owner O hl
   simp only[YL] at hl
   obtain ⟨j,e,O'⟩:=O.step hM 1e3 x
   obtain ⟨o',e',O2⟩:=ih (pre++[x]) _ O' (by simp;lia)
   refine ⟨o',?_,by rw[List.append_cons];exact O2⟩
   rw[Ul]
   have:stepO mask (some (owner,pre.length)) x=some (owner.setIfInBounds j (some pre.length),(pre++[x]).length):=by
    unfold stepO
    show (layClean.free mask owner (turns mask) (bits x % (mask + 1)) (bits x)).bind _=_
    rw[e];simp
   rw[this,e']
   congr 2
   simp;lia
 have O0:OI mask [] (Um (mask + 1) none):=by
  have z:∀j i:Nat,(Um (mask + 1) (none:Option Nat))[j]?≠some (some i):=fun j i e=>by
   rw[Array.getElem?_replicate] at e
   split at e<;>cases e
  exact ⟨by simp,fun j i e=>absurd e (z _ _),fun i hi=>absurd hi (XG _),fun j j' i e=>absurd e (z _ _),fun j i x e=>absurd e (z _ _)⟩
 obtain ⟨o',e',O'⟩:=key hashes.toList [] _ O0 (by simpa using h)
 refine ⟨o',?_,by simpa using O'⟩
 unfold layClean
 rw[←Array.foldl_toList]
 show (hashes.toList.foldl (stepO mask) (some (Um (mask + 1) none,0))).map (·.1)=_
 have:([]:List Int).length=0:=rfl
 rw[this] at e'
 rw[e'];rfl
theorem nd_perm:∀(l l':List Nat),l.Nodup->l'.Nodup->(∀x,x∈l↔x∈l')->l.Perm l'
 | [],l',_,_,h=>by
  cases l' with
  | nil=>exact .nil
  | cons y r=>exact absurd ((h y).mpr (.head _)) Y3
 | x::l,l',hn,hn',h=>by
  obtain ⟨h1,h2⟩:=Wz.mp hn
  have hx:x∈l':=(h x).mp (.head _)
  refine (List.Perm.cons x (nd_perm l (l'.erase x) h2 (hn'.erase x) fun y=>?_)).trans (List.perm_cons_erase hx).symm
  rw[hn'.mem_erase_iff]
  constructor
  ·intro hy;exact ⟨by rintro rfl;exact h1 hy,(h y).mp (.tail _ hy)⟩
  ·rintro ⟨q,hy⟩
   exact (Yn.mp ((h y).mpr hy)).resolve_left q
theorem fmap_get {α β:Type}(g:α->Option β):∀(l:List α),(∀x∈l,∃y,g x=some y)->∀i:Nat,(l.filterMap g)[i]? = (l[i]?).bind g
 | [],_,i=>by simp
 | x::l,h,i=>by
  obtain ⟨y,e⟩:=h x (.head _)
  rw[List.filterMap_cons_some e]
  cases i with
  | zero=>simp[e]
  | succ i=>simpa using fmap_get g l (fun z hz=>h z (.tail _ hz)) i
noncomputable def live (mask:Nat)(owner:Array (Option Nat)):List (Nat×Nat):=(Yg (mask + 1)).filterMap fun j=>(owner.getD j none).map (j,·)
theorem live_mem {mask:Nat}{owner:Array (Option Nat)}(hs:owner.size=mask + 1){j i:Nat}:(j,i)∈live mask owner↔owner[j]? = some (some i):=by
 unfold live
 rw[VJ]
 constructor
 ·rintro ⟨a,ha,e⟩
  obtain ⟨b,e1,e2⟩:=Xg.mp e
  cases e2
  rw[YB] at e1
  cases q:owner[j]? with
  | none=>rw[q] at e1;cases e1
  | some v=>rw[q] at e1;have e1:v=some i:=e1;rw[e1]
 ·intro e
  have hj:j < mask + 1:=by
   rw[←hs]
   rcases YF j owner.size with z | z
   ·exact z
   ·rw[Y2 z] at e;cases e
  exact ⟨j,Y0.mpr hj,by rw[YB,e];rfl⟩
theorem live_rise (mask:Nat)(owner:Array (Option Nat)):(live mask owner).Pairwise fun a b=>a.1 < b.1:=by
 unfold live
 refine List.Pairwise.filterMap _ (fun a a' h b hb b' hb'=>?_) List.pairwise_lt_range
 obtain ⟨_,_,rfl⟩:=Xg.mp hb
 obtain ⟨_,_,rfl⟩:=Xg.mp hb'
 exact h
theorem pw_get {α:Type}{R:α->α->Prop}{l:List α}(h:l.Pairwise R){a b:Nat}{x y:α}(hab:a < b)(hx:l[a]? = some x)(hy:l[b]? = some y):R x y:=by
 obtain ⟨ha,rfl⟩:=YN.mp hx
 obtain ⟨hb,rfl⟩:=YN.mp hy
 exact List.pairwise_iff_getElem.mp h a b ha hb hab
theorem laid_ok {mask finger moves:Nat}{led plain:Bool}(hM:Mk mask)(es:Array (Int×Value))(hs:es.size * 5 < mask * 3):
  ∃t' order,laid mask finger moves led plain (es.map (·.1))=some (t',order)/\(order.filterMap (es[·]?)).size=es.size/\(order.filterMap (es[·]?)).toList.Perm es.toList/\TI t' (order.filterMap (es[·]?))/\t'.mask=mask/\t'.led=led:=by
 obtain ⟨owner,e,O⟩:=layClean_ok hM (es.map (·.1)) (by simp;lia)
 have hlen:(es.map (·.1)).toList.length=es.size:=by simp
 have lm:=@live_mem mask owner O.sz
 have lr:=live_rise mask owner
 generalize hL:live mask owner=L at lm lr
 refine ⟨_,_,by unfold laid;rw[e];rfl,?_⟩
 show (((live mask owner).map (·.2)).toArray.filterMap (es[·]?)).size=es.size/\_
 have hpl:(((Yg (mask + 1)).filterMap fun j=>(owner.getD j none).map (j,·)).map (·.1))=L.map (·.1):=by rw[←hL];rfl
 have hor:(((Yg (mask + 1)).filterMap fun j=>(owner.getD j none).map (j,·)).map (·.2))=L.map (·.2):=by rw[←hL];rfl
 rw[hpl,hor,hL]
 have ordPerm:(L.map (·.2)).Perm (Yg es.size):=by
  refine nd_perm _ _ ?_ WR fun x=>?_
  ·refine XC.mpr (XJ (fun {a b} ha hb hab q=>?_) lr)
   obtain ⟨a1,a2⟩:=a
   obtain ⟨b1,b2⟩:=b
   have q:a2=b2:=q
   subst q
   have:=O.inj _ _ _ (lm.mp ha) (lm.mp hb)
   have hab:a1 < b1:=hab
   lia
  ·rw[YM,Y0]
   constructor
   ·rintro ⟨⟨a,b⟩,h1,rfl⟩
    have:=O.lt _ _ (lm.mp h1)
    rw[hlen] at this;exact this
   ·intro hx
    obtain ⟨j,q⟩:=O.on x (by rw[hlen];exact hx)
    exact ⟨(j,x),lm.mpr q,rfl⟩
 have hperm:((L.map (·.2)).toArray.filterMap (es[·]?)).toList.Perm es.toList:=by
  rw[Array.toList_filterMap]
  exact (ordPerm.filterMap _).trans (by rw[filterMap_getElem?_range])
 have hsz:((L.map (·.2)).toArray.filterMap (es[·]?)).size=es.size:=by rw[←YH,hperm.length_eq,YH]
 have hll:L.length=es.size:=by have:=ordPerm.length_eq;simpa using this
 have eg:∀i:Nat,((L.map (·.2)).toArray.filterMap (es[·]?))[i]? = (L[i]?).bind fun p=>es[p.2]?:=fun i=>by
  rw[←Xl,Array.toList_filterMap]
  show ((L.map (·.2)).filterMap (es[·]?))[i]? = _
  rw[fmap_get]
  ·rw[YK];cases L[i]?<;>rfl
  ·intro x hx
   have hx:=Y0.mp (ordPerm.mem_iff.mp hx)
   exact ⟨_,Yx hx⟩
 have pg:∀i j:Nat,(L.map (·.1)).toArray[i]? = some j->∃k,L[i]? = some (j,k):=fun i j q=>by
  rw[WD,YK] at q
  obtain ⟨⟨a,k⟩,h1,h2⟩:=Xg.mp q
  exact ⟨k,by rw[h1];exact congrArg (fun z=>some (z,k)) h2⟩
 refine ⟨hsz,hperm,⟨⟨hM,rfl,?_,?_,?_,?_⟩,?_⟩,rfl,rfl⟩
 ·intro a b x y hab hx hy
  obtain ⟨k1,q1⟩:=pg _ _ hx
  obtain ⟨k2,q2⟩:=pg _ _ hy
  exact pw_get lr hab q1 q2
 ·show (L.map (·.1)).toArray.size=_
  rw[hsz];simpa using hll
 ·intro i j q
  obtain ⟨k,q⟩:=pg _ _ q
  have:=lm.mp (Xc q)
  show j < mask + 1
  rw[←O.sz]
  rcases YF j owner.size with z | z
  ·exact z
  ·rw[Y2 z] at this;cases this
 ·intro i j x q qx
  obtain ⟨k,q⟩:=pg _ _ q
  rw[eg,q] at qx
  have qx:es[k]? = some x:=qx
  have ho:=lm.mp (Xc q)
  obtain ⟨n,h1,h2⟩:=O.rc j k x.1 ho (by rw[Xl,Array.getElem?_map,qx];rfl)
  refine ⟨n,h1,fun m hm=>?_⟩
  obtain ⟨i',q'⟩:=h2 m hm
  obtain ⟨a,ha,hb⟩:=XB (lm.mpr q')
  refine ⟨a,?_⟩
  show (L.map (·.1)).toArray[a]? = _
  rw[WD,YK,Ya ha,hb];rfl
 ·show _ * 5 < mask * 3
  rw[hsz];exact hs
theorem grown_ok {mask n:Nat}(h:Mk mask)(h1:n * 5 < mask * 3)(h2:¬(n + 1) * 5 < mask * 3)(h3:n + 1 < 77):Mk (sizeAbove (grown (n + 1)) - 1)/\(n + 1) * 5 < (sizeAbove (grown (n + 1)) - 1) * 3:=by
 rcases h with rfl | rfl | rfl
 ·have:n=4:=by lia
  subst this;exact ⟨.inr (.inl 2e4),by decide⟩
 ·have:n=18:=by lia
  subst this;exact ⟨.inr (.inr 2e4),by decide⟩
 ·lia
section
variable {prog:Yq}{w:World}{K:Type} [DecidableEq K]{knd:KeyKind prog w K}{A:Around}{E:1e4}{s:Shared}
theorem oacs_scalar {v:Value}(n:Nat)(h:WO v=true):V2 n v=pure false:=by
 cases v<;>first | (cases n<;>rfl) | (exfalso;revert h;simp[WO])
theorem Zb3 {M:Model}{β:Type}{J:β->Prop}{ok:Value->Prop}{f:Value->β->Sem (ForInStep β)}
  (step:∀v b (Q:ForInStep β->Shared->Prop),ok v->J b->(∀b',J b'->Q (.yield b') s)->(∀b',J b'->Q (.done b') s)->wpAny M A (f v b) Q E s):
  ∀(xs:3e5) (b:β) (Q:β->Shared->Prop),(∀v∈xs,ok v)->J b->(∀b',J b'->Q b' s)->wpAny M A (forIn xs b f) Q E s
 | [],b,Q,_,j,q=>by rw[List.forIn_nil];exact Ye (q b j)
 | v::xs,b,Q,hx,j,q=>by
  rw[List.forIn_cons]
  exact Yb (step v b _ (hx v (.head _)) j (fun b' j'=>Zb3 step xs b' Q (fun u z=>hx u (.tail _ z)) j' q) fun b' j'=>Ye (q b' j'))
theorem Zdh {ks:List K}{a:Addr}{Q:Bool->Shared->Prop}(hk:Xo knd s.heap ks a)(h:Q false s):wpAny 3e9 A (V2 8 (.ref a)) Q E s:=by
 obtain ⟨o,items,n,b1,b2,b3,b4⟩:=id hk
 have same:("tuple"=="tuple")=true:=by decide
 rw[V2]
 apply Yb
 refine VM hk.typeIs ?_
 simp only[same,if_true]
 repeat first
  | refine VT b1 b3 ?_
  | simp only[Bool.not_true,YY,if_false]
  | apply Ye
  | apply Yb
 rw[←Array.forIn_toList]
 refine Zb3 (J:=fun r=>r.1=none) (ok:=fun v=>WO v=true) (fun v r Q z j q _=>?_) _ _ _ b4.byValue rfl ?_
 ·rw[oacs_scalar _ z]
  apply Yb
  apply Ye
  exact Ye (q _ rfl)
 ·rintro ⟨r,u⟩ j
  cases (show r=none from j)
  exact Ye h
theorem hbv_scalar {v:Value}(n:Nat)(h:WO v=true):∃b,hashByValue n v=pure b:=by
 cases v<;>cases n<;>first | exact ⟨_,rfl⟩ | (exfalso;revert h;simp[WO])
theorem hbv_tuple {ks:List K}{a:Addr}{Q:Bool->Shared->Prop}(hk:Xo knd s.heap ks a)(h:∀b,Q b s):wpAny 3e9 A (hashByValue 8 (.ref a)) Q E s:=by
 obtain ⟨o,items,n,b1,b2,b3,b4⟩:=id hk
 rw[hashByValue]
 apply Yb
 refine wpAny_specialOf hk.typeIs F.slot_tuple_hash.lookup ?_
 apply Yb
 refine VT b1 b3 ?_
 apply Yb
 rw[←Array.forIn_toList]
 refine Zb3 (J:=fun _=>True) (ok:=fun v=>WO v=true) (fun v r Q z _ q1 q2=>?_) _ _ _ b4.byValue trivial ?_
 ·obtain ⟨b,e⟩:=hbv_scalar 7 z
  rw[e]
  apply Yb
  apply Ye
  cases b
  ·exact Ye (q2 _ trivial)
  ·exact Ye (q1 _ trivial)
 ·rintro ⟨_ | r,u⟩ _
  ·exact Ye (h _)
  ·exact Ye (h _)
theorem seen_quiet {ks:List K}{a:Addr}{stored:3e5}{Q:Bool->Shared->Prop}(hk:Xo knd s.heap ks a)(hst:∀v∈stored,∃ks' b,v=.ref b/\Xo knd s.heap ks' b)(h:Q false s):
  wpAny 3e9 A (searchCouldBeSeen (.ref a) stored) Q E s:=by
 delta searchCouldBeSeen
 apply Yb
 refine Zb3 (J:=fun r=>r.1=none) (ok:=fun v=>∃ks' b,v=.ref b/\Xo knd s.heap ks' b) (fun v r Q z j q1 _=>?_) _ _ _ hst rfl ?_
 ·obtain ⟨ks',b,rfl,hb⟩:=z
  dsimp only
  split
  ·exact Ye (q1 _ rfl)
  ·repeat first
    | exact Ye (q1 _ rfl)
    | refine (WK knd).quiet hk ?_
    | refine (WK knd).quiet hb ?_
    | refine Zdh hk ?_
    | refine Zdh hb ?_
    | simp only[Bool.not_true,YY,if_false]
    | apply Yb
 ·rintro ⟨r,u⟩ j
  cases (show r=none from j)
  exact Ye h
end
section
variable {prog:Yq}{w:World}{K:Type} [DecidableEq K]{knd:KeyKind prog w K}{A:Around}{E:1e4}{s:Shared}
def Els (knd:KeyKind prog w K)(h:Heap)(es:Array (Int×Value)):Prop:=∀(i:Nat) (e:Int×Value),es[i]? = some e->∃k b,e=(Ym knd k,Yy b)/\Xo knd h k b
def Unmet (knd:KeyKind prog w K)(h:Heap)(es:Array (Int×Value))(t:Xy)(k:List K)(n:Nat):Prop:=∀m,m < n->∃i,t.slot (it t.mask m (start t.mask (Ym knd k))).j=.live i/\∀(u:Int) (b:Addr),es[i]? = some (u,.ref b)->¬Xo knd h k b
theorem search {a x:Addr}{o:Obj}{es:Array (Int×Value)}{ep:Nat}{t:Xy}{k:List K}{Q:SetFound->Shared->Prop}(hu:3e7)(ho:s.heap.get? a=some o)(hd:o.data=.set es ep t)(T:TI t es)(he:Els knd s.heap es)(hk:Xo knd s.heap k x)
  (hmet:∀(i:Nat) (u:Int) (b:Addr),es[i]? = some (u,.ref b)->Xo knd s.heap k b->Q (.there none) s)
  (hfree:∀n,t.slot (it t.mask n (start t.mask (Ym knd k))).j=.empty->Unmet knd s.heap es t k n->Q (.free (it t.mask n (start t.mask (Ym knd k))).j false) s):
  ∀(fuel n:Nat) (stand:Option Probe),stand.getD (t.probeStart (Ym knd k))=it t.mask n (start t.mask (Ym knd k))->(∃N,n<=N/\N < n + fuel/\t.slot (it t.mask N (start t.mask (Ym knd k))).j=.empty)->Unmet knd s.heap es t k n->
   wpAny 3e9 A (X6 a (.ref x) (Ym knd k) true fuel stand) Q E s:=by
 have hf:t.fits es.size=true:=T.fits (Wi T.few)
 intro fuel
 induction fuel with
 | zero=>rintro n stand _ ⟨N,h1,h2,_⟩ _;lia
 | succ fuel ih=>
  intro n stand hs hN hun
  unfold X6
  refine Yb (WH ho hd hf ?_)
  dsimp only
  have hg:t.gaveWay=false:=by
   unfold SetTable.gaveWay
   rw[T.mm.pos.2.2];rfl
  rw[hg]
  simp only[YY,↓reduceIte]
  rw[hs]
  have w0:Wf t.mask (start t.mask (Ym knd k)):=Wf.start _ _
  have wn:=w0.it n
  obtain ⟨j0,hj0,e0⟩:=T.room (Wd T.few)
  obtain ⟨c,hc,ec⟩:=wn.meets T.mm hj0
  obtain ⟨m,em,n1,sk,hm⟩:=go_sees (hashAt:=fun i=>(es[i]?.map (·.1)).getD 0) (h:=Ym knd k) T.dm (10 * turns t.mask) _ wn ⟨c,hc,by rw[ec];exact e0⟩
  have em:t.probe (fun i=>(es[i]?.map (·.1)).getD 0) (Ym knd k) (it t.mask n (start t.mask (Ym knd k)))=some m:=em
  have un1:Unmet knd s.heap es t k (n + n1):=by
   intro q hq
   by_cases z:q < n
   ·exact hun q z
   ·obtain ⟨i,h1,h2⟩:=sk (q - n) 1e3
    rw[←Zcp,show n + (q - n)=q by lia] at h1
    refine ⟨i,h1,fun u b eb hb=>h2 ?_⟩
    obtain ⟨k',b',e',hb'⟩:=he i _ eb
    cases e'
    dsimp only
    rw[eb]
    show Ym knd k'=_
    rw[hb'.inj hb]
  rw[←Zcp] at hm
  generalize hP:t.probe _ (Ym knd k) (it t.mask n (start t.mask (Ym knd k)))=r
  have hr:r=some m:=hP.symm.trans em
  subst hr
  clear hP
  dsimp only
  rcases hm with ⟨rfl,hm⟩ | ⟨i,rfl,hl,hh⟩
  ·exact Ye (hfree _ hm un1)
  ·dsimp only
   have hpi:=live_slot hl
   have hi:i < es.size:=by
    rw[←T.sz]
    rcases YF i t.place.size with z | z
    ·exact z
    ·rw[Y2 z] at hpi;cases hpi
   obtain ⟨k',b,ee,hb⟩:=he i _ (Yx hi)
   have ei:es[i]? = some (Ym knd k',Yy b):=by rw[Yx hi,ee]
   have onward:¬Xo knd s.heap k b->wpAny 3e9 A (X6 a (.ref x) (Ym knd k) true fuel (some (it t.mask (n1 + 1) (it t.mask n (start t.mask (Ym knd k)))))) Q E s:=by
    intro hne
    obtain ⟨N,h1,h2,h3⟩:=hN
    refine ih (n + n1 + 1) _ ?_ ⟨N,?_,by lia,h3⟩ ?_
    ·show it t.mask (n1 + 1) (it t.mask n (start t.mask (Ym knd k)))=_
     rw[←Zcp];rfl
    ·rcases YF (n + n1) N with z | z
     ·exact z
     ·exfalso
      rcases Nat.lt_or_eq_of_le z with z | z
      ·obtain ⟨i',q,_⟩:=un1 N z
       rw[q] at h3;cases h3
      ·subst z;rw[hl] at h3;cases h3
    ·intro q hq
     by_cases z:q < n + n1
     ·exact un1 q z
     ·have:q=n + n1:=by lia
      subst this
      refine ⟨i,hl,fun u b' eb=>?_⟩
      rw[ei] at eb;cases eb;exact hne
   have main:wpAny 3e9 A (match es[i]? with
     | some (fst,y)=>do
      let equal ←V3 [y] (eqBool y (Yy x))
      let __x ←setState a
      if (true&&equal)=true then pure (VU none)
       else
        match __x.2.snd.sameMemory t.moves t.mask with
        | some same=>
         match if same=true then __x.2.snd.slot (it t.mask (n + n1) (start t.mask (Ym knd k))).j else Slot.empty with
         | Slot.live i'=>
          match __x.fst[i']? with
          | some (fst,y')=>do
           let __do_lift ←isSame y' y
           let still ←pure (if __do_lift=true then some i' else none)
           match still with
            | none=>do
             rule "set.search.anew"
             X6 a (Yy x) (Ym knd k) true fuel none
            | some i'=>
             if equal=true then pure (VU (some i'))
             else X6 a (Yy x) (Ym knd k) true fuel (some (it t.mask (n1 + 1) (it t.mask n (start t.mask (Ym knd k)))))
          | none=>do
           let still ←pure none
           match still with
            | none=>do
             rule "set.search.anew"
             X6 a (Yy x) (Ym knd k) true fuel none
            | some i'=>
             if equal=true then pure (VU (some i'))
             else X6 a (Yy x) (Ym knd k) true fuel (some (it t.mask (n1 + 1) (it t.mask n (start t.mask (Ym knd k)))))
         | x_1=>do
          let still ←pure none
          match still with
           | none=>do
            rule "set.search.anew"
            X6 a (Yy x) (Ym knd k) true fuel none
           | some i'=>
            if equal=true then pure (VU (some i'))
            else X6 a (Yy x) (Ym knd k) true fuel (some (it t.mask (n1 + 1) (it t.mask n (start t.mask (Ym knd k)))))
        | _=>unsupported "set.changed-during-lookup:is-the-new-block-at-the-old-address"
     | _=>unsupported "internal:set-entry") Q E s:=by
    rw[ei]
    dsimp only
    refine Yb (Xh ((WK knd).eqBool hu hb hk ?_))
    refine Yb (WH ho hd hf ?_)
    dsimp only
    by_cases hq:k'=k
    ·rw[decide_eq_true hq]
     exact Ye (hmet i _ b ei (hq ▸ hb))
    ·rw[decide_eq_false hq]
     have hsm:t.sameMemory t.moves t.mask=some true:=by unfold SetTable.sameMemory;simp
     rw[hsm]
     simp only[VV,YY,↓reduceIte]
     rw[hl]
     dsimp only
     rw[ei]
     dsimp only
     refine Yb (wpAny_isSame_ref_self ?_)
     refine Yb (Ye ?_)
     simp only[↓reduceIte]
     exact onward fun z=>hq (hb.inj z)
   split
   ·refine Yb (seen_quiet hk (fun v hv=>?_) ?_)
    ·obtain ⟨⟨u,v'⟩,hm1,rfl⟩:=YM.mp hv
     have hm1:=XR.mp hm1
     obtain ⟨j,hj,q⟩:=Array.getElem_of_mem (Array.mem_filter.mp hm1).1
     obtain ⟨k2,b2,e2,h2⟩:=he j _ (Yx hj)
     rw[q] at e2;cases e2
     exact ⟨k2,b2,rfl,h2⟩
    ·simp only[YY,↓reduceIte]
     exact main
   ·exact main
end
section
variable {prog:Yq}{w:World}{K:Type} [DecidableEq K]{knd:KeyKind prog w K}{A:Around}{E:1e4}{s:Shared}
theorem key_keeps {h h':Heap}{ks:List K}{a d:Addr}{o:Obj}{es:Array (Int×Value)}{ep:Nat}{t:Xy}(x:Xo knd h ks a)(ho:h.get? d=some o)(hd:o.data=.set es ep t)(hs:XF d h h'):Xo knd h' ks a:=by
 obtain ⟨o',items,n,g,hc,hd',hi⟩:=x
 refine ⟨o',items,n,(hs.2 a ?_).trans g,hc,hd',hi⟩
 rintro rfl
 cases ho.symm.trans g
 rw[hd] at hd';cases hd'
def SetT (knd:KeyKind prog w K)(h:Heap)(a:Addr)(ks:List (List K)):Prop:=∃o es ep t,h.get? a=some o/\o.ExactSet/\o.data=.set es ep t/\TI t es/\ks.Nodup/\
 ∃bs:List (List K×Addr),bs.map (·.1)=ks/\(∀p∈bs,p.2 < a/\Xo knd h p.1 p.2)/\es.toList.Perm (bs.map fun p=>(Ym knd p.1,Yy p.2))
theorem T0.plainOff {t:Xy}{es:Array (Int×Value)}(T:T0 t es)(b:Bool):T0 (if b then t else { t with plain:=false }) es:=by
 cases b
 ·exact ⟨T.mm,T.dm,T.rs,T.sz,T.lt,T.rc⟩
 ·exact T
theorem get_store {h:Heap}{a:Addr}{o:Obj}{es:Array (Int×Value)}{ep:Nat}{t:Xy}(ho:h.get? a=some o)(hd:o.data=.set es ep t)(es':Array (Int×Value))(t':Xy):
  (h.update a (Obj.putSet es' t')).get? a=some { o with data:=.set es' (ep + 1) t' }:=by
 have q:=WA (Obj.putSet es' t') ho (by rw[putSet_of es' t' hd];rfl)
 rw[putSet_of es' t' hd] at q;exact q
theorem perm_ins {α:Type}(xs:Array α)(p:Nat)(x:α):(insertAt xs p x).toList.Perm (xs.toList++[x]):=by
 have q:=SetTable.insertAt_perm xs p x
 rwa[Array.toList_push] at q
theorem mask_off (t:Xy)(b:Bool):(if b then t else { t with plain:=false }).mask=t.mask/\(if b then t else { t with plain:=false }).place=t.place/\(if b then t else { t with plain:=false }).dummies=t.dummies:=by
 cases b<;>exact ⟨rfl,rfl,rfl⟩
theorem add_ {a x:Addr}{k:List K}{ks:List (List K)}{Q:Bool->Shared->Prop}(hu:3e7)(hS:SetT knd s.heap a ks)(hk:Xo knd s.heap k x)(hx:x < a)(hroom:ks.length + 1 < 77)
  (h:∀h',XF a s.heap h'->SetT knd h' a (if k∈ks then ks else ks++[k])->Q (!decide (k∈ks)) { s with heap:=h' }):
  wpAny 3e9 A (setAddHashed a (.ref x) (Ym knd k)) Q E s:=by
 obtain ⟨o,es,ep,t,ho,hex,hd,T,nd,bs,hbs,hbk,hpm⟩:=hS
 have hf:t.fits es.size=true:=T.fits (Wi T.few)
 have hlen:es.size=ks.length:=by rw[←YH,hpm.length_eq,←hbs];simp
 have he:Els knd s.heap es:=fun i e q=>by
  have hm:e∈es.toList:=XR.mpr (Vp q)
  obtain ⟨p,hp,rfl⟩:=YM.mp (hpm.mem_iff.mp hm)
  exact ⟨p.1,p.2,rfl,(hbk p hp).2⟩
 unfold setAddHashed setAddHashedIn
 refine Xh (Yb (WH ho hd hf ?_))
 dsimp only
 rw[show byScan (Yy x) es=false from rfl]
 simp only[YY,↓reduceIte]
 have stay:k∈ks->Q false s:=fun hin=>by
  have q:=h s.heap (Heap.SameBut.refl a s.heap)
  rw[if_pos hin,decide_eq_true hin] at q
  exact q ⟨o,es,ep,t,ho,hex,hd,T,nd,bs,hbs,hbk,hpm⟩
 refine Yb ?_
 unfold setSearch
 obtain ⟨j0,hj0,e0⟩:=T.room (Wd T.few)
 obtain ⟨c,hc,ec⟩:=(Wf.start t.mask (Ym knd k)).meets T.mm hj0
 refine search hu ho hd T he hk (fun i u b eb hb=>?_) (fun n hn hun=>?_) 100000 0 none rfl ⟨c,YT _,?_,(congrArg t.slot ec).trans e0⟩ (fun m hm=>absurd hm (XG _))
 ·-- it is there
  have hm:(u,Yy b)∈es.toList:=XR.mpr (Vp eb)
  obtain ⟨p,hp,q⟩:=YM.mp (hpm.mem_iff.mp hm)
  cases q
  have:=(hbk p hp).2.inj hb
  exact Ye (stay (by rw[←hbs,←this];exact VA hp))
 ·-- it is new
  have hnew:k∉ks:=by
   intro hin
   rw[←hbs] at hin
   obtain ⟨p,hp,rfl⟩:=YM.mp hin
   have hm:(Ym knd p.1,Yy p.2)∈es.toList:=hpm.mem_iff.mpr (YM.mpr ⟨p,hp,rfl⟩)
   obtain ⟨i,hi,q⟩:=Array.getElem_of_mem (XR.mp hm)
   have ei:es[i]? = some (Ym knd p.1,Yy p.2):=by rw[Yx hi,q]
   obtain ⟨j,pj⟩:∃j,t.place[i]? = some j:=⟨_,Yx (by rw[T.sz];exact hi)⟩
   obtain ⟨m,h1,h2⟩:=T.rc i j _ pj ei
   have h1:(it t.mask m (start t.mask (Ym knd p.1))).j=j:=h1
   rcases V0 m n with z | z | z
   ·obtain ⟨i',q1,q2⟩:=hun m z
    rw[h1,ZbU T.rs pj] at q1
    cases q1
    exact q2 _ _ ei (hbk p hp).2
   ·subst z
    rw[h1,ZbU T.rs pj] at hn;cases hn
   ·obtain ⟨i',q1⟩:=h2 n z
    rw[ZbU T.rs q1] at hn;cases hn
  have hway:∀m,m < n->∃i:Nat,t.place[i]? = some (it t.mask m (start t.mask (Ym knd k))).j:=fun m hm=>let ⟨i,q,_⟩:=hun m hm;⟨i,live_slot q⟩
  dsimp only
  refine Yb (WH ho hd hf ?_)
  dsimp only
  obtain ⟨t1,p,hput⟩:∃t1 p,t.put (it t.mask n (start t.mask (Ym knd k))).j=(t1,p):=⟨_,_,rfl⟩
  obtain ⟨hp,hmk,_,T1⟩:=T.toT0.put (x:=Yy x) (it_lt T.mm n) hn hway t1 p hput
  rw[hput]
  dsimp only
  have tail:∀b:Bool,wpAny 3e9 A (do
    storeSet a (insertAt es p (Ym knd k,Yy x)) (if b=true then t1 else { t1 with plain:=false })
    if (!false&&(if b=true then t1 else { t1 with plain:=false }).tooFull)=true then do
      setRelay a (Vl (es.size + 1))
      pure true
     else pure true) Q E s:=by
   intro b
   have T2:=T1.plainOff b
   obtain ⟨m1,m2,m3⟩:=mask_off t1 b
   generalize (if b=true then t1 else { t1 with plain:=false })=t2 at T2 m1 m2 m3 ⊢
   have hmk2:t2.mask=t.mask:=m1.trans hmk
   have hz:(insertAt es p (Ym knd k,Yy x)).size=es.size + 1:=ins_size _ _ _
   have hbig:=T.few
   have hM:=T.mm.pos
   refine Yb (wpAny_storeSet_of ho hd ?_ (by rw[hz,YS];lia))
   have g1:=get_store ho hd (insertAt es p (Ym knd k,Yy x)) t2
   have sb1:=XD s.heap a (Obj.putSet (insertAt es p (Ym knd k,Yy x)) t2)
   generalize hh1:s.heap.update a (Obj.putSet (insertAt es p (Ym knd k,Yy x)) t2)=h1 at g1 sb1
   have done_:∀(h':Heap) (es':Array (Int×Value)) (ep':Nat) (t':Xy),XF a s.heap h'->h'.get? a=some { o with data:=.set es' ep' t' }->TI t' es'->es'.toList.Perm (es.toList++[(Ym knd k,Yy x)])->Q true { s with heap:=h' }:=by
    intro h' es' ep' t' sb g Ti pm
    have q:=h h' sb
    rw[if_neg hnew,decide_eq_false hnew] at q
    refine q ⟨_,es',ep',t',g,hex,rfl,Ti,?_,bs++[(k,x)],by simp[hbs],fun p' hp'=>?_,?_⟩
    ·rw[We]
     exact ⟨nd,by simp,fun y hy z hz e=>by rw[YD] at hz;subst hz;subst e;exact hnew hy⟩
    ·rcases YX.mp hp' with z | z
     ·exact ⟨(hbk p' z).1,key_keeps (hbk p' z).2 ho hd sb⟩
     ·rw[YD] at z;subst z;exact ⟨hx,key_keeps hk ho hd sb⟩
    ·rw[W9]
     exact pm.trans (hpm.append_right _)
   by_cases hfull:(es.size + 1) * 5 < t2.mask * 3
   ·have:t2.tooFull=false:=by
     unfold SetTable.tooFull SetTable.fill
     rw[T2.dm,T2.sz,hz]
     simp;lia
    rw[this]
    simp only[VV,YY,↓reduceIte]
    exact Ye (done_ h1 _ _ t2 sb1 g1 ⟨T2,by rw[hz];exact hfull⟩ (perm_ins _ _ _))
   ·have:t2.tooFull=true:=by
     unfold SetTable.tooFull SetTable.fill
     rw[T2.dm,T2.sz,hz]
     simp;lia
    rw[this]
    simp only[Bool.not_false,Bool.and_self,↓reduceIte]
    refine Yb ?_
    unfold setRelay
    have hf2:t2.fits (insertAt es p (Ym knd k,Yy x)).size=true:=T2.fits (by rw[hz,hmk2];lia)
    have hd1:({ o with data:=.set (insertAt es p (Ym knd k,Yy x)) (ep + 1) t2 }:Obj).data=.set (insertAt es p (Ym knd k,Yy x)) (ep + 1) t2:=rfl
    refine Yb (WH (s:={ s with heap:=h1 }) g1 hd1 hf2 ?_)
    dsimp only
    obtain ⟨gM,gS⟩:=grown_ok T.mm T.fl (by rw[hmk2] at hfull;exact hfull) (by rw[hlen];exact hroom)
    have hsl:¬VP (Vl (es.size + 1)) > sizeLine:=by
     have:=gM.pos;rw[YS];lia
    rw[if_neg hsl]
    obtain ⟨t',order,e1,e2,e3,e4,_,_⟩:=laid_ok (mask:=VP (Vl (es.size + 1)) - 1) (finger:=t2.finger) (moves:=t2.movedTo (VP (Vl (es.size + 1)) - 1)) (led:=t2.led) (plain:=t2.plain) gM (insertAt es p (Ym knd k,Yy x)) (by rw[hz];exact gS)
    have e1:t2.relaid ((insertAt es p (Ym knd k,Yy x)).map (·.1)) (Vl (es.size + 1))=some (t',order):=e1
    rw[e1]
    refine Yb ?_
    show wpAny _ _ (if ((order.filterMap ((insertAt es p (Ym knd k,Yy x))[·]?)).size != (insertAt es p (Ym knd k,Yy x)).size)=true then _ else _) _ _ _
    rw[if_neg (by rw[e2];simp)]
    refine Ye ?_
    dsimp only
    have g2:=get_store g1 hd1 (order.filterMap ((insertAt es p (Ym knd k,Yy x))[·]?)) t'
    refine wpAny_storeSet_of (s:={ s with heap:=h1 }) g1 hd1 ?_ (by rw[e2,hz,YS];lia)
    exact Ye (done_ _ _ _ t' (sb1.trans (XD _ a _)) g2 e4 (e3.trans (perm_ins _ _ _)))
  cases hpl:t1.plain with
  | true=>
   simp only[↓reduceIte]
   refine Yb (hbv_tuple hk fun b=>?_)
   exact tail b
  | false=>
   simp only[YY,↓reduceIte]
   refine Yb (Ye ?_)
   exact tail true
 ·have:=T.mm.pos;unfold turns at hc;lia
end
end Se
namespace Se
open PySem PySem.Spec
section
variable {prog:Yq}{w:World}{A:Around}{R:Result->Shared->Prop}{I S:Addr}{fp wr:3e1}{G:Array GenState->Array GenState->Prop}{n:Nat}{P:Nat->Value->Prop}{Z:Nat->Shared->Prop}{J:Nat->Heap->Prop}
theorem loop_ (W:WalksS prog w A.in1 I fp wr G n P Z)(out:S∉fp)
  (add:∀(i:Nat) (v:Value) (s:Shared) (Q:Bool->Shared->Prop) (E:1e4),i < n->P i v->J i s.heap->(∀b h' tk,XF S s.heap h'->J (i + 1) h'->s.toks<=tk->Q b { s with heap:=h',toks:=tk })->wpAny (model prog w) A.in1 (setAdd S v) Q E s)
  (keep:∀(i:Nat) (h h':Heap),J i h->(∀b o,b∉wr->h.get? b=some o->h'.get? b=some o)->J i h'):
  ∀(m i:Nat) (s:Shared),i + m=n->Z i s->J i s.heap->(∀s',Moved (S::wr) G s s'->J n s'.heap->R (.ok (.ret .none)) s')->
   Uf 3e9 A (.builtin "set.update.loop" ⟨[.ref S,.ref I],[]⟩) R s:=by
 have up:∀b∈wr,b∈S::wr:=fun b m=>.tail _ m
 intro m
 induction m with
 | zero=>
  rintro i s rfl z j r
  refine Wg WP ?_;rw[Vt XW _]
  show wpAny 3e9 A.in1 (pyNext (.ref I) >>= _) _ _ s
  refine Yb (W.done s _ _ z fun s' mv=>?_);show wpAny 3e9 A.in1 (ret Xj) _ _ s'
  exact Ye (r s' (mv.mono up) (keep _ _ _ j mv.heap))
 | succ m ih=>
  intro i s e z j r
  refine Wg WP ?_;rw[Vt XW _]
  show wpAny 3e9 A.in1 (pyNext (.ref I) >>= _) _ _ s
  refine Yb (W.item i s _ _ 1e3 z fun v s' p z' mv=>?_)
  show wpAny 3e9 A.in1 (V3 [v] (setAdd S v) >>= _) _ _ s'
  refine Yb (Xh (add i v s' _ _ 1e3 p (keep _ _ _ j mv.heap) fun b h' tk sb j' tl=>?_))
  refine Ye ⟨plainId_quiet XW _,ih (i + 1) _ 1e3 (W.frame _ s' _ _ z' tl fun c hc o g=>?_) j' fun s'' mv2 j2=>?_⟩
  ·rw[sb.2 c (by rintro rfl;exact out hc)];exact g
  ·refine r s'' (Moved.trans W.gtrans ((mv.mono up).then_heap tl fun c o hc g=>?_) mv2) j2
   rw[sb.2 c (by rintro rfl;exact hc (.head _))];exact g
end
theorem sub_ts:isSubtype (.type "tuple") (.type "set")=pure false:=by rw[isSubtype_type];kernel_rfl
theorem sub_tf:isSubtype (.type "tuple") (.type "frozenset")=pure false:=by rw[isSubtype_type];kernel_rfl
noncomputable abbrev newSetObj (led:Bool):Obj:={ cls:=.type "set",dict:=none,data:=.set #[] 0 (.fresh 0 0 led) }
section
variable {prog:Yq}{w:World}{A:Around}{E:1e4}{s:Shared}
theorem init_ {l D:Addr}{items:Array Value}{J:Nat->Heap->Prop}{led:Bool}{g0:Heap}{P:PySem.Fin->Shared->Prop}(hh:A.handled=none)(src:g0.IsList l items\/g0.IsTuple l items)(hD:D=g0.objs.size)
  (j0:∀h',(∀b o,b < D->g0.get? b=some o->h'.get? b=some o)->h'.get? D=some (newSetObj led)->J 0 h')
  (add:∀(A':Around) (i:Nat) (v:Value) (s:Shared) (Q:Bool->Shared->Prop) (E:1e4),A'.units<=A.units + 4->i < items.size->items[i]? = some v->J i s.heap->(∀b h' tk,XF D s.heap h'->J (i + 1) h'->s.toks<=tk->Q b { s with heap:=h',toks:=tk })->wpAny (model prog w) A' (setAdd D v) Q E s)
  (keep:∀(i:Nat) (h h':Heap),J i h->(∀b o,b≠D + 1->h.get? b=some o->h'.get? b=some o)->J i h')
  (hs:s.heap=g0.push (newSetObj led))
  (h:∀h' tk,J items.size h'->(∀b o,b < D->g0.get? b=some o->h'.get? b=some o)->P (.done (.ret .none)) { s with heap:=h',toks:=tk }):
  wpAny 3e9 A (V5.«set.__init__» ⟨[.ref D,.ref l],[]⟩) P E s:=by
 have hgS:s.heap.get? D=some (newSetObj led):=by rw[hs,hD];exact Yp _ rfl
 have hne:(X1 "list"==X1 "dict")=false:=by decide
 have hne2:(X1 "tuple"==X1 "dict")=false:=by decide
 have a1:=PySem.F.sub_list_set
 have a2:=PySem.F.sub_list_frozenset
 have a3:=sub_ts
 have a4:=sub_tf
 have hl:l < g0.objs.size:=by rcases src with ⟨o,g,_⟩ | ⟨o,g,_⟩<;>exact Ys g
 have hz:s.heap.objs.size=D + 1:=by rw[hs,Heap.size_push,hD]
 have hlD:l < D:=by rw[hD];exact hl
 have n1:l≠s.heap.objs.size:=by rw[hz];exact Yo (Wd hlD)
 have n2:D∉[s.heap.objs.size,l]:=by
  rw[hz];intro m
  rcases Yn.mp m with q | m
  ·exact absurd q (Yo (Vr D))
  ·exact absurd (YD.mp m) (X3 hlD)
 have n3:∀b:Addr,b < D->b∉[D,s.heap.objs.size]:=fun b hb m=>by
  rw[hz] at m
  rcases Yn.mp m with q | m
  ·exact absurd q (Yo hb)
  ·exact absurd (YD.mp m) (Yo (Wd hb))
 have n4:∀b:Addr,b∉[s.heap.objs.size]->b≠D + 1:=fun b m q=>m (by rw[hz,q];exact .head _)
 have n5:∀b:Addr,b≠D + 1->b∉[s.heap.objs.size]:=fun b q m=>q (by rw[hz] at m;exact YD.mp m)
 have old:∀b o,b < D->g0.get? b=some o->s.heap.get? b=some o:=fun b o hb e=>by rw[hs];exact Yc _ e
 rcases src with ⟨ol,gl,hc,nl,hd⟩ | ⟨ol,gl,hc,nl,hd⟩
 ·obtain ⟨ocls,odict,odata,oslots⟩:=ol
  simp only at hc hd;subst hc hd
  have gl':s.heap.get? l=some ⟨.type "list",odict,.seq items nl,oslots⟩:=by rw[hs];exact Yc _ gl
  have il:s.heap.IsList l items:=⟨_,gl',rfl,nl,rfl⟩
  unfold V5.«set.__init__» noKeywords Vw;generalize hPI:pyIter=PI
  wp_walk
  subst hPI
  refine VZ il ?_;refine Yb (VW ?_)
  refine loop_ (J:=J) ((Walks.list (by simp[hh]) _ l n1 items).toS) (S:=D) n2 (fun i v s Q E hi hv j k=>add _ i v s Q E (by simp[Around.in1]) hi hv j k) (fun i h h' j k=>keep i h h' j fun b o nb e=>k b o (n5 b nb) e) items.size 0 _ (X5 _) ⟨⟨_,Yp _ rfl,rfl,rfl⟩,il.push _⟩ (j0 _ (fun b o hb e=>Yc _ (old b o hb e)) (Yc _ hgS)) fun s' mv j=>?_
  obtain ⟨h',g',d',tk',os'⟩:=s'
  cases (show g'=s.gens from mv.gens);cases (show d'=s.drawn from mv.drawn);cases (show os'=s.os from mv.os)
  show wpAny _ _ _ _ _ _
  refine Ye ?_;show wpAny 3e9 _ (ret Xj) _ _ _
  exact Ye (h h' tk' j fun b o hb e=>mv.heap b o (n3 b hb) (Yc _ (old b o hb e)))
 ·obtain ⟨ocls,odict,odata,oslots⟩:=ol
  simp only at hc hd;subst hc hd
  have gl':s.heap.get? l=some ⟨.type "tuple",odict,.seq items nl,oslots⟩:=by rw[hs];exact Yc _ gl
  have il:s.heap.IsTuple l items:=⟨_,gl',rfl,nl,rfl⟩
  unfold V5.«set.__init__» noKeywords Vw;generalize hPI:pyIter=PI
  wp_walk
  subst hPI
  refine VQ il ?_;refine Yb (VW ?_)
  refine loop_ (J:=J) ((Walks.tuple (by simp[hh]) _ l n1 items).toS) (S:=D) n2 (fun i v s Q E hi hv j k=>add _ i v s Q E (by simp[Around.in1]) hi hv j k) (fun i h h' j k=>keep i h h' j fun b o nb e=>k b o (n5 b nb) e) items.size 0 _ (X5 _) ⟨⟨_,Yp _ rfl,rfl,rfl⟩,il.push _⟩ (j0 _ (fun b o hb e=>Yc _ (old b o hb e)) (Yc _ hgS)) fun s' mv j=>?_
  obtain ⟨h',g',d',tk',os'⟩:=s'
  cases (show g'=s.gens from mv.gens);cases (show d'=s.drawn from mv.drawn);cases (show os'=s.os from mv.os)
  show wpAny _ _ _ _ _ _
  refine Ye ?_;show wpAny 3e9 _ (ret Xj) _ _ _
  exact Ye (h h' tk' j fun b o hb e=>mv.heap b o (n3 b hb) (Yc _ (old b o hb e)))
end
section
variable {prog:Yq}{w:World}{A:Around}{E:1e4}{s:Shared}
theorem call_ {l:Addr}{items:Array Value}{J:Nat->Heap->Prop}{Q:1e4}(hh:A.handled=none)(src:s.heap.IsList l items\/s.heap.IsTuple l items)
  (j0:∀(led:Bool) h',(∀b o,b < s.heap.objs.size->s.heap.get? b=some o->h'.get? b=some o)->h'.get? s.heap.objs.size=some (newSetObj led)->J 0 h')
  (add:∀(A':Around) (i:Nat) (v:Value) (s':Shared) (Q:Bool->Shared->Prop) (E:1e4),A'.units<=A.units + 8->i < items.size->items[i]? = some v->J i s'.heap->(∀b h' tk,XF s.heap.objs.size s'.heap h'->J (i + 1) h'->s'.toks<=tk->Q b { s' with heap:=h',toks:=tk })->wpAny (model prog w) A' (setAdd s.heap.objs.size v) Q E s')
  (keep:∀(i:Nat) (h h':Heap),J i h->(∀b o,b≠s.heap.objs.size + 1->h.get? b=some o->h'.get? b=some o)->J i h')
  (h:∀h' tk,J items.size h'->(∀b o,b < s.heap.objs.size->s.heap.get? b=some o->h'.get? b=some o)->Q (.ref s.heap.objs.size) { s with heap:=h',toks:=tk }):
  wpAny 3e9 A (call (.type "set") [.ref l]) Q E s:=by
 obtain ⟨cc,tl,hmro⟩:=Xu.mro
 have c1:=Xu.made
 have c2:=Xu.sub
 refine wpAny_call (codeAny_of_tree ?_);show wpAny 3e9 _ (callAny (.type "set") _) _ _ _
 refine Ye ⟨VR _ (by decide +kernel),Wg PySem.F.entry_type_call ?_⟩;rw[Around.under_plain (weight_type_call_type "set" [.ref l] []) rfl]
 have c3:=Xu.notType
 have c4:=Xu.canCreate
 have c5:=PySem.F.typeCall_set_1 (.ref l)
 repeat (any_goals (first | assumption | wp_step))
 refine VL (code_set_new_1 (.ref l) (E:=E) (Q₁:=fun obj s1=>∃led:Bool,obj=.ref s.heap.objs.size/\s1={ s with heap:=s.heap.push (newSetObj led) }) fun led=>⟨led,rfl,rfl⟩) fun r s1 hr=>?_
 cases r with
 | error e=>exact hr
 | ok fl=>
  cases fl with
  | ret obj=>
   obtain ⟨led,rfl,rfl⟩:=hr
   have g1:(s.heap.push (newSetObj led)).get? s.heap.objs.size=some (newSetObj led):=Yp _ rfl
   have t1:Shared.TypeIs { s with heap:=s.heap.push (newSetObj led) } (.ref s.heap.objs.size) "set":=⟨_,g1,rfl⟩
   have c6:=Xu.init.lookup
   have c7:=Xu.init.bind (.ref s.heap.objs.size)
   repeat (any_goals (first | assumption | wp_step))
   refine VL (codeAny_call_builtin (R:=wants (fun r s2=>r=.none/\∃h' tk,s2={ s with heap:=h',toks:=tk }/\J items.size h'/\(∀b o,b < s.heap.objs.size->s.heap.get? b=some o->h'.get? b=some o)) E) Xu.init.plain PySem.F.entry_set_init (check_set_init_1 t1 ?_)) fun r2 s2 hr2=>?_
   ·refine init_ (g0:=s.heap) (led:=led) (J:=J) (D:=s.heap.objs.size) (by simp[hh]) src rfl (j0 led) (fun A' i v s' Q E hu=>add A' i v s' Q E (by simp[Around.in1] at hu ⊢;lia)) keep rfl fun h' tk j k=>⟨rfl,h',tk,rfl,j,k⟩
   ·cases r2 with
    | error e=>exact hr2
    | ok fl2=>
     cases fl2 with
     | ret r=>
      obtain ⟨rfl,h',tk,rfl,j,k⟩:=hr2
      repeat (any_goals (first | assumption | wp_step))
      exact h _ _ j k
     | _=>exact hr2.elim
  | _=>exact hr.elim
end
end Se
namespace Pu
open PySem PySem.Spec PyProof.Rows L2
inductive PV where
 | non | bl (b:Bool) | int (i:Int) | str (x:Str) | tup (xs:List PV) | lst (xs:List PV) | dct (ks vs:List PV) | dtt (ks:List (List Key)) (vs:List PV) | fn (a:Addr) | ty (n:String)
noncomputable def kP:Key->PV
 | .inl i=>.int i
 | .inr x=>.str x
def LsR (K:W.Frag)(ι:3e1)(H:Hp)(a:Addr)(vs:List V):Prop:=
 (a∉ι/\Rd H a (.lst vs))\/
  ∃(o:Obj) (its:Array Value) (n:Nat),K.lookup a=some o/\o.cls=.type "list"/\o.dict=none/\o.data=.seq its n/\its.size<=Yu/\Vals vs its.toList
theorem LsR.sq {K:W.Frag}{ι:3e1}{H:Hp}{a:Addr}{vs:List V}(h:LsR K ι H a vs):SqL K H a vs:=by
 rcases h with ⟨_,h⟩ | h
 ·exact .inl h
 ·exact .inr h
def TpR (H:Hp)(a:Addr)(vs:List V):Prop:=H a=some (.tup vs)
theorem TpR.sq {K:W.Frag}{H:Hp}{a:Addr}{vs:List V}(h:TpR H a vs):SqT K H a vs:=.inl (.inl h)
mutual
noncomputable def Rep (K:W.Frag)(ι:3e1)(H:Hp):PV->V->Prop
 | .non,v=>v=.non
 | .bl b,v=>v=.bl b
 | .int i,v=>v=.int i
 | .str x,v=>v=.str x/\x.length<=Yu
 | .tup ps,v=>∃a vs,v=.ref a/\TpR H a vs/\Reps K ι H ps vs
 | .lst ps,v=>∃a vs,v=.ref a/\LsR K ι H a vs/\Reps K ι H ps vs
 | .dct ks ps,v=>∃(a:Addr) (qs:List Key) (vs:List V),v=.ref a/\a∉ι/\H a=some (.dK (qs.zip vs))/\qs.length=vs.length/\ks=qs.map kP/\Reps K ι H ps vs
 | .dtt ks ps,v=>∃(a:Addr) (vs:List V),v=.ref a/\a∉ι/\Rd H a (.dT (ks.zip vs))/\ks.length=vs.length/\Reps K ι H ps vs
 | .fn a,v=>v=.ref a
 | .ty n,v=>v=.ty n
noncomputable def Reps (K:W.Frag)(ι:3e1)(H:Hp):List PV->List V->Prop
 | [],vs=>vs=[]
 | p::ps,vs=>∃v r,vs=v::r/\Rep K ι H p v/\Reps K ι H ps r
end
inductive SV where
 | v (p:PV) | c (k:Nat)
abbrev Cs:=List PV
def RepS (K:W.Frag)(ι:3e1)(H:Hp):SV->V->Prop
 | .v p,x=>Rep K ι H p x
 | .c k,x=>∃a,x=.ref a/\ι[k]? = some a
def RepSs (K:W.Frag)(ι:3e1)(H:Hp):List SV->List V->Prop
 | [],vs=>vs=[]
 | p::ps,vs=>∃v r,vs=v::r/\RepS K ι H p v/\RepSs K ι H ps r
def CellOk (K:W.Frag)(ι:3e1)(H:Hp)(a:Addr):PV->Prop
 | .lst ps=>∃vs,H a=some (.lst vs)/\Reps K ι H ps vs
 | .dct ks ps=>∃(qs:List Key) (vs:List V),H a=some (.dK (qs.zip vs))/\qs.length=vs.length/\ks=qs.map kP/\Reps K ι H ps vs
 | .dtt ks ps=>∃(vs:List V),H a=some (.dT (ks.zip vs))/\ks.length=vs.length/\Reps K ι H ps vs
 | _=>False
structure CR (K:W.Frag)(ι:List Addr)(H:Hp)(C:Cs):Prop where
 len:ι.length=C.length
 nd:ι.Nodup
 ok:∀(k:Nat) (a:Addr) (c:PV),ι[k]? = some a->C[k]? = some c->CellOk K ι H a c
def Fr (ι:3e1)(H H':Hp):Prop:=∀b o,b∉ι->H b=some o->H' b=some o
theorem Fr.refl {ι:3e1}{H:Hp}:Fr ι H H:=fun _ _ _ h=>h
theorem Fr.trans {ι:3e1}{H H1 H2:Hp}(a:Fr ι H H1)(b:Fr ι H1 H2):Fr ι H H2:=fun c o n h=>b c o n (a c o n h)
theorem Fr.new {ι:3e1}{H:Hp}{p:Addr}{o:HO}(h:H p=none):Fr ι H (upd H p o):=fun b u _ e=>by rw[Zax (Zaq e h)];exact e
section
variable {K:W.Frag}{ι:3e1}{H H':Hp}{C:Cs}
theorem CR.at' (cr:CR K ι H C){a:Addr}(h:a∈ι):∃(k:Nat) (c:PV),ι[k]? = some a/\C[k]? = some c/\CellOk K ι H a c:=by
 obtain ⟨k,hk,e⟩:=XB h
 have h1:ι[k]? = some a:=by rw[Ya hk,e]
 have hk2:k < C.length:=by rw[←cr.len];exact hk
 exact ⟨k,C[k],h1,Ya hk2,cr.ok k a _ h1 (Ya hk2)⟩
theorem CR.mut (cr:CR K ι H C){a:Addr}(h:a∈ι):(∃vs,H a=some (.lst vs))\/(∃kvs,H a=some (.dK kvs))\/∃kvs,H a=some (.dT kvs):=by
 obtain ⟨k,c,_,_,ok⟩:=cr.at' h
 cases c with
 | lst ps=>obtain ⟨vs,e,_⟩:=ok;exact .inl ⟨vs,e⟩
 | dct ks ps=>obtain ⟨qs,vs,e,_⟩:=ok;exact .inr (.inl ⟨_,e⟩)
 | dtt ks ps=>obtain ⟨vs,e,_⟩:=ok;exact .inr (.inr ⟨_,e⟩)
 | _=>exact ok.elim
theorem CR.notup (cr:CR K ι H C){a:Addr}{o:HO}(e:H a=some o)(h1:∀vs,o≠.lst vs)(h2:∀kvs,o≠.dK kvs)(h3:∀kvs,o≠.dT kvs:=by intro kvs z;cases z):a∉ι:=fun h=>by
 rcases cr.mut h with ⟨vs,z⟩ | ⟨kvs,z⟩ | ⟨kvs,z⟩
 ·rw[e] at z;exact h1 vs (YA z)
 ·rw[e] at z;exact h2 kvs (YA z)
 ·rw[e] at z;exact h3 kvs (YA z)
theorem tpR_mono (cr:CR K ι H C)(fr:Fr ι H H'){a:Addr}{vs:List V}(h:TpR H a vs):TpR H' a vs:=
 fr _ _ (cr.notup h (fun _ e=>nomatch e) fun _ e=>nomatch e) h
theorem LsR.mono (fr:Fr ι H H'){a:Addr}{vs:List V}(h:LsR K ι H a vs):LsR K ι H' a vs:=by
 rcases h with ⟨n,h | ⟨o,h⟩⟩ | h
 ·exact .inl ⟨n,.inl (fr _ _ n h)⟩
 ·exact .inl ⟨n,.inr ⟨o,fr _ _ n h⟩⟩
 ·exact .inr h
theorem rd_mono {a:Addr}{u:HO}(k:∀o,H a=some o->H' a=some o)(h:Rd H a u):Rd H' a u:=by
 rcases h with h | ⟨o,h⟩
 ·exact .inl (k _ h)
 ·exact .inr ⟨o,k _ h⟩
mutual
theorem Rep.mono (cr:CR K ι H C)(fr:Fr ι H H'):∀(p:PV) (v:V),Rep K ι H p v->Rep K ι H' p v
 | .non,v,h=>by unfold Rep at h ⊢;exact h
 | .bl b,v,h=>by unfold Rep at h ⊢;exact h
 | .int i,v,h=>by unfold Rep at h ⊢;exact h
 | .str x,v,h=>by unfold Rep at h ⊢;exact h
 | .tup ps,v,h=>by
  unfold Rep at h ⊢
  obtain ⟨a,vs,e,sq,r⟩:=h
  exact ⟨a,vs,e,tpR_mono cr fr sq,Reps.mono cr fr ps vs r⟩
 | .lst ps,v,h=>by
  unfold Rep at h ⊢
  obtain ⟨a,vs,e,sq,r⟩:=h
  exact ⟨a,vs,e,sq.mono fr,Reps.mono cr fr ps vs r⟩
 | .dct ks ps,v,h=>by
  unfold Rep at h ⊢
  obtain ⟨a,qs,vs,e,n,hd,hl,hk,r⟩:=h
  exact ⟨a,qs,vs,e,n,fr _ _ n hd,hl,hk,Reps.mono cr fr ps vs r⟩
 | .dtt ks ps,v,h=>by
  unfold Rep at h ⊢
  obtain ⟨a,vs,e,n,hd,hl,r⟩:=h
  exact ⟨a,vs,e,n,rd_mono (fun o e=>fr _ o n e) hd,hl,Reps.mono cr fr ps vs r⟩
 | .fn a,v,h=>by unfold Rep at h ⊢;exact h
 | .ty n,v,h=>by unfold Rep at h ⊢;exact h
theorem Reps.mono (cr:CR K ι H C)(fr:Fr ι H H'):∀(ps:List PV) (vs:List V),Reps K ι H ps vs->Reps K ι H' ps vs
 | [],vs,h=>by unfold Reps at h ⊢;exact h
 | p::ps,vs,h=>by
  unfold Reps at h ⊢
  obtain ⟨v,r,e,h1,h2⟩:=h
  exact ⟨v,r,e,Rep.mono cr fr p v h1,Reps.mono cr fr ps r h2⟩
end
theorem RepS.mono (cr:CR K ι H C)(fr:Fr ι H H'){s:SV}{v:V}(h:RepS K ι H s v):RepS K ι H' s v:=by
 cases s with
 | v p=>exact Rep.mono cr fr p v h
 | c k=>exact h
mutual
theorem Rep.stay (sm:∀b o,H b=some o->H' b=some o):∀(p:PV) (v:V),Rep K ι H p v->Rep K ι H' p v
 | .non,v,h=>by unfold Rep at h ⊢;exact h
 | .bl b,v,h=>by unfold Rep at h ⊢;exact h
 | .int i,v,h=>by unfold Rep at h ⊢;exact h
 | .str x,v,h=>by unfold Rep at h ⊢;exact h
 | .tup ps,v,h=>by
  unfold Rep at h ⊢
  obtain ⟨a,vs,e,sq,r⟩:=h
  exact ⟨a,vs,e,sm _ _ sq,Reps.stay sm ps vs r⟩
 | .lst ps,v,h=>by
  unfold Rep at h ⊢
  obtain ⟨a,vs,e,sq,r⟩:=h
  exact ⟨a,vs,e,sq.mono (fun b o _ e=>sm b o e),Reps.stay sm ps vs r⟩
 | .dct ks ps,v,h=>by
  unfold Rep at h ⊢
  obtain ⟨a,qs,vs,e,n,hd,hl,hk,r⟩:=h
  exact ⟨a,qs,vs,e,n,sm _ _ hd,hl,hk,Reps.stay sm ps vs r⟩
 | .dtt ks ps,v,h=>by
  unfold Rep at h ⊢
  obtain ⟨a,vs,e,n,hd,hl,r⟩:=h
  exact ⟨a,vs,e,n,rd_mono (fun o e=>sm _ o e) hd,hl,Reps.stay sm ps vs r⟩
 | .fn a,v,h=>by unfold Rep at h ⊢;exact h
 | .ty n,v,h=>by unfold Rep at h ⊢;exact h
theorem Reps.stay (sm:∀b o,H b=some o->H' b=some o):∀(ps:List PV) (vs:List V),Reps K ι H ps vs->Reps K ι H' ps vs
 | [],vs,h=>by unfold Reps at h ⊢;exact h
 | p::ps,vs,h=>by
  unfold Reps at h ⊢
  obtain ⟨v,r,e,h1,h2⟩:=h
  exact ⟨v,r,e,Rep.stay sm p v h1,Reps.stay sm ps r h2⟩
end
mutual
theorem Rep.cells {ι':3e1}(hs:∀b o,H b=some o->b∉ι->b∉ι'):∀(p:PV) (v:V),Rep K ι H p v->Rep K ι' H p v
 | .non,v,h=>by unfold Rep at h ⊢;exact h
 | .bl b,v,h=>by unfold Rep at h ⊢;exact h
 | .int i,v,h=>by unfold Rep at h ⊢;exact h
 | .str x,v,h=>by unfold Rep at h ⊢;exact h
 | .tup ps,v,h=>by
  unfold Rep at h ⊢
  obtain ⟨a,vs,e,sq,r⟩:=h
  exact ⟨a,vs,e,sq,Reps.cells hs ps vs r⟩
 | .lst ps,v,h=>by
  unfold Rep at h ⊢
  obtain ⟨a,vs,e,sq,r⟩:=h
  refine ⟨a,vs,e,?_,Reps.cells hs ps vs r⟩
  rcases sq with ⟨n,q | ⟨o,q⟩⟩ | q
  ·exact .inl ⟨hs _ _ q n,.inl q⟩
  ·exact .inl ⟨hs _ _ q n,.inr ⟨o,q⟩⟩
  ·exact .inr q
 | .dct ks ps,v,h=>by
  unfold Rep at h ⊢
  obtain ⟨a,qs,vs,e,n,hd,hl,hk,r⟩:=h
  exact ⟨a,qs,vs,e,hs _ _ hd n,hd,hl,hk,Reps.cells hs ps vs r⟩
 | .dtt ks ps,v,h=>by
  unfold Rep at h ⊢
  obtain ⟨a,vs,e,n,hd,hl,r⟩:=h
  exact ⟨a,vs,e,by rcases id hd with q | ⟨o,q⟩<;>exact hs _ _ q n,hd,hl,Reps.cells hs ps vs r⟩
 | .fn a,v,h=>by unfold Rep at h ⊢;exact h
 | .ty n,v,h=>by unfold Rep at h ⊢;exact h
theorem Reps.cells {ι':3e1}(hs:∀b o,H b=some o->b∉ι->b∉ι'):∀(ps:List PV) (vs:List V),Reps K ι H ps vs->Reps K ι' H ps vs
 | [],vs,h=>by unfold Reps at h ⊢;exact h
 | p::ps,vs,h=>by
  unfold Reps at h ⊢
  obtain ⟨v,r,e,h1,h2⟩:=h
  exact ⟨v,r,e,Rep.cells hs p v h1,Reps.cells hs ps r h2⟩
end
theorem Reps.nil:Reps K ι H [] []:=by unfold Reps;rfl
theorem Reps.cons {p:PV}{v:V}{ps:List PV}{vs:List V}(h:Rep K ι H p v)(t:Reps K ι H ps vs):Reps K ι H (p::ps) (v::vs):=by unfold Reps;exact ⟨v,vs,rfl,h,t⟩
theorem Reps.inv {p:PV}{ps:List PV}{vs:List V}(h:Reps K ι H (p::ps) vs):∃v r,vs=v::r/\Rep K ι H p v/\Reps K ι H ps r:=by unfold Reps at h;exact h
theorem Reps.inv0 {vs:List V}(h:Reps K ι H [] vs):vs=[]:=by unfold Reps at h;exact h
theorem Reps.length:∀{ps:List PV} {vs:List V},Reps K ι H ps vs->ps.length=vs.length
 | [],vs,h=>by rw[h.inv0];rfl
 | p::ps,vs,h=>by obtain ⟨v,r,rfl,_,t⟩:=h.inv;rw[YL,YL,t.length]
theorem Reps.append:∀{ps qs:List PV} {vs ws:List V},Reps K ι H ps vs->Reps K ι H qs ws->Reps K ι H (ps++qs) (vs++ws)
 | [],_,vs,_,h,t=>by rw[h.inv0];exact t
 | p::ps,_,vs,_,h,t=>by obtain ⟨v,r,rfl,h1,h2⟩:=h.inv;exact .cons h1 (h2.append t)
theorem Reps.get:∀{ps:List PV} {vs:List V} {i:Nat} {p:PV},Reps K ι H ps vs->ps[i]? = some p->∃v,vs[i]? = some v/\Rep K ι H p v
 | [],_,_,_,h,e=>by simp at e
 | q::ps,vs,0,p,h,e=>by
  obtain ⟨v,r,rfl,h1,h2⟩:=h.inv
  simp at e;subst e;exact ⟨v,rfl,h1⟩
 | q::ps,vs,i + 1,p,h,e=>by
  obtain ⟨v,r,rfl,h1,h2⟩:=h.inv
  obtain ⟨w,e1,r1⟩:=h2.get (i:=i) (by simpa using e)
  exact ⟨w,by simpa using e1,r1⟩
theorem Reps.get':∀{ps:List PV} {vs:List V} {i:Nat} {v:V},Reps K ι H ps vs->vs[i]? = some v->∃p,ps[i]? = some p/\Rep K ι H p v:=fun {ps vs i v} h e=>by
 have hi:i < ps.length:=by
  rw[h.length]
  rcases YF i vs.length with q | q
  ·exact q
  ·rw[Yl.mpr q] at e;cases e
 obtain ⟨w,e1,r⟩:=h.get (Ya hi)
 rw[e] at e1;cases e1
 exact ⟨_,Ya hi,r⟩
theorem Reps.take:∀{ps:List PV} {vs:List V} (n:Nat),Reps K ι H ps vs->Reps K ι H (ps.take n) (vs.take n)
 | _,_,0,_=>by simp;exact .nil
 | [],vs,n + 1,h=>by rw[h.inv0];simp;exact .nil
 | p::ps,vs,n + 1,h=>by obtain ⟨v,r,rfl,h1,h2⟩:=h.inv;simp only[List.take_succ_cons];exact .cons h1 (h2.take n)
theorem Reps.drop:∀{ps:List PV} {vs:List V} (n:Nat),Reps K ι H ps vs->Reps K ι H (ps.drop n) (vs.drop n)
 | _,_,0,h=>by simpa using h
 | [],vs,n + 1,h=>by rw[h.inv0];simp;exact .nil
 | p::ps,vs,n + 1,h=>by obtain ⟨v,r,rfl,h1,h2⟩:=h.inv;simpa using h2.drop n
theorem Reps.set:∀{ps:List PV} {vs:List V} (i:Nat) {p:PV} {v:V},Reps K ι H ps vs->Rep K ι H p v->Reps K ι H (ps.set i p) (vs.set i v)
 | [],vs,i,p,v,h,_=>by rw[h.inv0];simp;exact .nil
 | q::ps,vs,0,p,v,h,hp=>by obtain ⟨w,r,rfl,h1,h2⟩:=h.inv;simp;exact .cons hp h2
 | q::ps,vs,i + 1,p,v,h,hp=>by obtain ⟨w,r,rfl,h1,h2⟩:=h.inv;simp;exact .cons h1 (h2.set i hp)
theorem CellOk.mono (cr:CR K ι H C)(fr:Fr ι H H'){a:Addr}{c:PV}(ha:∀o,H a=some o->H' a=some o)(h:CellOk K ι H a c):CellOk K ι H' a c:=by
 cases c with
 | lst ps=>obtain ⟨vs,e,r⟩:=h;exact ⟨vs,ha _ e,Reps.mono cr fr _ _ r⟩
 | dct ks ps=>obtain ⟨qs,vs,e,hl,hk,r⟩:=h;exact ⟨qs,vs,ha _ e,hl,hk,Reps.mono cr fr _ _ r⟩
 | dtt ks ps=>obtain ⟨vs,e,hl,r⟩:=h;exact ⟨vs,ha _ e,hl,Reps.mono cr fr _ _ r⟩
 | _=>exact h.elim
theorem CR.same (cr:CR K ι H C)(sm:∀b o,H b=some o->H' b=some o):CR K ι H' C:=
 ⟨cr.len,cr.nd,fun k a c h1 h2=>(cr.ok k a c h1 h2).mono cr (fun b o _ e=>sm b o e) fun o e=>sm a o e⟩
theorem CR.new (cr:CR K ι H C){p:Addr}{o:HO}(h:H p=none):CR K ι (upd H p o) C:=cr.same fun b u e=>by rw[Zax (Zaq e h)];exact e
theorem CR.put (cr:CR K ι H C){k:Nat}{a:Addr}{c:PV}{o:HO}(hk:ι[k]? = some a)(ok:CellOk K ι (upd H a o) a c):CR K ι (upd H a o) (C.set k c):=by
 have fr:Fr ι H (upd H a o):=fun b u n e=>by
  rw[Zax (fun z=>n (by rw[z];exact Xc hk))];exact e
 refine ⟨by rw[W6];exact cr.len,cr.nd,fun j b d h1 h2=>?_⟩
 by_cases hj:j=k
 ·subst hj
  rw[hk] at h1;cases h1
  have hlt:j < C.length:=by
   rw[←cr.len]
   rcases YF j ι.length with q | q
   ·exact q
   ·rw[Yl.mpr q] at hk;cases hk
  rw[Xz hlt] at h2
  cases h2;exact ok
 ·rw[YZ (XT hj)] at h2
  refine (cr.ok j b d h1 h2).mono cr fr fun u e=>?_
  have hb:b≠a:=fun z=>by
   subst z
   have hjl:j < ι.length:=by
    rcases YF j ι.length with q | q
    ·exact q
    ·rw[Yl.mpr q] at h1;cases h1
   have hkl:k < ι.length:=by
    rcases YF k ι.length with q | q
    ·exact q
    ·rw[Yl.mpr q] at hk;cases hk
   have e1:=(YN.mp h1).2
   have e2:=(YN.mp hk).2
   exact hj ((Wq cr.nd).mp (e1.trans e2.symm))
  rw[Zax hb];exact e
theorem repHs {p:Addr}(hp:H p=none):∀b u,H b=some u->b∉ι->b∉ι++[p]:=fun b u e n z=>by
 rcases YX.mp z with z | z
 ·exact n z
 ·exact Zaq e hp (by simpa using z)
theorem RepsNew (cr:CR K ι H C){p:Addr}{o:HO}(hp:H p=none)(q:List PV)(v:List V)(r:Reps K ι H q v):Reps K (ι++[p]) (upd H p o) q v:=by
 exact Reps.stay (fun b u e=>by rw[Zax (Zaq e hp)];exact e) q v (Reps.cells (ι':=ι++[p]) (repHs hp) q v r)
theorem CR.add (cr:CR K ι H C){p:Addr}{c:PV}{o:HO}(hp:H p=none)(ok:CellOk K (ι++[p]) (upd H p o) p c):CR K (ι++[p]) (upd H p o) (C++[c]):=by
 have hni:p∉ι:=fun z=>by
  rcases cr.mut z with ⟨vs,e⟩ | ⟨kvs,e⟩ | ⟨kvs,e⟩
  ·rw[hp] at e;cases e
  ·rw[hp] at e;cases e
  ·rw[hp] at e;cases e
 have hc:∀b u,(upd H p o) b=some u->b∉ι->b≠p->b∉ι++[p]:=fun b u _ n1 n2 z=>by
  rcases YX.mp z with z | z
  ·exact n1 z
  ·exact n2 (by simpa using z)
 have up:∀b u,H b=some u->(upd H p o) b=some u:=fun b u e=>by rw[Zax (Zaq e hp)];exact e
 have lift:∀(b:Addr) (d:PV),CellOk K ι H b d->CellOk K (ι++[p]) (upd H p o) b d:=fun b d h=>by
  have hs:∀b u,H b=some u->b∉ι->b∉ι++[p]:=fun b u e n=>hc b u (up b u e) n (Zaq e hp)
  have cr':CR K ι (upd H p o) C:=cr.new hp
  cases d with
  | lst ps=>
   obtain ⟨vs,e,r⟩:=h
   exact ⟨vs,up _ _ e,RepsNew cr hp ps vs r⟩
  | dct ks ps=>
   obtain ⟨qs,vs,e,hl,hk,r⟩:=h
   exact ⟨qs,vs,up _ _ e,hl,hk,RepsNew cr hp ps vs r⟩
  | dtt ks ps=>
   obtain ⟨vs,e,hl,r⟩:=h
   exact ⟨vs,up _ _ e,hl,RepsNew cr hp ps vs r⟩
  | _=>exact h.elim
 refine ⟨by simp[cr.len],?_,fun k a d h1 h2=>?_⟩
 ·rw[We]
  refine ⟨cr.nd,by simp,fun a ha b hb=>?_⟩
  have:b=p:=by simpa using hb
  subst this
  exact fun z=>hni (z ▸ ha)
 ·rcases YF k ι.length with hk | hk
  ·rw[Yf hk] at h1
   rw[Yf (by rw[←cr.len];exact hk)] at h2
   exact lift a d (cr.ok k a d h1 h2)
  ·rw[YW hk] at h1
   rw[YW (by rw[←cr.len];exact hk)] at h2
   rw[←cr.len] at h2
   cases hz:k - ι.length with
   | zero=>
    rw[hz] at h1 h2
    simp at h1 h2
    subst h1 h2
    exact ok
   | succ j=>rw[hz] at h1;simp at h1
end
end Pu
namespace Pu
open PySem PySem.Spec L2
open PyProof.Rows hiding St
abbrev M (α:Type):=Cs->Option (α×Cs)
noncomputable def ret {α:Type}(a:α):M α:=fun C=>some (a,C)
def bnd {α β:Type}(x:M α)(f:α->M β):M β:=fun C=>match x C with
 | none=>none
 | some (a,C')=>f a C'
noncomputable def opM {α:Type}(g:Cs->Option α):M α:=fun C=>match g C with
 | none=>none
 | some a=>some (a,C)
theorem Zai {α β:Type}{x:M α}{f:α->M β}{C C2:Cs}{b:β}(h:bnd x f C=some (b,C2)):∃a C1,x C=some (a,C1)/\f a C1=some (b,C2):=by
 unfold bnd at h
 cases e:x C with
 | none=>rw[e] at h;cases h
 | some p=>obtain ⟨a,C1⟩:=p;rw[e] at h;exact ⟨a,C1,rfl,h⟩
theorem ZaJ {α:Type}{g:Cs->Option α}{C C2:Cs}{b:α}(h:opM g C=some (b,C2)):g C=some b/\C2=C:=by
 unfold opM at h
 cases e:g C with
 | none=>rw[e] at h;cases h
 | some p=>rw[e] at h;cases h;exact ⟨rfl,rfl⟩
abbrev PSt:=List (Option SV)
noncomputable def asB:SV->Option Bool
 | .v (.bl b)=>some b
 | _=>none
def mB (x:SV):M Bool:=opM fun _=>asB x
theorem ZcT {x:SV}{C C2:Cs}{b:Bool}(h:mB x C=some (b,C2)):x=.v (.bl b)/\C2=C:=by
 obtain ⟨h,e⟩:=ZaJ h
 refine ⟨?_,e⟩
 cases x with
 | c k=>cases h
 | v p=>cases p<;>first | (cases h;rfl) | cases h
theorem repB {K:W.Frag}{ι:3e1}{H:Hp}{b:Bool}{v:V}(h:RepS K ι H (.v (.bl b)) v):v=.bl b:=by unfold RepS Rep at h;exact h
theorem repB' {K:W.Frag}{ι:3e1}{H:Hp}{b:Bool}:RepS K ι H (.v (.bl b)) (.bl b):=by unfold RepS Rep;rfl
inductive PF where
 | nx (ρ:PSt) | rt (r:SV) | bk (ρ:PSt) | ct (ρ:PSt) | rf (ps:List PV) | rq (qs:List SV)
structure SR (K:W.Frag)(ι:List Addr)(H:Hp)(ρ:PSt)(σ:St)(C:Cs):Prop where
 cr:CR K ι H C
 len:ρ.length=σ.length
 loc:∀(i:Nat) (s:SV),ρ[i]? = some (some s)->∃v,σ[i]? = some (some v)/\RepS K ι H s v
section
variable {K:W.Frag}{ι:3e1}{H H':Hp}{C C':Cs}{ρ:PSt}{σ:St}
theorem SR.step (sr:SR K ι H ρ σ C)(fr:Fr ι H H')(cr:CR K ι H' C'):SR K ι H' ρ σ C':=
 ⟨cr,sr.len,fun i s e=>by obtain ⟨v,h1,h2⟩:=sr.loc i s e;exact ⟨v,h1,h2.mono sr.cr fr⟩⟩
theorem SR.set (sr:SR K ι H ρ σ C){s:SV}{v:V}(i:Nat)(r:RepS K ι H s v):SR K ι H (ρ.set i (some s)) (σ.set i (some v)) C:=by
 refine ⟨sr.cr,by simp[sr.len],fun j t e=>?_⟩
 by_cases hj:i=j
 ·subst hj
  have hi:i < ρ.length:=by
   rcases YF i ρ.length with q | q
   ·exact q
   ·rw[Yl.mpr (by simpa using q)] at e;cases e
  rw[Xz hi] at e
  cases e
  exact ⟨v,by rw[Xz (by rw[←sr.len];exact hi)],r⟩
 ·rw[YZ hj] at e
  rw[YZ hj]
  exact sr.loc j t e
end
def tM (K:W.Frag)(f:4e0):TE:=fun σ H Q=>∃ι ρ C r C',SR K ι H ρ σ C/\f ρ C=some (r,C')/\∀v H',Fr ι H H'->CR K ι H' C'->RepS K ι H' r v->Q v H'
def tMA (K:W.Frag)(f:2e8):TA:=fun σ H Q=>∃ι ρ C r C',SR K ι H ρ σ C/\f ρ C=some (r,C')/\∀v H',Fr ι H H'->CR K ι H' C'->RepSs K ι H' r v->Q v H'
def tMB (K:W.Frag)(f:PSt->M Bool):TT:=fun σ H Q=>∃ι ρ C r C',SR K ι H ρ σ C/\f ρ C=some (r,C')/\∀H',Fr ι H H'->CR K ι H' C'->Q r H'
def tMF (K:W.Frag)(f:PSt->M 6e2):TE:=fun σ H Q=>∃ι ρ C ps C',SR K ι H ρ σ C/\f ρ C=some (ps,C')/\∀p vs H',Fr ι H H'->CR K ι H' C'->H' p=none->Reps K ι H' ps vs->Q (.ref p) (upd H' p (.lst vs))
def EM (X:Cx)(e:Expr)(f:4e0):Prop:=PE X e (tM X.K f)
def AM (X:Cx)(es:4e8)(f:2e8):Prop:=PA X es (tMA X.K f)
def TMt (X:Cx)(e:Expr)(f:PSt->M Bool):Prop:=PT X e (tMB X.K f)
def WM (X:Cx)(e:Expr)(f:PSt->M Bool):Prop:=PW X e (tMB X.K f)
def FM (X:Cx)(e:Expr)(f:PSt->M 6e2):Prop:=PE X e (tMF X.K f)
theorem PE.imp {X:Cx}{e:Expr}{t t':TE}(h:PE X e t)(k:∀σ H Q,t' σ H Q->t σ H Q):PE X e t':=fun pins s σ H Q I q=>h pins s σ H Q I (k σ H Q q)
theorem PT.imp {X:Cx}{e:Expr}{t t':TT}(h:PT X e t)(k:∀σ H Q,t' σ H Q->t σ H Q):PT X e t':=fun pins s σ H Q I q=>h pins s σ H Q I (k σ H Q q)
theorem PW.imp {X:Cx}{e:Expr}{t t':TT}(h:PW X e t)(k:∀σ H Q,t' σ H Q->t σ H Q):PW X e t':=fun wh pins s σ H Q I q=>h wh pins s σ H Q I (k σ H Q q)
theorem PA.imp {X:Cx}{e:4e8}{t t':TA}(h:PA X e t)(k:∀σ H Q,t' σ H Q->t σ H Q):PA X e t':=fun pos pins s σ H Q I q=>h pos pins s σ H Q I (k σ H Q q)
theorem PS.imp {X:Cx}{e:Stmt}{t t':TS}(h:PS X e t)(k:∀D σ H,t' D σ H->t D σ H):PS X e t':=fun pins s σ H D I q=>h pins s σ H D I (k D σ H q)
theorem PSs.imp {X:Cx}{e:List Stmt}{t t':TS}(h:PSs X e t)(k:∀D σ H,t' D σ H->t D σ H):PSs X e t':=fun pins s σ H D I q=>h pins s σ H D I (k D σ H q)
theorem PI.imp {X:Cx}{tg e:Expr}{t t':TI}(h:PI X tg e t)(k:∀σ H Q,t' σ H Q->t σ H Q):PI X tg e t':=fun pins s σ H Q I q=>h pins s σ H Q I (k σ H Q q)
section
variable {X:Cx}{a b e c:Expr}{es:4e8}{fa fb fc:4e0}{pos p:Pos}{x:Str}
noncomputable def mVar (i:Nat):PSt->M SV:=fun ρ C=>match ρ[i]? with
 | some (some s)=>some (s,C)
 | _=>none
theorem em_var (i:Nat){x:Str}{pos:Pos}(hN:X.N[i]? = some x:=by rfl)(hv:Vis X.env.scope x:=by first | exact Or.inl rfl | exact Or.inr 2e5 | exact Or.inr (Or.inr rfl))(hd:5e0:=by decide)
  (hcd:(x==("__classdict__":Str))=false:=by decide):EM X (.Name x pos) (mVar i):=by
 refine PE.imp (pe_var hN hv hd hcd) fun σ H Q h_=>?_
 obtain ⟨ι,ρ,C,r,C',sr,e,q⟩:=h_
 unfold mVar at e
 cases e1:ρ[i]? with
 | none=>rw[e1] at e;cases e
 | some o=>
  cases o with
  | none=>rw[e1] at e;cases e
  | some s=>
   rw[e1] at e;cases e
   obtain ⟨v,h1,h2⟩:=sr.loc i _ e1
   exact ⟨v,h1,q v H .refl sr.cr h2⟩
noncomputable def mC (p:PV):PSt->M SV:=fun _ C=>some (.v p,C)
theorem Zbn {v:V}{q:PV}(h:PE X e (tC v))(r:∀ι H,Rep X.K ι H q v):EM X e (mC q):=by
 refine PE.imp h fun σ H Q h_=>?_
 obtain ⟨ι,ρ,C,z,C',sr,e,k⟩:=h_
 cases e
 exact k v H .refl sr.cr (r ι H)
def mOp (g:Cs->SV->SV->Option SV)(fa fb:4e0):PSt->M SV:=fun ρ=>bnd (fa ρ) fun x=>bnd (fb ρ) fun y=>opM fun C=>g C x y
def R2ok (K:W.Frag)(r:R2)(g:Cs->SV->SV->Option SV):Prop:=
 ∀(ι:3e1) (H:Hp) (C:Cs) (x y:SV) (vx vy:V) (z:SV) (Q:VK),CR K ι H C->RepS K ι H x vx->RepS K ι H y vy->g C x y=some z->(∀v H',Fr ι H H'->CR K ι H' C->RepS K ι H' z v->Q v H')->r vx vy H Q
theorem tM_op {K:W.Frag}{r:R2}{g:Cs->SV->SV->Option SV}(hg:R2ok K r g){σ:St}{H:Hp}{Q:VK}(h:tM K (mOp g fa fb) σ H Q):tOp r (tM K fa) (tM K fb) σ H Q:=by
 obtain ⟨ι,ρ,C,z,C',sr,e,q⟩:=h
 obtain ⟨x,C1,e1,e⟩:=Zai e
 obtain ⟨y,C2,e2,e⟩:=Zai e
 obtain ⟨e3,rfl⟩:=ZaJ e
 exact ⟨ι,ρ,C,x,C1,sr,e1,fun vx H1 f1 c1 r1=>⟨ι,ρ,C1,y,C',sr.step f1 c1,e2,fun vy H2 f2 c2 r2=>hg ι H2 C' x y vx vy z _ c2 (r1.mono c1 f2) r2 e3 fun v H3 f3 c3 r3=>q v H3 (f1.trans (f2.trans f3)) c3 r3⟩⟩
theorem em_op {op:Operator}{r:R2}{g:Cs->SV->SV->Option SV}(ho:OpR X (Wx op) r)(hg:R2ok X.K r g)(ha:EM X a fa)(hb:EM X b fb):EM X (.BinOp a op b pos) (mOp g fa fb):=
 PE.imp (pe_op ho ha hb) fun _ _ _ h=>tM_op hg h
theorem em_ix {r:R2}{g:Cs->SV->SV->Option SV}(hr:IxR X r)(hg:R2ok X.K r g)(ha:EM X a fa)(hb:EM X b fb)(hs:PlainIx b):EM X (.Subscript a b pos) (mOp g fa fb):=
 PE.imp (pe_ix hr ha hb hs) fun _ _ _ h=>tM_op hg h
def mChain (g g':Cs->SV->SV->Option SV)(fa fb fc:4e0):PSt->M SV:=fun ρ=>bnd (fa ρ) fun x=>bnd (fb ρ) fun y=>bnd (opM fun C=>g C x y) fun z=>bnd (mB z) fun b=>
 if b then bnd (fc ρ) fun w=>opM fun C=>g' C y w else ret (.v (.bl false))
theorem tM_chain {K:W.Frag}{r r':R2}{g g':Cs->SV->SV->Option SV}(hg:R2ok K r g)(hg':R2ok K r' g'){σ:St}{H:Hp}{Q:VK}(h:tM K (mChain g g' fa fb fc) σ H Q):tChain r r' (tM K fa) (tM K fb) (tM K fc) σ H Q:=by
 obtain ⟨ι,ρ,C,z,C',sr,e,q⟩:=h
 obtain ⟨x,C1,e1,e⟩:=Zai e
 obtain ⟨y,C2,e2,e⟩:=Zai e
 obtain ⟨z1,C3,e3,e'⟩:=Zai e
 obtain ⟨e3g,hC3⟩:=ZaJ e3
 obtain ⟨k,C4,e4,e9⟩:=Zai e'
 obtain ⟨hz1,hC4⟩:=ZcT e4
 subst hz1 hC4 hC3
 clear e' e4 e3 e
 have e:=e9
 refine ⟨ι,ρ,C,x,C1,sr,e1,fun vx H1 f1 c1 r1=>⟨ι,ρ,C1,y,C4,sr.step f1 c1,e2,fun vy H2 f2 c2 r2=>hg ι H2 C4 x y vx vy _ _ c2 (r1.mono c1 f2) r2 e3g fun v H3 f3 c3 r3=>?_⟩⟩
 refine ⟨k,repB r3,?_⟩
 cases k with
 | true=>
  rw[if_pos rfl] at e ⊢
  obtain ⟨w,C5,e5,e⟩:=Zai e
  obtain ⟨e6,rfl⟩:=ZaJ e
  exact ⟨ι,ρ,C4,w,C',((sr.step f1 c1).step f2 c2).step f3 c3,e5,fun vw H4 f4 c4 r4=>hg' ι H4 C' y w vy vw z _ c4 ((r2.mono c2 f3).mono c3 f4) r4 e6 fun v' H5 f5 c5 r5=>
   q v' H5 (f1.trans (f2.trans (f3.trans (f4.trans f5)))) c5 r5⟩
 | false=>
  rw[if_neg Yi] at e ⊢
  cases e
  exact q _ H3 (f1.trans (f2.trans f3)) c3 repB'
def mTest (f:4e0):PSt->M Bool:=fun ρ=>bnd (f ρ) mB
theorem tM_test {K:W.Frag}{f:4e0}{σ:St}{H:Hp}{Q:Bool->Hp->Prop}(h:tMB K (mTest f) σ H Q):tTest (tM K f) σ H Q:=by
 obtain ⟨ι,ρ,C,z,C',sr,e,q⟩:=h
 obtain ⟨x,C1,e1,e⟩:=Zai e
 obtain ⟨rfl,rfl⟩:=ZcT e
 exact ⟨ι,ρ,C,_,C',sr,e1,fun v H1 f1 c1 r1=>⟨_,repB r1,q H1 f1 c1⟩⟩
noncomputable def deref (C:Cs):SV->Option PV
 | .v p=>some p
 | .c k=>C[k]?
noncomputable def truP:PV->Option Bool
 | .non=>some false
 | .bl b=>some b
 | .int i=>some (i != 0)
 | .str y=>some ((y.length:Int) != 0)
 | .tup xs=>some (!xs.isEmpty)
 | .lst xs=>some (!xs.isEmpty)
 | .dct ks _=>some (!ks.isEmpty)
 | _=>none
def mTru (f:4e0):PSt->M Bool:=fun ρ=>bnd (f ρ) fun x=>opM fun C=>(deref C x).bind truP
inductive Lies (K:W.Frag)(ι:List Addr)(H:Hp):PV->V->Prop
 | non:Lies K ι H .non .non
 | bl (b:Bool):Lies K ι H (.bl b) (.bl b)
 | int (i:Int):Lies K ι H (.int i) (.int i)
 | str (x:Str) (h:x.length<=Yu):Lies K ι H (.str x) (.str x)
 | tup {a:Addr} {ps:List PV} {vs:List V} (h:TpR H a vs) (r:Reps K ι H ps vs):Lies K ι H (.tup ps) (.ref a)
 | lst {a:Addr} {ps:List PV} {vs:List V} (h:SqL K H a vs) (r:Reps K ι H ps vs):Lies K ι H (.lst ps) (.ref a)
 | dct {a:Addr} {qs:List Key} {ps:List PV} {vs:List V} (h:H a=some (.dK (qs.zip vs))) (hl:qs.length=vs.length) (r:Reps K ι H ps vs):Lies K ι H (.dct (qs.map kP) ps) (.ref a)
 | dtt {a:Addr} {ks:List (List Key)} {ps:List PV} {vs:List V} (h:Rd H a (.dT (ks.zip vs))) (hl:ks.length=vs.length) (r:Reps K ι H ps vs):Lies K ι H (.dtt ks ps) (.ref a)
 | fn (a:Addr):Lies K ι H (.fn a) (.ref a)
 | ty (n:String):Lies K ι H (.ty n) (.ty n)
theorem Rep.lies {K:W.Frag}{ι:3e1}{H:Hp}:∀{p:PV} {v:V},Rep K ι H p v->Lies K ι H p v
 | .non,v,h=>by unfold Rep at h;subst h;exact .non
 | .bl b,v,h=>by unfold Rep at h;subst h;exact .bl b
 | .int i,v,h=>by unfold Rep at h;subst h;exact .int i
 | .str x,v,h=>by unfold Rep at h;obtain ⟨rfl,h⟩:=h;exact .str x h
 | .tup ps,v,h=>by unfold Rep at h;obtain ⟨a,vs,rfl,h,r⟩:=h;exact .tup h r
 | .lst ps,v,h=>by unfold Rep at h;obtain ⟨a,vs,rfl,h,r⟩:=h;exact .lst h.sq r
 | .dct ks ps,v,h=>by unfold Rep at h;obtain ⟨a,qs,vs,rfl,n,hd,hl,rfl,r⟩:=h;exact .dct hd hl r
 | .dtt ks ps,v,h=>by unfold Rep at h;obtain ⟨a,vs,rfl,n,hd,hl,r⟩:=h;exact .dtt hd hl r
 | .fn a,v,h=>by unfold Rep at h;subst h;exact .fn a
 | .ty n,v,h=>by unfold Rep at h;subst h;exact .ty n
theorem RepS.lies {K:W.Frag}{ι:3e1}{H:Hp}{C:Cs}(cr:CR K ι H C){x:SV}{p:PV}{v:V}(r:RepS K ι H x v)(e:deref C x=some p):Lies K ι H p v:=by
 cases x with
 | v q=>cases e;exact Rep.lies r
 | c k=>
  obtain ⟨a,rfl,hk⟩:=r
  have ok:=cr.ok k a p hk e
  cases p with
  | lst ps=>obtain ⟨vs,h,r⟩:=ok;exact .lst (.of h) r
  | dct ks ps=>obtain ⟨qs,vs,h,hl,rfl,r⟩:=ok;exact .dct h hl r
  | dtt ks ps=>obtain ⟨vs,h,hl,r⟩:=ok;exact .dtt (.inl h) hl r
  | _=>exact ok.elim
theorem Reps.isEmpty {K:W.Frag}{ι:3e1}{H:Hp}{ps:List PV}{vs:List V}(r:Reps K ι H ps vs):ps.isEmpty=vs.isEmpty:=by
 have:=r.length
 cases ps<;>cases vs<;>simp at this ⊢
theorem Lies.tru {K:W.Frag}{ι:3e1}{H:Hp}{p:PV}{v:V}{k:Bool}(l:Lies K ι H p v)(e:truP p=some k):TruV K v H k:=by
 cases l with
 | non=>cases e;rfl
 | bl b=>cases e;rfl
 | int i=>cases e;rfl
 | str x h=>cases e;exact ⟨h,rfl⟩
 | tup h r=>cases e;exact .inr (.inl ⟨_,h.sq,by rw[r.isEmpty]⟩)
 | lst h r=>cases e;exact .inl ⟨_,h,by rw[r.isEmpty]⟩
 | @dct a qs ps vs h hl r=>
  cases e
  refine .inr (.inr ⟨_,h,?_⟩)
  cases qs<;>cases vs<;>simp at hl ⊢
 | dtt h hl r=>cases e
 | fn a=>cases e
 | ty n=>cases e
def mNotT (f:PSt->M Bool):PSt->M Bool:=fun ρ=>bnd (f ρ) fun b=>ret (!b)
def mAndT (f g:PSt->M Bool):PSt->M Bool:=fun ρ=>bnd (f ρ) fun b=>if b then g ρ else ret false
def mOrT (f g:PSt->M Bool):PSt->M Bool:=fun ρ=>bnd (f ρ) fun b=>if b then ret true else g ρ
def mAndV (f g:4e0):PSt->M SV:=fun ρ=>bnd (f ρ) fun x=>bnd (mB x) fun b=>if b then g ρ else ret (.v (.bl false))
def mOrV (f g:4e0):PSt->M SV:=fun ρ=>bnd (f ρ) fun x=>bnd (mB x) fun b=>if b then ret (.v (.bl true)) else g ρ
def mNotV (f:4e0):PSt->M SV:=fun ρ=>bnd (f ρ) fun x=>bnd (mB x) fun b=>ret (.v (.bl !b))
def mIf (t:PSt->M Bool)(f g:4e0):PSt->M SV:=fun ρ=>bnd (t ρ) fun b=>if b then f ρ else g ρ
def aNil:PSt->M (List SV):=fun _=>ret []
def aCons (f:4e0)(g:2e8):PSt->M (List SV):=fun ρ=>bnd (f ρ) fun x=>bnd (g ρ) fun xs=>ret (x::xs)
def C1ok (K:W.Frag)(r:List V->Hp->VK->Prop)(g:Cs->List SV->Option SV):Prop:=
 ∀(ι:3e1) (H:Hp) (C:Cs) (xs:List SV) (vs:List V) (z:SV) (Q:VK),CR K ι H C->RepSs K ι H xs vs->g C xs=some z->(∀v H',Fr ι H H'->CR K ι H' C->RepS K ι H' z v->Q v H')->r vs H Q
def mCB (g:Cs->List SV->Option SV)(fs:2e8):PSt->M SV:=fun ρ=>bnd (fs ρ) fun xs=>opM fun C=>g C xs
theorem tM_CB {K:W.Frag}{r:List V->Hp->VK->Prop}{g:Cs->List SV->Option SV}{fs:2e8}(hg:C1ok K r g){σ:St}{H:Hp}{Q:VK}(h:tM K (mCB g fs) σ H Q):tCB r (tMA K fs) σ H Q:=by
 obtain ⟨ι,ρ,C,z,C',sr,e,q⟩:=h
 obtain ⟨xs,C1,e1,e⟩:=Zai e
 obtain ⟨e2,rfl⟩:=ZaJ e
 exact ⟨ι,ρ,C,xs,C',sr,e1,fun vs H1 f1 c1 r1=>hg ι H1 C' xs vs z _ c1 r1 e2 fun v H2 f2 c2 r2=>q v H2 (f1.trans f2) c2 r2⟩
theorem Zb8 {id:String}{r:List V->Hp->VK->Prop}{g:Cs->List SV->Option SV}{fs:2e8}(hc:CallR X (.builtin id) r)(hg:C1ok X.K r g)(hgl:Gl X x)(hm:X.mg x=none)(hv:Xe x=some (.builtin id))(ha:AM X 5e1 fs)(hn:x≠"__name__":=by decide)(hdb:5e0:=by decide)
  (he:1e9:=by rfl) (hpl:4e5:=by rfl):EM X (.Call (.Name x p) 5e1 [] pos) (mCB g fs):=
 PE.imp (pe_callB hc hgl hm hv ha hn hdb he hpl) fun _ _ _ h=>tM_CB hg h
theorem em_callTy {T:String}{r:List V->Hp->VK->Prop}{g:Cs->List SV->Option SV}{fs:2e8}(hc:CallR X (.type T) r)(hg:C1ok X.K r g)(hgl:Gl X x)(hm:X.mg x=none)(hv:Xe x=some (.type T))(ha:AM X 5e1 fs)(hn:x≠"__name__":=by decide)(hdb:5e0:=by decide)
  (he:1e9:=by rfl) (hpl:4e5:=by rfl):EM X (.Call (.Name x p) 5e1 [] pos) (mCB g fs):=
 PE.imp (pe_callTy hc hgl hm hv ha hn hdb he hpl) fun _ _ _ h=>tM_CB hg h
noncomputable def liftSp (K:W.Frag)(F:List SV->M SV):Sp:=fun vs H Q _=>∃ι ss C r C',CR K ι H C/\RepSs K ι H ss vs/\F ss C=some (r,C')/\∀v H',Fr ι H H'->CR K ι H' C'->RepS K ι H' r v->Q v H'
def mFn (F:List SV->M SV)(fs:2e8):PSt->M SV:=fun ρ=>bnd (fs ρ) F
end
def Ex (ι ι2:3e1)(H H':Hp):Prop:=Fr ι H H'/\∀b∈ι2,H b=none
section
variable {K:W.Frag}{ι ι2 ι3 ι':3e1}{H H1 H2 H':Hp}{C C' C1:Cs}{ρ:PSt}{σ:St}
mutual
theorem Rep.tr (cr:CR K ι H C)(h:∀b o,b∉ι->H b=some o->b∉ι'/\H' b=some o):∀(p:PV) (v:V),Rep K ι H p v->Rep K ι' H' p v
 | .non,v,q=>by unfold Rep at q ⊢;exact q
 | .bl b,v,q=>by unfold Rep at q ⊢;exact q
 | .int i,v,q=>by unfold Rep at q ⊢;exact q
 | .str x,v,q=>by unfold Rep at q ⊢;exact q
 | .tup ps,v,q=>by
  unfold Rep at q ⊢
  obtain ⟨a,vs,e,sq,r⟩:=q
  exact ⟨a,vs,e,(h _ _ (cr.notup sq (fun _ e=>nomatch e) fun _ e=>nomatch e) sq).2,Reps.tr cr h ps vs r⟩
 | .lst ps,v,q=>by
  unfold Rep at q ⊢
  obtain ⟨a,vs,e,sq,r⟩:=q
  refine ⟨a,vs,e,?_,Reps.tr cr h ps vs r⟩
  rcases sq with ⟨n,z | ⟨o,z⟩⟩ | z
  ·exact .inl ⟨(h _ _ n z).1,.inl (h _ _ n z).2⟩
  ·exact .inl ⟨(h _ _ n z).1,.inr ⟨o,(h _ _ n z).2⟩⟩
  ·exact .inr z
 | .dct ks ps,v,q=>by
  unfold Rep at q ⊢
  obtain ⟨a,qs,vs,e,n,hd,hl,hk,r⟩:=q
  exact ⟨a,qs,vs,e,(h _ _ n hd).1,(h _ _ n hd).2,hl,hk,Reps.tr cr h ps vs r⟩
 | .dtt ks ps,v,q=>by
  unfold Rep at q ⊢
  obtain ⟨a,vs,e,n,hd,hl,r⟩:=q
  exact ⟨a,vs,e,by rcases id hd with q | ⟨o,q⟩<;>exact (h _ _ n q).1,rd_mono (fun o q=>(h _ o n q).2) hd,hl,Reps.tr cr h ps vs r⟩
 | .fn a,v,q=>by unfold Rep at q ⊢;exact q
 | .ty n,v,q=>by unfold Rep at q ⊢;exact q
theorem Reps.tr (cr:CR K ι H C)(h:∀b o,b∉ι->H b=some o->b∉ι'/\H' b=some o):∀(ps:List PV) (vs:List V),Reps K ι H ps vs->Reps K ι' H' ps vs
 | [],vs,q=>by unfold Reps at q ⊢;exact q
 | p::ps,vs,q=>by
  unfold Reps at q ⊢
  obtain ⟨v,r,e,h1,h2⟩:=q
  exact ⟨v,r,e,Rep.tr cr h p v h1,Reps.tr cr h ps r h2⟩
end
theorem Ex.fr (f:Fr ι H H'):Ex ι [] H H':=⟨f,fun _ z=>nomatch z⟩
theorem Ex.out (x:Ex ι ι2 H H'):∀b o,b∉ι->H b=some o->b∉ι++ι2/\H' b=some o:=fun b o n e=>by
 refine ⟨fun z=>?_,x.1 b o n e⟩
 rcases YX.mp z with z | z
 ·exact n z
 ·rw[x.2 b z] at e;cases e
theorem Ex.trans (c:CR K (ι++ι2) H1 C1)(x:Ex ι ι2 H H1)(y:Ex (ι++ι2) ι3 H1 H2):Ex ι (ι2++ι3) H H2:=by
 refine ⟨fun b o n e=>(y.out b o (x.out b o n e).1 (x.out b o n e).2).2,fun b hb=>?_⟩
 rcases YX.mp hb with hb | hb
 ·exact x.2 b hb
 ·cases e:H b with
  | none=>rfl
  | some o=>
   by_cases n:b∈ι
   ·rcases c.mut (Xm _ n) with ⟨vs,z⟩ | ⟨vs,z⟩ | ⟨vs,z⟩
    ·rw[y.2 b hb] at z;cases z
    ·rw[y.2 b hb] at z;cases z
    ·rw[y.2 b hb] at z;cases z
   ·have:=x.1 b o n e
    rw[y.2 b hb] at this;cases this
theorem RepS.ex (cr:CR K ι H C)(x:Ex ι ι2 H H'){s:SV}{v:V}(r:RepS K ι H s v):RepS K (ι++ι2) H' s v:=by
 cases s with
 | v p=>exact Rep.tr cr x.out p v r
 | c k=>
  obtain ⟨a,e,hk⟩:=r
  refine ⟨a,e,?_⟩
  have hl:k < ι.length:=by
   rcases YF k ι.length with q | q
   ·exact q
   ·rw[Yl.mpr q] at hk;cases hk
  rw[Yf hl];exact hk
theorem SR.ex (sr:SR K ι H ρ σ C)(x:Ex ι ι2 H H')(c:CR K (ι++ι2) H' C'):SR K (ι++ι2) H' ρ σ C':=
 ⟨c,sr.len,fun i s e=>by obtain ⟨v,h1,h2⟩:=sr.loc i s e;exact ⟨v,h1,h2.ex sr.cr x⟩⟩
end
theorem RepSs.length {K:W.Frag}{ι:3e1}{H:Hp}:∀{ss:List SV} {vs:List V},RepSs K ι H ss vs->ss.length=vs.length
 | [],vs,h=>by rw[show vs=[] from h];rfl
 | s::ss,vs,h=>by obtain ⟨v,r,rfl,_,t⟩:=h;rw[YL,YL,RepSs.length t]
def Done (K:W.Frag)(ι:3e1)(H:Hp)(D:Ends)(C':Cs):PF->Prop
 | .nx ρ=>∀ι2 σ' H',Ex ι ι2 H H'->SR K (ι++ι2) H' ρ σ' C'->D.nx σ' H'
 | .rt r=>∀ι2 v H',Ex ι ι2 H H'->CR K (ι++ι2) H' C'->RepS K (ι++ι2) H' r v->D.rt v H'
 | .bk ρ=>∀ι2 σ' H',Ex ι ι2 H H'->SR K (ι++ι2) H' ρ σ' C'->D.bk σ' H'
 | .ct ρ=>∀ι2 σ' H',Ex ι ι2 H H'->SR K (ι++ι2) H' ρ σ' C'->D.ct σ' H'
 | .rf ps=>∀ι2 p vs H',Ex ι ι2 H H'->CR K (ι++ι2) H' C'->H' p=none->Reps K (ι++ι2) H' ps vs->D.rt (.ref p) (upd H' p (.lst vs))
 | .rq qs=>∀ι2 p vs H',Ex ι ι2 H H'->CR K (ι++ι2) H' C'->H' p=none->RepSs K (ι++ι2) H' qs vs->D.rt (.ref p) (upd H' p (.tup vs))
def tMS (K:W.Frag)(f:PSt->M PF):TS:=fun D σ H=>∃ι ρ C fl C',SR K ι H ρ σ C/\f ρ C=some (fl,C')/\Done K ι H D C' fl
def SM (X:Cx)(st:Stmt)(f:PSt->M PF):Prop:=PS X st (tMS X.K f)
def BM (X:Cx)(sts:List Stmt)(f:PSt->M PF):Prop:=PSs X sts (tMS X.K f)
section
variable {K:W.Frag}{ι ι2:3e1}{H H':Hp}{C C' C1:Cs}{ρ:PSt}{σ:St}{D:Ends}{fl:PF}
theorem Done.tr (c:CR K (ι++ι2) H' C1)(x:Ex ι ι2 H H')(d:Done K ι H D C' fl):Done K (ι++ι2) H' D C' fl:=by
 cases fl with
 | nx ρ=>intro ι3 σ' H2 y sr;rw[Yz] at sr;exact d _ σ' H2 (x.trans c y) sr
 | rt r=>intro ι3 v H2 y cr rr;rw[Yz] at cr rr;exact d _ v H2 (x.trans c y) cr rr
 | bk ρ=>intro ι3 σ' H2 y sr;rw[Yz] at sr;exact d _ σ' H2 (x.trans c y) sr
 | ct ρ=>intro ι3 σ' H2 y sr;rw[Yz] at sr;exact d _ σ' H2 (x.trans c y) sr
 | rf ps=>intro ι3 p vs H2 y cr hp rs;rw[Yz] at cr rs;exact d _ p vs H2 (x.trans c y) cr hp rs
 | rq ps=>intro ι3 p vs H2 y cr hp rs;rw[Yz] at cr rs;exact d _ p vs H2 (x.trans c y) cr hp rs
theorem Done.fr (c:CR K ι H' C1)(f:Fr ι H H')(d:Done K ι H D C' fl):Done K ι H' D C' fl:=by
 have:=Done.tr (ι2:=[]) (by rw[YV];exact c) (Ex.fr f) d
 rw[YV] at this;exact this
theorem Done.nx0 (sr:SR K ι H ρ σ C')(d:Done K ι H D C' (.nx ρ)):D.nx σ H:=d [] σ H (Ex.fr .refl) (by rw[YV];exact sr)
end
section
variable {X:Cx}{a b e c tg:Expr}{es:4e8}{st:Stmt}{rest sts sts':List Stmt}{f g:PSt->M PF}{pos p pos':Pos}{x:Str}
def mSkip:PSt->M PF:=fun ρ=>ret (.nx ρ)
def mSeq (f g:PSt->M PF):PSt->M PF:=fun ρ=>bnd (f ρ) fun fl=>match fl with
 | .nx ρ'=>g ρ'
 | fl=>ret fl
def mIfS (t:PSt->M Bool)(f g:PSt->M PF):PSt->M PF:=fun ρ=>bnd (t ρ) fun b=>if b then f ρ else g ρ
def mRet (f:4e0):PSt->M PF:=fun ρ=>bnd (f ρ) fun r=>ret (.rt r)
def mRetF (f:PSt->M 6e2):PSt->M PF:=fun ρ=>bnd (f ρ) fun r=>ret (.rf r)
def mRetQ (fs:2e8):PSt->M PF:=fun ρ=>bnd (fs ρ) fun xs=>if xs.length<=1000 then ret (.rq xs) else fun _=>none
def mDrop (f:4e0):PSt->M PF:=fun ρ=>bnd (f ρ) fun _=>ret (.nx ρ)
def mSet (i:Nat)(f:4e0):PSt->M PF:=fun ρ=>bnd (f ρ) fun r=>ret (.nx (ρ.set i (some r)))
def mNew (i:Nat)(f:PSt->M 6e2):PSt->M PF:=fun ρ=>bnd (f ρ) fun ps=>fun C=>some (.nx (ρ.set i (some (.c C.length))),C++[.lst ps])
theorem new_cell {K:W.Frag}{ι:3e1}{H H':Hp}{ρ:PSt}{σ:St}{C C1:Cs}{D:Ends}{i:Nat}{ps:List PV}{q:Addr}{vs:List V}(sr:SR K ι H ρ σ C)(d:Done K ι H D (C1++[.lst ps]) (.nx (ρ.set i (some (.c C1.length)))))
  (f1:Fr ι H H') (c1:CR K ι H' C1) (hq:H' q=none) (rs:Reps K ι H' ps vs):D.nx (σ.set i (some (.ref q))) (upd H' q (.lst vs)):=by
 have c2:CR K (ι++[q]) (upd H' q (.lst vs)) (C1++[.lst ps]):=c1.add hq ⟨vs,ZaU,RepsNew c1 hq ps vs rs⟩
 have x:Ex ι [q] H (upd H' q (.lst vs)):=⟨f1.trans (Fr.new hq),fun b hb=>by
  have:b=q:=by simpa using hb
  subst this
  cases e:H b with
  | none=>rfl
  | some o=>
   by_cases n:b∈ι
   ·rcases c1.mut n with ⟨vs,z⟩ | ⟨vs,z⟩ | ⟨vs,z⟩
    ·rw[hq] at z;cases z
    ·rw[hq] at z;cases z
    ·rw[hq] at z;cases z
   ·have:=f1 b o n e;rw[hq] at this;cases this⟩
 refine d [q] _ _ x ((sr.ex x c2).set i ⟨q,rfl,?_⟩)
 rw[←c1.len];simp
noncomputable def plain:List SV->Option 6e2
 | []=>some []
 | .v p::r=>(plain r).map (p::·)
 | .c _::_=>none
theorem Zbs {K:W.Frag}{ι:3e1}{H:Hp}:∀{xs:List SV} {ps:List PV} {vs:List V},plain xs=some ps->RepSs K ι H xs vs->Reps K ι H ps vs/\vs.length=xs.length
 | [],ps,vs,e,r=>by cases e;rw[show vs=[] from r];exact ⟨.nil,rfl⟩
 | .v p::xs,ps,vs,e,r=>by
  obtain ⟨v,w,rfl,h1,h2⟩:=r
  unfold plain at e
  cases h:plain xs with
  | none=>rw[h] at e;cases e
  | some qs=>
   rw[h] at e;cases e
   exact ⟨.cons h1 (Zbs h h2).1,by rw[YL,YL,(Zbs h h2).2]⟩
 | .c _::_,ps,vs,e,r=>by cases e
theorem k1000 {n:Nat}(h:n<=1000):n<=sizeLine:=YG h (by rw[YS];decide)
def mTup (fs:2e8):PSt->M SV:=fun ρ=>bnd (fs ρ) fun xs=>opM fun _=>if xs.length<=1000 then (plain xs).map fun ps=>.v 5e9 else none
def mLst (fs:2e8):PSt->M 6e2:=fun ρ=>bnd (fs ρ) fun xs=>opM fun _=>if xs.length<=1000 then plain xs else none
def mVal (f:PSt->M 6e2):PSt->M SV:=fun ρ=>bnd (f ρ) fun ps=>ret (.v 6e6)
theorem ZcR {K:W.Frag}{ι:3e1}{H:Hp}{C:Cs}{ps:List PV}{q:Addr}{vs:List V}(c1:CR K ι H C)(hq:H q=none)(rs:Reps K ι H ps vs):Rep K ι (upd H q (.lst vs)) 6e6 (.ref q):=by
 unfold Rep
 refine ⟨q,vs,rfl,.inl ⟨fun z=>?_,.inl ZaU⟩,Reps.stay (fun b o e=>by rw[Zax (Zaq e hq)];exact e) ps vs rs⟩
 rcases c1.mut z with ⟨_,e⟩ | ⟨_,e⟩ | ⟨_,e⟩
 ·rw[hq] at e;cases e
 ·rw[hq] at e;cases e
 ·rw[hq] at e;cases e
noncomputable def tMG (K:W.Frag)(g:5e4):TG:=fun v σ H Q=>∃ι ρ C p ρ',SR K ι H ρ σ C/\Rep K ι H p v/\g p ρ=some ρ'/\∀σ',SR K ι H ρ' σ' C->Q σ' H
noncomputable def tMGs (K:W.Frag)(g:List PV->PSt->Option PSt):TGs:=fun v σ H Q=>∃ι ρ C p ρ',SR K ι H ρ σ C/\Reps K ι H p v/\g p ρ=some ρ'/\∀σ',SR K ι H ρ' σ' C->Q σ' H
def GM (X:Cx)(tg:Expr)(g:5e4):Prop:=PG X tg (tMG X.K g)
def GMs (X:Cx)(ts:4e8)(g:List PV->PSt->Option PSt):Prop:=PGs X ts (tMGs X.K g)
theorem PG.imp {t t':TG}(h:PG X tg t)(k:∀v σ H Q,t' v σ H Q->t v σ H Q):PG X tg t':=fun pins s σ H v u Q I r q=>h pins s σ H v u Q I r (k v σ H Q q)
theorem PGs.imp {t t':TGs}(h:PGs X es t)(k:∀v σ H Q,t' v σ H Q->t v σ H Q):PGs X es t':=fun pins s σ H v u Q I r q=>h pins s σ H v u Q I r (k v σ H Q q)
noncomputable def hName (i:Nat):PV->PSt->Option PSt:=fun p ρ=>some (ρ.set i (some (.v p)))
noncomputable def hNil:List PV->PSt->Option PSt
 | [],ρ=>some ρ
 | _::_,_=>none
noncomputable def hCons (g:5e4)(gs:List PV->PSt->Option PSt):List PV->PSt->Option PSt
 | [],_=>none
 | p::ps,ρ=>(g p ρ).bind fun ρ'=>gs ps ρ'
noncomputable def hTup (gs:List PV->PSt->Option PSt)(n:Nat):PV->PSt->Option PSt
 | .tup ps,ρ=>if ps.length=n then gs ps ρ else none
 | _,_=>none
def mAsg (f:4e0)(g:5e4):PSt->M PF:=fun ρ=>bnd (f ρ) fun r=>match r with
 | .v p=>fun C=>(g p ρ).map fun ρ'=>(.nx ρ',C)
 | .c _=>fun _=>none
end
structure Iter (K:W.Frag)(ι:List Addr)(H1:Hp)(xs:List PV)(J:It):Prop where
 go:∀ι2 H2 C2,Ex ι ι2 H1 H2->CR K (ι++ι2) H2 C2->∀i,i < xs.length->J.go i H2
 yld:∀ι2 H2 C2,Ex ι ι2 H1 H2->CR K (ι++ι2) H2 C2->∀i v H3,i < xs.length->J.yld i H2 v H3->(∀b o,H2 b=some o->H3 b=some o)/\∃p,xs[i]? = some p/\Rep K (ι++ι2) H3 p v
 stop:∀ι2 H2 C2,Ex ι ι2 H1 H2->CR K (ι++ι2) H2 C2->J.stop xs.length H2
def tMI (K:W.Frag)(f:PSt->M 6e2):TI:=fun σ H R=>∃ι ρ C xs C',SR K ι H ρ σ C/\f ρ C=some (xs,C')/\∀J H1,Fr ι H H1->CR K ι H1 C'->Iter K ι H1 xs J->R J H1
def IM (X:Cx)(tg iter:Expr)(f:PSt->M 6e2):Prop:=PI X tg iter (tMI X.K f)
section
variable {X:Cx}{e tg iter elt:Expr}{es:4e8}{body:List Stmt}{f:PSt->M PF}{pos p:Pos}{x:Str}
def loop (g:5e4)(f:PSt->M PF):List PV->PSt->M PF
 | [],ρ=>ret (.nx ρ)
 | x::xs,ρ=>match g x ρ with
  | none=>fun _=>none
  | some ρ1=>bnd (f ρ1) fun fl=>match fl with
   | .nx ρ2=>loop g f xs ρ2
   | .ct ρ2=>loop g f xs ρ2
   | .bk ρ2=>ret (.nx ρ2)
   | .rt r=>ret (.rt r)
   | .rf ps=>ret (.rf ps)
   | .rq ps=>ret (.rq ps)
def mFor (it:PSt->M 6e2)(g:5e4)(f:PSt->M PF):PSt->M PF:=fun ρ=>bnd (it ρ) fun xs=>loop g f xs ρ
noncomputable def stIn' (vs:4e6)(fr:List Nat)(ρ:PSt):PSt:=vs.map (fun _=>none)++fr.map fun i=>(ρ[i]?).join
def compL (g:5e4)(tt:PSt->M Bool)(te:4e0):List PV->PSt->List PV->M 6e2
 | [],_,ys=>ret ys
 | x::xs,ρ,ys=>match g x ρ with
  | none=>fun _=>none
  | some ρ1=>bnd (tt ρ1) fun b=>if b then bnd (te ρ1) fun y=>match y with
    | .v p=>compL g tt te xs ρ1 (ys++[p])
    | .c _=>fun _=>none
   else compL g tt te xs ρ1 ys
def mComp (it:PSt->M 6e2)(vs:4e6)(fr:List Nat)(g:5e4)(tt:PSt->M Bool)(te:4e0):PSt->M 6e2:=fun ρ=>bnd (it ρ) fun xs=>if xs.length<=100000 then compL g tt te xs (stIn' vs fr ρ) [] else fun _=>none
theorem SR.block {K:W.Frag}{ι:3e1}{H:Hp}{ρ:PSt}{σ:St}{C:Cs}(sr:SR K ι H ρ σ C)(vs:4e6)(fr:List Nat):SR K ι H (stIn' vs fr ρ) (stIn vs fr σ) C:=by
 refine ⟨sr.cr,by simp[stIn',stIn],fun i s e=>?_⟩
 unfold stIn' at e
 unfold stIn
 rcases YF i vs.length with h | h
 ·rw[Yf (by simpa using h)] at e
  simp at e
 ·rw[YW (by simpa using h)] at e
  rw[YW (by simpa using h)]
  simp only[Yr,YK] at e ⊢
  cases hj:fr[i - vs.length]? with
  | none=>rw[hj] at e;cases e
  | some j=>
   rw[hj] at e
   have e':(ρ[j]?).join=some s:=by simpa using e
   have e2:ρ[j]? = some (some s):=by
    cases hr:ρ[j]? with
    | none=>rw[hr] at e';cases e'
    | some o=>rw[hr] at e';simp at e';rw[e']
   obtain ⟨v,h1,h2⟩:=sr.loc j s e2
   refine ⟨v,?_,h2⟩
   simp[h1]
theorem k100000 {n:Nat}(h:n<=100000):n<=sizeLine:=YG h (by rw[YS];decide)
theorem comp_pure {K:W.Frag}{it:PSt->M 6e2}{vs:4e6}{fr:List Nat}{g:5e4}{tt:PSt->M Bool}{te:4e0}{σ:St}{H:Hp}{Q:VK}{ι:3e1}{ρ:PSt}{C C':Cs}{res:List PV}(sr:SR K ι H ρ σ C)
  (e:mComp it vs fr g tt te ρ C=some (res,C')) (q:∀p vs H',Fr ι H H'->CR K ι H' C'->H' p=none->Reps K ι H' res vs->Q (.ref p) (upd H' p (.lst vs))):tComp (tMI K it) vs fr (tMG K g) (tMB K tt) (tM K te) σ H Q:=by
 obtain ⟨xs,C1,e1,e⟩:=Zai e
 refine ⟨ι,ρ,C,xs,C1,sr,e1,fun J H1 f1 c1 it1=>?_⟩
 by_cases hz:xs.length<=100000
 case neg=>rw[if_neg hz] at e;cases e
 rw[if_pos hz] at e
 have sr1:=(sr.step f1 c1).block vs fr
 have x0:∀{H2:Hp},Fr ι H1 H2->Ex ι [] H1 H2:=fun f=>Ex.fr f
 have c0:∀{H2:Hp} {C2:Cs},CR K ι H2 C2->CR K (ι++[]) H2 C2:=fun c=>by rw[YV];exact c
 refine ⟨fun i m σ2 ys H2=>∃ρ2 C2 ps,m=xs.length - i/\i<=xs.length/\Fr ι H1 H2/\SR K ι H2 ρ2 σ2 C2/\Reps K ι H2 ps ys/\ps.length<=i/\compL g tt te (xs.drop i) ρ2 ps C2=some (res,C'),⟨xs.length,_,C1,[],rfl,YT _,.refl,sr1,.nil,Yk _,e⟩,?_⟩
 rintro i m σ2 ys H2 ⟨ρ2,C2,ps,rfl,hi2,f2,sr2,rs2,hps,e2⟩
 have hys:ys.length<=sizeLine:=by rw[←rs2.length];exact k100000 (YG (YG hps hi2) hz)
 rcases YF i xs.length with hlt | hge
 ·right
  refine ⟨it1.go [] H2 C2 (x0 f2) (c0 sr2.cr) i hlt,hys,fun σ' ys' H'=>∃ρ2 C2 ps,Fr ι H1 H'/\SR K ι H' ρ2 σ' C2/\Reps K ι H' ps ys'/\ps.length<=i + 1/\compL g tt te (xs.drop (i + 1)) ρ2 ps C2=some (res,C'),?_,?_⟩
  ·rintro σ' ys' H' ⟨ρ3,C3,ps3,f3,sr3,rs3,h3,e3⟩
   exact ⟨xs.length - (i + 1),by lia,ρ3,C3,ps3,rfl,hlt,f3,sr3,rs3,h3,e3⟩
  ·intro v H3 y
   obtain ⟨sm,qv,hq,rq⟩:=it1.yld [] H2 C2 (x0 f2) (c0 sr2.cr) i v H3 hlt y
   rw[YV] at rq
   have hd:xs.drop i=qv::xs.drop (i + 1):=by
    rw[WQ hlt]
    rw[Ya hlt] at hq
    rw[YA hq]
   rw[hd] at e2
   unfold compL at e2
   cases hg1:g qv ρ2 with
   | none=>rw[hg1] at e2;cases e2
   | some ρ3=>
    rw[hg1] at e2
    obtain ⟨b,C3,e3,e4⟩:=Zai e2
    have fr3:Fr ι H2 H3:=fun b o _ z=>sm b o z
    have cr3:CR K ι H3 C2:=sr2.cr.same sm
    refine ⟨ι,ρ2,C2,qv,ρ3,sr2.step fr3 cr3,rq,hg1,fun σ4 sr4=>⟨ι,ρ3,C2,b,C3,sr4,e3,fun H5 f5 c5=>?_⟩⟩
    have f15:=f2.trans (fr3.trans f5)
    have rs5:Reps K ι H5 ps ys:=Reps.mono cr3 f5 _ _ (Reps.mono sr2.cr fr3 _ _ rs2)
    cases b with
    | true=>
     rw[if_pos rfl] at e4
     dsimp only
     rw[if_pos rfl]
     obtain ⟨y1,C6,e6,e7⟩:=Zai e4
     refine ⟨ι,ρ3,C3,y1,C6,sr4.step f5 c5,e6,fun v7 H7 f7 c7 r7=>?_⟩
     cases y1 with
     | c k=>cases e7
     | v p7=>exact ⟨ρ3,C6,ps++[p7],f15.trans f7,(sr4.step f5 c5).step f7 c7,(Reps.mono c5 f7 _ _ rs5).append (.cons r7 .nil),by simp;exact hps,e7⟩
    | false=>
     rw[if_neg Yi] at e4
     dsimp only
     rw[if_neg Yi]
     exact ⟨ρ3,C3,ps,f15,sr4.step f5 c5,rs5,Nat.le_succ_of_le hps,e4⟩
 ·left
  have hi3:i=xs.length:=by lia
  subst hi3
  rw[Vs] at e2
  cases e2
  exact ⟨it1.stop [] H2 _ (x0 f2) (c0 sr2.cr),hys,fun D hD=>q D ys H2 (f1.trans f2) sr2.cr hD rs2⟩
section
variable {ifs:4e8}{scope:Scope}{vs fs:4e6}{fr:List Nat}{it:PSt->M 6e2}{g:5e4}{tt:PSt->M Bool}{te:4e0}
def TsM (X:Cx)(ifs:4e8)(t:PSt->M Bool):Prop:=PTs X ifs (tMB X.K t)
def tOk:PSt->M Bool:=fun _=>ret true
end
end
theorem CR.cut {K:W.Frag}{ι ι2:3e1}{H:Hp}{C:Cs}{n:Nat}(c:CR K (ι++ι2) H C)(hn:ι.length=n):CR K ι H (C.take n):=by
 have hlen:(ι++ι2).length=C.length:=c.len
 rw[Y8] at hlen
 have hs:∀b o,H b=some o->b∉ι++ι2->b∉ι:=fun b o _ z q=>z (Xm _ q)
 refine ⟨by rw[Y7];lia,(We.mp c.nd).1,fun k a d h1 h2=>?_⟩
 have hk:k < ι.length:=by
  rcases YF k ι.length with q | q
  ·exact q
  ·rw[Yl.mpr q] at h1;cases h1
 rw[Xq 1e3] at h2
 have ok:=c.ok k a d (by rw[Yf hk];exact h1) h2
 cases d with
 | lst ps=>obtain ⟨vs,e,r⟩:=ok;exact ⟨vs,e,Reps.cells hs _ _ r⟩
 | dct ks ps=>obtain ⟨qs,vs,e,hl,hk,r⟩:=ok;exact ⟨qs,vs,e,hl,hk,Reps.cells hs _ _ r⟩
 | dtt ks ps=>obtain ⟨vs,e,hl,r⟩:=ok;exact ⟨vs,e,hl,Reps.cells hs _ _ r⟩
 | _=>exact ok.elim
noncomputable def fin (n:Nat)(C':Cs):SV->Option (SV×Cs)
 | .v p=>some (.v p,C'.take n)
 | .c k=>if k < n then some (.c k,C'.take n) else (C'[k]?).map fun c=>(.v c,C'.take n)
noncomputable def finQ (n:Nat)(C':Cs):List SV->Option 6e2
 | []=>some []
 | .v p::r=>(finQ n C' r).map (p::·)
 | .c k::r=>if k < n then none else (C'[k]?).bind fun c=>(finQ n C' r).map (c::·)
def mDef (n pad:Nat)(body:PSt->M PF):List SV->M SV:=fun ss C=>if ss.length=n then (match body (ss.map some++WL pad none) C with
 | some (.rt r,C')=>fin C.length C' r
 | some (.nx _,C')=>some (.v .non,C'.take C.length)
 | some (.rf ps,C')=>some (.v 6e6,C'.take C.length)
 | some (.rq qs,C')=>(finQ C.length C' qs).map fun ps=>(.v 5e9,C'.take C.length)
 | _=>none) else none
noncomputable def mDefF (n pad:Nat)(body:PSt->M PF):List SV->M 6e2:=fun ss C=>if ss.length=n then (match body (ss.map some++WL pad none) C with
 | some (.rf ps,C')=>some (ps,C'.take C.length)
 | _=>none) else none
def liftSpF (K:W.Frag)(F:List SV->M 6e2):Sp:=fun vs H Q _=>∃ι ss C ps C',CR K ι H C/\RepSs K ι H ss vs/\F ss C=some (ps,C')/\∀p vs H',Fr ι H H'->CR K ι H' C'->H' p=none->Reps K ι H' ps vs->Q (.ref p) (upd H' p (.lst vs))
def mFnF (F:List SV->M 6e2)(fs:2e8):PSt->M 6e2:=fun ρ=>bnd (fs ρ) F
theorem fin_ok {K:W.Frag}{ι ι2:3e1}{H:Hp}{C' C2:Cs}{n:Nat}{r r':SV}{v:V}(c:CR K (ι++ι2) H C')(hn:ι.length=n)(rr:RepS K (ι++ι2) H r v)(e:fin n C' r=some (r',C2)):CR K ι H C2/\RepS K ι H r' v:=by
 have hs:∀b o,H b=some o->b∉ι++ι2->b∉ι:=fun b o _ z q=>z (Xm _ q)
 cases r with
 | v p=>cases e;exact ⟨c.cut hn,Rep.cells hs p v rr⟩
 | c k=>
  obtain ⟨a,rfl,hk⟩:=rr
  replace e:(if k < n then some (SV.c k,C'.take n) else (C'[k]?).map fun c=>(SV.v c,C'.take n))=some (r',C2):=e
  by_cases h:k < n
  ·rw[if_pos h] at e
   cases e
   refine ⟨c.cut hn,a,rfl,?_⟩
   rw[Yf 1e3] at hk;exact hk
  ·rw[if_neg h] at e
   cases hd:C'[k]? with
   | none=>rw[hd] at e;cases e
   | some d=>
    rw[hd] at e
    cases e
    refine ⟨c.cut hn,?_⟩
    have ok:=c.ok k a d hk hd
    have hna:a∉ι:=fun z=>by
     obtain ⟨j,hj,ej⟩:=XB z
     have hjk:(ι++ι2)[j]? = some a:=by rw[Yf hj,Ya hj,ej]
     have hkl:k < (ι++ι2).length:=by
      rcases YF k (ι++ι2).length with q | q
      ·exact q
      ·rw[Yl.mpr q] at hk;cases hk
     have hjl:j < (ι++ι2).length:=by rw[Y8];lia
     have e1:=(YN.mp hjk).2
     have e2:=(YN.mp hk).2
     have:=(Wq c.nd).mp (e1.trans e2.symm)
     lia
    show Rep K ι H d (.ref a)
    cases d with
    | lst ps=>obtain ⟨vs,e,r⟩:=ok;unfold Rep;exact ⟨a,vs,rfl,.inl ⟨hna,.inl e⟩,Reps.cells hs _ _ r⟩
    | dct ks ps=>obtain ⟨qs,vs,e,hl,hk,r⟩:=ok;unfold Rep;exact ⟨a,qs,vs,rfl,hna,e,hl,hk,Reps.cells hs _ _ r⟩
    | dtt ks ps=>obtain ⟨vs,e,hl,r⟩:=ok;unfold Rep;exact ⟨a,vs,rfl,hna,.inl e,hl,Reps.cells hs _ _ r⟩
    | _=>exact ok.elim
theorem finQ_ok {K:W.Frag}{ι ι2:3e1}{H:Hp}{C':Cs}{n:Nat}(c:CR K (ι++ι2) H C')(hn:ι.length=n):∀{qs:List SV} {ps:List PV} {vs:List V},RepSs K (ι++ι2) H qs vs->finQ n C' qs=some ps->Reps K ι H ps vs
 | [],ps,vs,r,e=>by cases e;rw[show vs=[] from r];exact .nil
 | .v p::qs,ps,vs,r,e=>by
  obtain ⟨v,w,rfl,h1,h2⟩:=r
  unfold finQ at e
  cases hq:finQ n C' qs with
  | none=>rw[hq] at e;cases e
  | some z=>
   rw[hq] at e;cases e
   exact .cons (fin_ok (r:=.v p) (r':=.v p) c hn h1 rfl).2 (finQ_ok c hn h2 hq)
 | .c k::qs,ps,vs,r,e=>by
  obtain ⟨v,w,rfl,h1,h2⟩:=r
  unfold finQ at e
  by_cases hk:k < n
  ·rw[if_pos hk] at e;cases e
  ·rw[if_neg hk] at e
   cases hc:C'[k]? with
   | none=>rw[hc] at e;cases e
   | some d=>
    cases hq:finQ n C' qs with
    | none=>rw[hc,hq] at e;cases e
    | some z=>
     rw[hc,hq] at e;cases e
     exact .cons (fin_ok (r:=.c k) (r':=.v d) c hn h1 (show (if k < n then some (SV.c k,C'.take n) else (C'[k]?).map fun c=>(SV.v c,C'.take n))=some (.v d,C'.take n) by rw[if_neg hk,hc];rfl)).2 (finQ_ok c hn h2 hq)
theorem RepSs.get {K:W.Frag}{ι:3e1}{H:Hp}:∀{ss:List SV} {vs:List V} {i:Nat} {s:SV},RepSs K ι H ss vs->ss[i]? = some s->∃v,vs[i]? = some v/\RepS K ι H s v
 | [],_,_,_,h,e=>by simp at e
 | q::ss,vs,0,s,h,e=>by
  obtain ⟨v,r,rfl,h1,h2⟩:=h
  simp at e;subst e;exact ⟨v,rfl,h1⟩
 | q::ss,vs,i + 1,s,h,e=>by
  obtain ⟨v,r,rfl,h1,h2⟩:=h
  obtain ⟨w,e1,r1⟩:=RepSs.get (i:=i) h2 (by simpa using e)
  exact ⟨w,by simpa using e1,r1⟩
theorem sr_start {K:W.Frag}{ι:3e1}{H:Hp}{C:Cs}{ss:List SV}{vs:List V}{N:4e6}(cr:CR K ι H C)(rs:RepSs K ι H ss vs):SR K ι H (ss.map some++WL (N.length - ss.length) none) (L2.start N vs) C:=by
 have hl:=RepSs.length rs
 refine ⟨cr,by unfold L2.start;simp[hl],fun i s e=>?_⟩
 unfold L2.start
 rcases YF i ss.length with h | h
 ·rw[Yf (by simpa using h),YK] at e
  rw[Yf (by rw[Yr,←hl];exact h),YK]
  cases hs:ss[i]? with
  | none=>rw[hs] at e;cases e
  | some s'=>
   rw[hs] at e
   have:s'=s:=by simpa using e
   subst this
   obtain ⟨v,h1,h2⟩:=RepSs.get rs hs
   exact ⟨v,by rw[h1];rfl,h2⟩
 ·rw[YW (by simpa using h),List.getElem?_replicate] at e
  split at e<;>cases e
end Pu
namespace Pu
open PySem PySem.Spec L2
open PyProof.Rows hiding St Fr
def g2 (h:PV->PV->Option PV):Cs->SV->SV->Option SV:=fun C x y=>match deref C x,deref C y with
 | some p,some q=>(h p q).map .v
 | _,_=>none
def L2ok (K:W.Frag)(r:R2)(h:PV->PV->Option PV):Prop:=
 ∀(ι:3e1) (H:Hp) (C:Cs) (p q:PV) (vx vy:V) (z:PV) (Q:VK),CR K ι H C->Lies K ι H p vx->Lies K ι H q vy->h p q=some z->(∀v H',Fr ι H H'->CR K ι H' C->Rep K ι H' z v->Q v H')->r vx vy H Q
theorem L2ok.r {K:W.Frag}{r:R2}{h:PV->PV->Option PV}(k:L2ok K r h):R2ok K r (g2 h):=by
 intro ι H C x y vx vy z Q cr rx ry e q
 unfold g2 at e
 cases hx:deref C x with
 | none=>rw[hx] at e;cases e
 | some p=>
  cases hy:deref C y with
  | none=>rw[hx,hy] at e;cases e
  | some p2=>
   rw[hx,hy] at e
   cases hz:h p p2 with
   | none=>simp[hz] at e
   | some z2=>
    simp[hz] at e
    subst e
    exact k ι H C p p2 vx vy z2 Q cr (rx.lies cr hx) (ry.lies cr hy) hz q
theorem OpR.or {X:Cx}{f:Value->Value->Sem Value}{r r':R2}(h:OpR X f r)(h':OpR X f r'):OpR X f (fun x y H Q=>r x y H Q\/r' x y H Q):=by
 intro pins s σ H x y v u Q I rx ry q
 rcases q with q | q
 ·exact h pins s σ H x y v u Q I rx ry q
 ·exact h' pins s σ H x y v u Q I rx ry q
section
variable {K:W.Frag}{ι:3e1}{H:Hp}{C:Cs}{Q:VK}{z:PV}
theorem liesS {v:V}{i:Str}(h:Lies K ι H (.str i) v):v=.str i/\i.length<=sizeLine:=by cases h;exact ⟨rfl,by assumption⟩
theorem liesT {v:V}{ps:List PV}(h:Lies K ι H 5e9 v):∃a vs,v=.ref a/\TpR H a vs/\Reps K ι H ps vs:=by cases h;exact ⟨_,_,rfl,by assumption,by assumption⟩
theorem liesL {v:V}{ps:List PV}(h:Lies K ι H 6e6 v):∃a vs,v=.ref a/\SqL K H a vs/\Reps K ι H ps vs:=by cases h;exact ⟨_,_,rfl,by assumption,by assumption⟩
theorem repI {i:Int}:Rep K ι H (.int i) (.int i):=by unfold Rep;rfl
theorem repBl {i:Bool}:Rep K ι H (.bl i) (.bl i):=by unfold Rep;rfl
theorem repN:Rep K ι H .non .non:=by unfold Rep;rfl
theorem repS {i:Str}(h:i.length<=Yu):Rep K ι H (.str i) (.str i):=by unfold Rep;exact ⟨rfl,h⟩
theorem k1000000 {n:Nat}(h:n<=1000000):n<=sizeLine:=YG h (by rw[YS];decide)
theorem Zcf {ps:List PV}{q:Addr}{vs:List V}(hq:H q=none)(rs:Reps K ι H ps vs):Rep K ι (upd H q (.tup vs)) 5e9 (.ref q):=by
 unfold Rep
 exact ⟨q,vs,rfl,ZaU,Reps.stay (fun b o e=>by rw[Zax (Zaq e hq)];exact e) ps vs rs⟩
end
noncomputable def addP:PV->PV->Option PV
 | .int i,.int j=>some (.int (i + j))
 | .str i,.str j=>if i.length + j.length<=1000000 then some (.str (i++j)) else none
 | .lst a,.lst b=>if a.length + b.length<=1000000 then some (.lst (a++b)) else none
 | .tup a,.tup b=>if a.length + b.length<=1000000 then some (.tup (a++b)) else none
 | _,_=>none
def rCatL (K:W.Frag):R2:=fun x y H Q=>∃l b xs zs,x=.ref l/\y=.ref b/\SqL K H l xs/\SqL K H b zs/\xs.length + zs.length<=Yu/\∀p,H p=none->Q (.ref p) (upd H p (.lst (xs++zs)))
section
variable {X:Cx}
theorem op_catL:OpR X (Wx .Add) (rCatL X.K):=by
 intro pins s σ H x y v u Q I rx ry h
 obtain ⟨l,b,xs,zs,rfl,rfl,hH,hB,hz,q⟩:=h
 cases rx
 cases ry
 obtain ⟨its,r,pl,_⟩:=I.list hH
 obtain ⟨its2,r2,pl2,_⟩:=I.list hB
 obtain ⟨⟨cls,dd,data,sl⟩,ho,hc,n,hd⟩:=id pl.isList
 obtain ⟨⟨cls2,dd2,data2,sl2⟩,ho2,hc2,n2,hd2⟩:=id pl2.isList
 simp only at hc hd hc2 hd2
 subst hc hd hc2 hd2
 have h1:=r.length
 have h2:=r2.length
 have ea:its.toArray++its2.toArray=(its++its2).toArray:=by simp
 refine Uh ⟨_,ho,rfl⟩ ⟨_,ho2,rfl⟩ noFill_list_add seq_list_add PySem.F.slot_list_add PySem.F.entry_list_add (PySem.F.args_list_add_2 _ _) (list_addW l b its.toArray its2.toArray n n2 dd dd2 sl sl2 (by simp;lia)) ⟨ho,ho2,?_⟩
 rw[ea]
 exact ⟨.ref _,_,I.lnew (t':=s.toks) (r.append r2) (by rw[Y8];lia),rfl,q _ I.fresh⟩
def rCatT' (K:W.Frag):R2:=fun x y H Q=>∃a b xs ys,x=.ref a/\y=.ref b/\SqT K H a xs/\SqT K H b ys/\xs.length + ys.length<=Yu/\
 (xs=[]->Q (.ref b) H)/\(xs≠[]->ys=[]->Q (.ref a) H)/\(xs≠[]->ys≠[]->∀p,H p=none->Q (.ref p) (upd H p (.tup (xs++ys))))
theorem op_catT':OpR X (Wx .Add) (rCatT' X.K):=by
 intro pins s σ H x y v u Q I rx ry h
 obtain ⟨a,b,xs,ys,rfl,rfl,ha,hb,hz,q0,q1,q2⟩:=h
 by_cases hx:xs=[]
 ·cases rx
  cases ry
  obtain ⟨its,r1,p1,_⟩:=I.tuple ha
  obtain ⟨its2,r2,p2,_⟩:=I.tuple hb
  obtain ⟨⟨cls,dd,data,sl⟩,ho,hc,n,hd⟩:=id p1
  obtain ⟨⟨cls2,dd2,data2,sl2⟩,ho2,hc2,n2,hd2⟩:=id p2
  simp only at hc hd hc2 hd2
  subst hc hd hc2 hd2
  exact Uh ⟨_,ho,rfl⟩ ⟨_,ho2,rfl⟩ V9 seq_tuple_add Ve W5 (WX _ _)
   (tuple_addW0 a b its.toArray its2.toArray n n2 dd dd2 sl sl2 (by simp[r1.nil_iff.mpr hx])) ⟨ho,ho2,⟨.ref b,H,I,rfl,q0 hx⟩⟩
 ·exact op_catT pins s σ H _ _ v u Q I rx ry ⟨a,b,xs,ys,rfl,rfl,ha,hb,hx,hz,q1 hx,q2 hx⟩
theorem op_addAll:OpR X (Wx .Add) (fun x y H Q=>(rI0 fun i j=>.int (i + j)) x y H Q\/(∃i j,x=.str i/\y=.str j/\i.length + j.length<=Yu/\Q (.str (i++j)) H)\/rCatL X.K x y H Q\/rCatT' X.K x y H Q):=
 OpR.or op_add (OpR.or op_add_str (OpR.or op_catL op_catT'))
theorem str_app_len (i j:Str):(i++j).length=i.length + j.length:=by
 show (i.cps++j.cps).size=_
 rw[Array.size_append];rfl
theorem add_ok:L2ok X.K (fun x y H Q=>(rI0 fun i j=>.int (i + j)) x y H Q\/(∃i j,x=.str i/\y=.str j/\i.length + j.length<=Yu/\Q (.str (i++j)) H)\/rCatL X.K x y H Q\/rCatT' X.K x y H Q) addP:=by
 intro ι H C p q vx vy z Q cr lx ly e k
 unfold addP at e
 split at e
 ·cases e;cases lx;cases ly
  exact .inl ⟨_,_,rfl,rfl,k _ H .refl cr repI⟩
 ·split at e
  ·rename_i hl
   cases e;cases lx;cases ly
   exact .inr (.inl ⟨_,_,rfl,rfl,k1000000 hl,k _ H .refl cr (repS (by rw[str_app_len];exact k1000000 hl))⟩)
  ·cases e
 ·split at e
  ·rename_i hl
   cases e
   obtain ⟨a,vs,rfl,h1,r1⟩:=liesL lx
   obtain ⟨b,ws,rfl,h2,r2⟩:=liesL ly
   exact .inr (.inr (.inl ⟨a,b,vs,ws,rfl,rfl,h1,h2,by rw[←r1.length,←r2.length];exact k1000000 hl,fun p hp=>k _ _ (Fr.new hp) (cr.new hp) (ZcR cr hp (r1.append r2))⟩))
  ·cases e
 ·split at e
  ·rename_i hl
   cases e
   rename_i xs ys
   obtain ⟨a,vs,rfl,h1,r1⟩:=liesT lx
   obtain ⟨b,ws,rfl,h2,r2⟩:=liesT ly
   refine .inr (.inr (.inr ⟨a,b,vs,ws,rfl,rfl,h1.sq,h2.sq,by rw[←r1.length,←r2.length];exact k1000000 hl,fun e=>?_,fun _ e=>?_,fun _ _ p hp=>k _ _ (Fr.new hp) (cr.new hp) (Zcf hp (r1.append r2))⟩))
   ·subst e
    have:=r1.length
    have hx:xs=[]:=XQ this
    subst hx
    exact k _ H .refl cr (by unfold Rep;exact ⟨b,ws,rfl,h2,r2⟩)
   ·subst e
    have:=r2.length
    have hy:ys=[]:=XQ this
    subst hy
    rw[YV] at k
    exact k _ H .refl cr (by unfold Rep;exact ⟨a,vs,rfl,h1,r1⟩)
  ·cases e
 ·cases e
variable {a b e c:Expr}{es:4e8}{fa fb fc:4e0}{pos p:Pos}{x:Str}
def intP (c:Int->Int->Bool)(f:Int->Int->PV):PV->PV->Option PV
 | .int i,.int j=>if c i j then some (f i j) else none
 | _,_=>none
theorem int_ok {C0:Int->Int->Prop}{f:Int->Int->Int}{c:Int->Int->Bool}(h:∀i j,c i j=true->C0 i j):L2ok X.K (rI C0 fun i j=>.int (f i j)) (intP c fun i j=>.int (f i j)):=by
 intro ι H C p q vx vy z Q cr lx ly e k
 unfold intP at e
 split at e
 ·split at e
  ·rename_i hc
   cases e;cases lx;cases ly
   exact ⟨_,_,rfl,rfl,h _ _ hc,k _ H .refl cr repI⟩
  ·cases e
 ·cases e
theorem ZcZ {f:Int->Int->V}{g:Int->Int->PV}(h:∀i j,∀ι H,Rep X.K ι H (g i j) (f i j)):L2ok X.K (rI0 f) (intP (fun _ _=>true) g):=by
 intro ι H C p q vx vy z Q cr lx ly e k
 unfold intP at e
 split at e
 ·simp only[if_true] at e
  cases e;cases lx;cases ly
  exact ⟨_,_,rfl,rfl,k _ H .refl cr (h _ _ _ _)⟩
 ·cases e
abbrev subP:=intP (fun _ _=>true) fun i j=>.int (i - j)
abbrev mulP:=intP (fun i j=>decide (-(2 ^ 64) < i/\i < 2 ^ 64)||decide (-(2 ^ 64) < j/\j < 2 ^ 64)) fun i j=>.int (i * j)
abbrev modP:=intP (fun _ j=>decide (0 < j)) fun i j=>.int (i % j)
abbrev fdivP:=intP (fun _ j=>decide (0 < j/\j < 1073741824)) fun i j=>.int (i / j)
abbrev powP:=intP (fun i j=>decide (0<=j/\j<=1000/\i.natAbs < 2 ^ 64)) fun i j=>.int (i ^ j.toNat)
abbrev ltP:=intP (fun _ _=>true) fun i j=>.bl (decide (i < j))
abbrev leP:=intP (fun _ _=>true) fun i j=>.bl (decide (i<=j))
abbrev gtP:=intP (fun _ _=>true) fun i j=>.bl (decide (j < i))
abbrev geP:=intP (fun _ _=>true) fun i j=>.bl (decide (j<=i))
def negP (C:Cs)(x:SV):Option SV:=match deref C x with
 | some (.int i)=>some (.v (.int (-i)))
 | _=>none
def mNeg (f:4e0):PSt->M SV:=fun ρ=>bnd (f ρ) fun x=>opM fun C=>negP C x
theorem lt_ok:L2ok X.K (rI0 fun i j=>.bl (decide (i < j))) ltP:=ZcZ fun _ _ _ _=>repBl
theorem le_ok:L2ok X.K (rI0 fun i j=>.bl (decide (i<=j))) leP:=ZcZ fun _ _ _ _=>repBl
theorem gt_ok:L2ok X.K (rI0 fun i j=>.bl (decide (j < i))) gtP:=ZcZ fun _ _ _ _=>repBl
theorem ge_ok:L2ok X.K (rI0 fun i j=>.bl (decide (j<=i))) geP:=ZcZ fun _ _ _ _=>repBl
noncomputable def scP:PV->PV->Option Bool
 | .non,.non=>some true | .non,.int _=>some false | .int _,.non=>some false | .non,.bl _=>some false | .bl _,.non=>some false | .non,.str _=>some false | .str _,.non=>some false
 | .int i,.int j=>some (decide (i=j)) | .bl i,.bl j=>some (decide (i=j)) | .str i,.str j=>some (decide (i=j))
 | .int _,.str _=>some false | .str _,.int _=>some false | .bl _,.str _=>some false | .str _,.bl _=>some false
 | _,_=>none
def eqP (p q:PV):Option PV:=(scP p q).map .bl
def neP (p q:PV):Option PV:=(scP p q).map fun b=>.bl (!b)
theorem sc_ok {K:W.Frag}{ι:3e1}{H:Hp}{p q:PV}{vx vy:V}{b:Bool}(lx:Lies K ι H p vx)(ly:Lies K ι H q vy)(e:scP p q=some b):scal vx vy=true/\decide (vx=vy)=b:=by
  unfold scP at e
  split at e<;>first
    | (cases e;cases lx;cases ly;exact ⟨rfl,by simp⟩)
    | cases e
theorem Zb6:L2ok X.K rEq eqP:=by
 intro ι H C p q vx vy z Q cr lx ly e k
 unfold eqP at e
 cases hb:scP p q with
 | none=>rw[hb] at e;cases e
 | some b=>
  rw[hb] at e;cases e
  obtain ⟨h1,h2⟩:=sc_ok lx ly hb
  exact ⟨h1,by rw[h2];exact k _ H .refl cr repBl⟩
theorem ne_ok:L2ok X.K rNe neP:=by
 intro ι H C p q vx vy z Q cr lx ly e k
 unfold neP at e
 cases hb:scP p q with
 | none=>rw[hb] at e;cases e
 | some b=>
  rw[hb] at e;cases e
  obtain ⟨h1,h2⟩:=sc_ok lx ly hb
  exact ⟨h1,by rw[h2];exact k _ H .refl cr repBl⟩
def ixP:PV->PV->Option PV
 | .lst xs,.int i=>atI xs i
 | .tup xs,.int i=>atI xs i
 | .str z,.int i=>(atI z.cps.toList i).map fun c=>.str ⟨#[c]⟩
 | _,_=>none
theorem atI_rep {K:W.Frag}{ι:3e1}{H:Hp}{ps:List PV}{vs:List V}{i:Int}{z:PV}(r:Reps K ι H ps vs)(e:atI ps i=some z):∃v,atI vs i=some v/\Rep K ι H z v:=by
 unfold atI at e ⊢
 rw[←r.length]
 cases h:ixN ps.length i with
 | none=>rw[h] at e;cases e
 | some j=>rw[h] at e;exact r.get e
theorem ix_ok:L2ok X.K (rIx X.K) ixP:=by
 intro ι H C p q vx vy z Q cr lx ly e k
 unfold ixP at e
 split at e
 ·obtain ⟨a,vs,rfl,h1,r1⟩:=liesL lx
  cases ly
  obtain ⟨v,e1,r⟩:=atI_rep r1 e
  exact .inl ⟨a,vs,_,v,rfl,rfl,h1,e1,k v H .refl cr r⟩
 ·obtain ⟨a,vs,rfl,h1,r1⟩:=liesT lx
  cases ly
  obtain ⟨v,e1,r⟩:=atI_rep r1 e
  exact .inr (.inl ⟨a,vs,_,v,rfl,rfl,h1.sq,e1,k v H .refl cr r⟩)
 ·obtain ⟨rfl,hz⟩:=liesS lx
  cases ly
  rename_i z' i
  cases hc:atI z'.cps.toList i with
  | none=>rw[hc] at e;cases e
  | some c=>
   rw[hc] at e;cases e
   exact .inr (.inr ⟨_,_,c,rfl,rfl,hz,hc,k _ H .refl cr (repS (by show 1<=Yu;rw[YS];decide))⟩)
 ·cases e
noncomputable def tyN:PV->Option String
 | .non=>some "NoneType"
 | .bl _=>some "bool"
 | .int _=>some "int"
 | .str _=>some "str"
 | .tup _=>some "tuple"
 | .lst _=>some "list"
 | .dct _ _=>some "dict"
 | _=>none
def isiP (p:PV)(n:String):Option Bool:=match tyN p with
 | none=>none
 | some t=>if n="int" then some (t=="int"||t=="bool") else if n="str"\/n="bool"\/n="tuple"\/n="list"\/n="dict" then some (t==n) else none
theorem kit_ok {K:W.Frag}{t n:String}{b:Bool}(ht:t="NoneType"\/t="bool"\/t="int"\/t="str"\/t="tuple"\/t="list"\/t="dict")(hn:n="int"\/n="str"\/n="bool"\/n="tuple"\/n="list"\/n="dict")
  (e:(if n="int" then some (t=="int"||t=="bool") else if n="str"\/n="bool"\/n="tuple"\/n="list"\/n="dict" then some (t==n) else none)=some b):W.kitOne K (.type t) (.type n)=some b:=by
 rcases ht with rfl | rfl | rfl | rfl | rfl | rfl | rfl<;>rcases hn with rfl | rfl | rfl | rfl | rfl | rfl<;>(simp at e;subst e;rfl)
end
inductive LiesAll (K:W.Frag)(ι:List Addr)(H:Hp):List PV->List V->Prop
 | nil:LiesAll K ι H [] []
 | cons {p:PV} {v:V} {ps:List PV} {vs:List V} (h:Lies K ι H p v) (t:LiesAll K ι H ps vs):LiesAll K ι H (p::ps) (v::vs)
def derefs (C:Cs):List SV->Option 6e2
 | []=>some []
 | x::xs=>match deref C x,derefs C xs with
  | some p,some ps=>some (p::ps)
  | _,_=>none
theorem ZbO {K:W.Frag}{ι:3e1}{H:Hp}{C:Cs}(cr:CR K ι H C):∀{xs:List SV} {ps:List PV} {vs:List V},RepSs K ι H xs vs->derefs C xs=some ps->LiesAll K ι H ps vs
 | [],ps,vs,r,e=>by cases e;rw[show vs=[] from r];exact .nil
 | x::xs,ps,vs,r,e=>by
  obtain ⟨v,w,rfl,h1,h2⟩:=r
  unfold derefs at e
  split at e
  ·rename_i p qs hp hq
   cases e
   exact .cons (h1.lies cr hp) (ZbO cr h2 hq)
  ·cases e
def g1 (h:List PV->Option PV):Cs->List SV->Option SV:=fun C xs=>match derefs C xs with
 | some ps=>(h ps).map .v
 | none=>none
def L1ok (K:W.Frag)(r:List V->Hp->VK->Prop)(h:List PV->Option PV):Prop:=
 ∀(ι:3e1) (H:Hp) (C:Cs) (ps:List PV) (vs:List V) (z:PV) (Q:VK),CR K ι H C->LiesAll K ι H ps vs->h ps=some z->(∀v H',Fr ι H H'->CR K ι H' C->Rep K ι H' z v->Q v H')->r vs H Q
theorem L1ok.c {K:W.Frag}{r:List V->Hp->VK->Prop}{h:List PV->Option PV}(k:L1ok K r h):C1ok K r (g1 h):=by
 intro ι H C xs vs z Q cr rs e q
 unfold g1 at e
 cases hd:derefs C xs with
 | none=>rw[hd] at e;cases e
 | some ps=>
  rw[hd] at e
  cases hz:h ps with
  | none=>simp[hz] at e
  | some z2=>
   simp[hz] at e
   subst e
   exact k ι H C ps vs z2 Q cr (ZbO cr rs hd) hz q
section
variable {X:Cx}{a b e c o:Expr}{es:4e8}{fa fb fc fo:4e0}{fs:2e8}{pos p apos cpos:Pos}{x:Str}
def TyV (K:W.Frag)(H:Hp)(x:V)(t:String):Prop:=match x with
 | .non=>t="NoneType"
 | .bl _=>t="bool"
 | .int _=>t="int"
 | .str _=>t="str"
 | .ref a=>(t="tuple"/\∃vs,SqT K H a vs)\/(t="list"/\∃vs,SqL K H a vs)\/(t="dict"/\∃kvs,H a=some (.dK kvs))
 | _=>False
theorem call_isi:CallR X (.builtin "isinstance") (fun xs H Q=>∃x n t b,xs=[x,.ty n]/\TyV X.K H x t/\W.kitOne X.K (.type t) (.type n)=some b/\Q (.bl b) H):=by
 intro pins s σ H xs us Q I r h
 obtain ⟨x,n,t,b,rfl,ty,e,q⟩:=h
 obtain ⟨u,v,rfl,ru,rv⟩:=Vals.two r
 cases (show v=X1 n from rv)
 have fin:∀tk,EP X pins σ Q (.bool b) { s with toks:=tk }:=fun tk=>⟨.bl b,H,I.tok tk,rfl,q⟩
 cases x with
 | non=>cases (show t="NoneType" from ty);exact ZbB I ru (TyOf.non) e fin
 | bl y=>cases (show t="bool" from ty);exact ZbB I ru (TyOf.bl y) e fin
 | int y=>cases (show t="int" from ty);exact ZbB I ru (TyOf.int y) e fin
 | str y=>cases (show t="str" from ty);exact ZbB I ru (TyOf.str y) e fin
 | ref a=>
  cases (show u=Yy a from ru)
  rcases (show _ from ty) with ⟨rfl,vs,h⟩ | ⟨rfl,vs,h⟩ | ⟨rfl,kvs,h⟩
  ·obtain ⟨its,_,⟨o,h1,h2,_⟩,_⟩:=I.tuple h
   exact Wr W.kitx_tuple I.kIn ⟨o,h1,h2⟩ e (fun z=>nomatch z) fin
  ·obtain ⟨its,_,⟨o,n,h1,h2,_⟩,_⟩:=I.list h
   exact Wr W.kitx_list I.kIn ⟨o,h1,h2⟩ e (fun z=>nomatch z) fin
  ·exact ZbB I ru (TyOf.dK h) e fin
 | _=>exact (show False from ty).elim
def isiH:List PV->Option PV
 | [p,.ty n]=>(isiP p n).map .bl
 | _=>none
theorem isi_ok:L1ok X.K (fun xs H Q=>∃x n t b,xs=[x,.ty n]/\TyV X.K H x t/\W.kitOne X.K (.type t) (.type n)=some b/\Q (.bl b) H) isiH:=by
 intro ι H C ps vs z Q cr ls e k
 unfold isiH at e
 split at e
 ·rename_i p n
  cases ls with
  | cons l1 ls=>cases ls with
   | cons l2 ls=>
    cases ls
    cases l2
    cases hb:isiP p n with
    | none=>rw[hb] at e;cases e
    | some b=>
     rw[hb] at e;cases e
     unfold isiP at hb
     cases ht:tyN p with
     | none=>rw[ht] at hb;cases hb
     | some t=>
      rw[ht] at hb
      dsimp only at hb
      have hn:n="int"\/n="str"\/n="bool"\/n="tuple"\/n="list"\/n="dict":=by
       by_cases h1:n="int"
       ·exact .inl h1
       ·rw[if_neg h1] at hb
        by_cases h2:n="str"\/n="bool"\/n="tuple"\/n="list"\/n="dict"
        ·exact .inr h2
        ·rw[if_neg h2] at hb;cases hb
      refine ⟨_,n,t,b,rfl,?_,kit_ok ?_ hn hb,k _ H .refl cr repBl⟩
      ·cases l1<;>(unfold tyN at ht;first | (cases ht;rfl) | (cases ht;exact .inl ⟨rfl,_,TpR.sq (by assumption)⟩) | (cases ht;exact .inr (.inl ⟨rfl,_,by assumption⟩)) | (cases ht;exact .inr (.inr ⟨rfl,_,by assumption⟩)) | cases ht)
      ·cases p<;>(unfold tyN at ht;first | (cases ht;simp) | cases ht)
 ·cases e
noncomputable def lenH:List PV->Option PV
 | [.str z]=>some (.int z.length)
 | [.lst xs]=>some (.int xs.length)
 | [.tup xs]=>some (.int xs.length)
 | _=>none
theorem len_ok:L1ok X.K (fun xs H Q=>∃x n,xs=[x]/\LenV X.K x H n/\Q (.int n) H) lenH:=by
 intro ι H C ps vs z Q cr ls e k
 unfold lenH at e
 split at e
 ·cases e;cases ls with
  | cons l t=>cases t;obtain ⟨rfl,hz⟩:=liesS l;exact ⟨_,_,rfl,⟨hz,rfl⟩,k _ H .refl cr repI⟩
 ·cases e;cases ls with
  | cons l t=>cases t;obtain ⟨a,ws,rfl,h1,r1⟩:=liesL l;exact ⟨_,_,rfl,.inl ⟨ws,h1,r1.length⟩,k _ H .refl cr repI⟩
 ·cases e;cases ls with
  | cons l t=>cases t;obtain ⟨a,ws,rfl,h1,r1⟩:=liesT l;exact ⟨_,_,rfl,.inr ⟨ws,h1.sq,r1.length⟩,k _ H .refl cr repI⟩
 ·cases e
noncomputable def maxH:List PV->Option PV
 | [.int i,.int j]=>some (.int (if j > i then j else i))
 | _=>none
noncomputable def minH:List PV->Option PV
 | [.int i,.int j]=>some (.int (if j < i then j else i))
 | _=>none
theorem max_ok:L1ok X.K (fun xs H Q=>∃i j,xs=[.int i,.int j]/\Q (.int (if j > i then j else i)) H) maxH:=by
 intro ι H C ps vs z Q cr ls e k
 unfold maxH at e
 split at e
 ·cases e;cases ls with
  | cons l t=>cases t with
   | cons l2 t=>cases t;cases l;cases l2;exact ⟨_,_,rfl,k _ H .refl cr repI⟩
 ·cases e
theorem min_ok:L1ok X.K (fun xs H Q=>∃i j,xs=[.int i,.int j]/\Q (.int (if j < i then j else i)) H) minH:=by
 intro ι H C ps vs z Q cr ls e k
 unfold minH at e
 split at e
 ·cases e;cases ls with
  | cons l t=>cases t with
   | cons l2 t=>cases t;cases l;cases l2;exact ⟨_,_,rfl,k _ H .refl cr repI⟩
 ·cases e
noncomputable def tupH:List PV->Option PV
 | [.lst xs]=>some (.tup xs)
 | [.tup xs]=>some (.tup xs)
 | _=>none
theorem tup_ok:L1ok X.K (fun xs H Q=>∃p ys,xs=[.ref p]/\((SqL X.K H p ys/\∀l,H l=none->Q (.ref l) (upd H l (.tup ys)))\/(SqT X.K H p ys/\Q (.ref p) H))) tupH:=by
 intro ι H C ps vs z Q cr ls e k
 unfold tupH at e
 split at e
 ·cases e;cases ls with
  | cons l t=>cases t;obtain ⟨a,ws,rfl,h1,r1⟩:=liesL l;exact ⟨a,ws,rfl,.inl ⟨h1,fun q hq=>k _ _ (Fr.new hq) (cr.new hq) (Zcf hq r1)⟩⟩
 ·cases e;cases ls with
  | cons l t=>cases t;obtain ⟨a,ws,rfl,h1,r1⟩:=liesT l;exact ⟨a,ws,rfl,.inr ⟨h1.sq,k _ H .refl cr (by unfold Rep;exact ⟨a,ws,rfl,h1,r1⟩)⟩⟩
 ·cases e
def listH (C:Cs):List SV->Option 6e2
 | [x]=>match deref C x with
  | some (.lst xs)=>some xs
  | some (.tup xs)=>some xs
  | _=>none
 | _=>none
def mList (fs:2e8):PSt->M 6e2:=fun ρ=>bnd (fs ρ) fun xs=>opM fun C=>listH C xs
noncomputable def boolsP:List PV->Option (List Bool)
 | []=>some []
 | .bl b::r=>(boolsP r).map (b::·)
 | _::_=>none
theorem bools_rep {K:W.Frag}{ι:3e1}{H:Hp}:∀{ps:List PV} {vs:List V} {bs:List Bool},Reps K ι H ps vs->boolsP ps=some bs->vs=bs.map V.bl
 | [],vs,bs,r,e=>by cases e;rw[r.inv0];rfl
 | p::ps,vs,bs,r,e=>by
  obtain ⟨v,w,rfl,h1,h2⟩:=r.inv
  cases p with
  | bl b=>
   unfold boolsP at e
   cases hb:boolsP ps with
   | none=>rw[hb] at e;cases e
   | some cs=>
    rw[hb] at e;cases e
    have h1:v=.bl b:=by unfold Rep at h1;exact h1
    rw[h1,bools_rep h2 hb];rfl
  | _=>cases e
def allH:List PV->Option PV
 | [.lst xs]=>(boolsP xs).map fun bs=>.bl (bs.all id)
 | _=>none
theorem all_ok:L1ok X.K (fun xs H Q=>∃(a:Addr) (bs:List Bool),xs=[.ref a]/\SqL X.K H a (bs.map V.bl)/\Q (.bl (bs.all id)) H) allH:=by
 intro ι H C ps vs z Q cr ls e k
 unfold allH at e
 split at e
 ·rename_i xs
  cases ls with
  | cons l t=>
   cases t
   obtain ⟨a,ws,rfl,h1,r1⟩:=liesL l
   cases hb:boolsP xs with
   | none=>rw[hb] at e;cases e
   | some bs=>
    rw[hb] at e;cases e
    exact ⟨a,bs,rfl,by rw[←bools_rep r1 hb];exact h1,k _ H .refl cr repBl⟩
 ·cases e
end
section
variable {X:Cx}{a b e c o i:Expr}{es:4e8}{fa fb fc fo fi fv:4e0}{fs:2e8}{pos p apos cpos:Pos}{x:Str}
noncomputable def isLst (x:SV):M Unit:=fun C=>match x with
 | .c k=>match C[k]? with
  | some (.lst _)=>some ((),C)
  | _=>none
 | _=>none
theorem isLst_some {x:SV}{C C2:Cs}(h:isLst x C=some ((),C2)):C2=C/\∃k ps,x=.c k/\C[k]? = some 6e6:=by
 unfold isLst at h
 split at h
 ·split at h
  ·rename_i k _ ps e;cases h;exact ⟨rfl,k,ps,rfl,e⟩
  ·cases h
 ·cases h
noncomputable def appC (x:SV)(ys:List SV):M SV:=fun C=>match x,ys with
 | .c k,[.v p]=>match C[k]? with
  | some (.lst ps)=>if ps.length < 100000 then some (.v .non,C.set k (.lst (ps++[p]))) else none
  | _=>none
 | _,_=>none
theorem appC_some {x:SV}{ys:List SV}{C C2:Cs}{r:SV}(h:appC x ys C=some (r,C2)):∃k p ps,x=.c k/\ys=[.v p]/\C[k]? = some 6e6/\ps.length < 100000/\r=.v .non/\C2=C.set k (.lst (ps++[p])):=by
 unfold appC at h
 split at h
 ·split at h
  ·split at h
   ·cases h;exact ⟨_,_,_,rfl,rfl,by assumption,by assumption,rfl,rfl⟩
   ·cases h
  ·cases h
 ·cases h
def mApp (fo:4e0)(fs:2e8):PSt->M SV:=fun ρ=>bnd (fo ρ) fun x=>bnd (isLst x) fun _=>bnd (fs ρ) fun ys=>appC x ys
theorem cell_lst {K:W.Frag}{ι:3e1}{H:Hp}{C:Cs}{k:Nat}{a:Addr}{ps:List PV}(cr:CR K ι H C)(hk:ι[k]? = some a)(hc:C[k]? = some 6e6):∃vs,H a=some (.lst vs)/\Reps K ι H ps vs:=cr.ok k a _ hk hc
theorem cr_set {K:W.Frag}{ι:3e1}{H:Hp}{C:Cs}{k:Nat}{a:Addr}{ps:List PV}{vs:List V}(cr:CR K ι H C)(hk:ι[k]? = some a)(r:Reps K ι H ps vs):CR K ι (upd H a (.lst vs)) (C.set k 6e6)/\Fr ι H (upd H a (.lst vs)):=by
 have fr:Fr ι H (upd H a (.lst vs)):=fun b u n e=>by
  rw[Zax (fun z=>n (by rw[z];exact Xc hk))];exact e
 exact ⟨cr.put hk ⟨vs,ZaU,Reps.mono cr fr _ _ r⟩,fr⟩
def setC (v o i:SV)(ρ:PSt):M PF:=fun C=>match o,i,v with
 | .c k,.v (.int n),.v p=>match C[k]? with
  | some (.lst ps)=>match ixN ps.length n with
   | some j=>some (.nx ρ,C.set k (.lst (ps.set j p)))
   | none=>none
  | _=>none
 | _,_,_=>none
theorem setC_some {v o i:SV}{ρ:PSt}{C C2:Cs}{fl:PF}(h:setC v o i ρ C=some (fl,C2)):∃k n p ps j,o=.c k/\i=.v (.int n)/\v=.v p/\C[k]? = some 6e6/\ixN ps.length n=some j/\fl=.nx ρ/\C2=C.set k (.lst (ps.set j p)):=by
 unfold setC at h
 split at h
 ·split at h
  ·split at h
   ·cases h;exact ⟨_,_,_,_,_,rfl,rfl,rfl,by assumption,by assumption,rfl,rfl⟩
   ·cases h
  ·cases h
 ·cases h
def mSetIx (fv fo fi:4e0):PSt->M PF:=fun ρ=>bnd (fv ρ) fun v=>bnd (fo ρ) fun o=>bnd (fi ρ) fun i=>setC v o i ρ
noncomputable def itemsP:SV->Option 6e2
 | .v (.lst xs)=>some xs
 | .v (.tup xs)=>some xs
 | .v (.str z)=>some (z.cps.toList.map fun c=>.str ⟨#[c]⟩)
 | _=>none
def mItems (f:4e0):PSt->M 6e2:=fun ρ=>bnd (f ρ) fun x=>opM fun _=>itemsP x
theorem iter_list {K:W.Frag}{ι:3e1}{H:Hp}{C:Cs}{a:Addr}{xs:List PV}{vs:List V}(cr:CR K ι H C)(h:LsR K ι H a vs)(r:Reps K ι H xs vs):Iter K ι H xs (Itl K a):=by
 have keep:∀ι2 H2,Ex ι ι2 H H2->SqL K H2 a vs:=fun ι2 H2 x=>by
  rcases h with ⟨n,q | ⟨o,q⟩⟩ | q
  ·exact .inl (.inl (x.out _ _ n q).2)
  ·exact .inl (.inr ⟨o,(x.out _ _ n q).2⟩)
  ·exact .inr q
 refine ⟨fun ι2 H2 C2 x c i hi=>?_,fun ι2 H2 C2 x c i v H3 hi y=>?_,fun ι2 H2 C2 x c=>⟨vs,keep ι2 H2 x,by rw[r.length];exact Yk _⟩⟩
 ·obtain ⟨v,e,_⟩:=r.get (Ya hi)
  exact ⟨vs,v,keep ι2 H2 x,e⟩
 ·obtain ⟨rfl,y⟩:=y
  obtain ⟨p,hp,rp⟩:=r.get' (y vs (keep ι2 _ x))
  exact ⟨fun b o e=>e,p,hp,Rep.tr cr x.out p v rp⟩
theorem iter_tup {K:W.Frag}{ι:3e1}{H:Hp}{C:Cs}{a:Addr}{xs:List PV}{vs:List V}(cr:CR K ι H C)(h:SqT K H a vs)(r:Reps K ι H xs vs):Iter K ι H xs (Itt K a):=by
 have keep:∀ι2 H2,Ex ι ι2 H H2->SqT K H2 a vs:=fun ι2 H2 x=>by
  rcases h with (q | ⟨o,q⟩) | q
  ·exact .inl (.inl (x.out _ _ (cr.notup q (fun _ e=>nomatch e) fun _ e=>nomatch e) q).2)
  ·exact .inl (.inr ⟨o,(x.out _ _ (cr.notup q (fun _ e=>nomatch e) fun _ e=>nomatch e) q).2⟩)
  ·exact .inr q
 refine ⟨fun ι2 H2 C2 x c i hi=>?_,fun ι2 H2 C2 x c i v H3 hi y=>?_,fun ι2 H2 C2 x c=>⟨vs,keep ι2 H2 x,by rw[r.length];exact Yk _⟩⟩
 ·obtain ⟨v,e,_⟩:=r.get (Ya hi)
  exact ⟨vs,v,keep ι2 H2 x,e⟩
 ·obtain ⟨rfl,y⟩:=y
  obtain ⟨p,hp,rp⟩:=r.get' (y vs (keep ι2 _ x))
  exact ⟨fun b o e=>e,p,hp,Rep.tr cr x.out p v rp⟩
theorem iter_str {K:W.Frag}{ι:3e1}{H:Hp}{z:Str}:Iter K ι H (z.cps.toList.map fun c=>.str ⟨#[c]⟩) (Its z):=by
 refine ⟨fun ι2 H2 C2 x c i hi=>by show i < z.cps.size;simpa using hi,fun ι2 H2 C2 x c i v H3 hi y=>?_,fun ι2 H2 C2 x c=>by show _=_;simp⟩
 obtain ⟨rfl,d,hd,rfl⟩:=y
 refine ⟨fun b o e=>e,.str ⟨#[d]⟩,by simp[hd],?_⟩
 exact repS (by show 1<=Yu;rw[YS];decide)
theorem iter_range {K:W.Frag}{ι:3e1}{H:Hp}{lo:Int}{n:Nat}:Iter K ι H ((Yg n).map fun (k:Nat)=>.int (lo + k)) (Itr lo n):=by
 refine ⟨fun ι2 H2 C2 x c i hi=>by show i < n;simpa using hi,fun ι2 H2 C2 x c i v H3 hi y=>?_,fun ι2 H2 C2 x c=>by show n<=_;simp⟩
 obtain ⟨rfl,rfl⟩:=y
 have hi':i < n:=by simpa using hi
 exact ⟨fun b o e=>e,.int (lo + i),by simp[hi'],repI⟩
variable {tg l:Expr}
noncomputable def rng1P:List SV->Option 6e2
 | [.v (.int j)]=>if -1000000<=j/\j<=1000000 then some ((Yg j.toNat).map fun (k:Nat)=>.int (0 + k)) else none
 | _=>none
def mRange1 (fs:2e8):PSt->M 6e2:=fun ρ=>bnd (fs ρ) fun xs=>opM fun _=>rng1P xs
theorem rng1_some {xs:List SV}{ys:List PV}(h:rng1P xs=some ys):∃j,xs=[.v (.int j)]/\(-1000000<=j/\j<=1000000)/\ys=(Yg j.toNat).map fun (k:Nat)=>.int (0 + k):=by
 unfold rng1P at h
 split at h
 ·split at h
  ·cases h;exact ⟨_,rfl,by assumption,rfl⟩
  ·cases h
 ·cases h
end
section
variable {prog:Yq}{w:World}{A:Around}{E:1e4}{s:Shared}
theorem ZbN {t sl:Addr}{items:Array Value}{vl vu:Value}{lo hi:Option Int}{Q:1e4}(ht:IsTup s.heap t items)(hs:s.heap.IsSliceOf sl vl vu .none)(pl:IsPart vl lo)(pu:IsPart vu hi)
  (hw:HT.sIx items.size 0 lo=0/\HT.sIx items.size items.size hi=items.size) (h:Q (.ref t) s):wpAny 3e9 A (Uw (.ref t) (.ref sl)) Q E s:=by
 obtain ⟨os,hos,hcs,hds⟩:=id hs
 have hTs:s.TypeIs (.ref sl) "slice":=⟨os,hos,hcs⟩
 unfold Uw
 try with_reducible refine Xh ?_
 first | refine Yb (Ye ?_) | skip
 refine Yb (wpAny_sequenceKey ht.typeIs 2e4 ?_)
 refine Yb (XU (name:=Vn "__getitem__") ht.typeIs Xd
  (XO Xd ht.typeIs entry_tuple_getitem ?_ (args_tuple_getitem _ _)))
 show wpAny _ _ (VG (.ref t) >>= _) _ _ s
 refine Yb (tupleItemsOf_ ht ?_)
 refine Yb (VM hTs ?_)
 rw[if_pos 2e4]
 refine Yb (HT.sliceApplied_gen hs pl pu ?_)
 have hyes:(((HT.sIx items.size 0 lo:Nat):Int)==0&&(1:Int)==1&&(HT.sIx items.size items.size hi - HT.sIx items.size 0 lo)==items.size)=true:=by
  rw[hw.1,hw.2];simp
 show wpAny _ _ (if (((HT.sIx items.size 0 lo:Nat):Int)==0&&(1:Int)==1&&(HT.sIx items.size items.size hi - HT.sIx items.size 0 lo)==items.size)=true then _ else _) _ _ s
 rw[if_pos hyes]
 unfold Builtin.Tuple.tupleIsExact
 refine Yb (Yb (VM ht.typeIs (Ye ?_)))
 rw[if_pos 2e4]
 refine Yb (wpAny_rule ?_)
 exact Yb (Ye (Ye ⟨_,rfl,Ye h⟩))
end
def rSlTW (K:W.Frag):V->Option Int->Option Int->Hp->VK->Prop:=fun x lo hi H Q=>∃a xs,x=.ref a/\SqT K H a xs/\(HT.sIx xs.length 0 lo=0/\HT.sIx xs.length xs.length hi=xs.length)/\Q (.ref a) H
def tMO (K:W.Frag)(f:PSt->M (Option Int)):TO:=fun σ H Q=>∃ι ρ C r C',SR K ι H ρ σ C/\f ρ C=some (r,C')/\∀H',Fr ι H H'->CR K ι H' C'->Q r H'
def OM (X:Cx)(e:Option Expr)(f:PSt->M (Option Int)):Prop:=PO X e (tMO X.K f)
def oNo:PSt->M (Option Int):=fun _=>ret none
def intD (C:Cs)(x:SV):Option (Option Int):=match deref C x with
 | some (.int i)=>some (some i)
 | _=>none
def oPart (f:4e0):PSt->M (Option Int):=fun ρ=>bnd (f ρ) fun x=>opM fun C=>intD C x
def cutP (xs:List PV)(lo hi:Option Int):List PV:=(xs.drop (HT.sIx xs.length 0 lo)).take (HT.sIx xs.length xs.length hi - HT.sIx xs.length 0 lo)
def sliceP (lo hi:Option Int):PV->Option PV
 | .lst xs=>some (.lst (cutP xs lo hi))
 | .tup xs=>some (.tup (cutP xs lo hi))
 | _=>none
def sliceD (C:Cs)(x:SV)(lo hi:Option Int):Option SV:=match deref C x with
 | some p=>(sliceP lo hi p).map .v
 | none=>none
def mSlice (f:4e0)(l h:PSt->M (Option Int)):PSt->M SV:=fun ρ=>bnd (f ρ) fun x=>bnd (l ρ) fun lo=>bnd (h ρ) fun hi=>opM fun C=>sliceD C x lo hi
theorem reps_cut {K:W.Frag}{ι:3e1}{H:Hp}{ps:List PV}{vs:List V}(r:Reps K ι H ps vs)(lo hi:Option Int):Reps K ι H (cutP ps lo hi) (cutV vs lo hi):=by
 unfold cutP cutV
 rw[r.length]
 exact (r.drop _).take _
theorem sliceD_some {C:Cs}{x z:SV}{lo hi:Option Int}(h:sliceD C x lo hi=some z):(∃xs,deref C x=some (.lst xs)/\z=.v (.lst (cutP xs lo hi)))\/∃xs,deref C x=some (.tup xs)/\z=.v (.tup (cutP xs lo hi)):=by
 unfold sliceD at h
 split at h
 ·rename_i p hd
  cases p with
  | lst xs=>cases h;exact .inl ⟨xs,hd,rfl⟩
  | tup xs=>cases h;exact .inr ⟨xs,hd,rfl⟩
  | _=>cases h
 ·cases h
section
variable {X:Cx}{a b e c o i:Expr}{es:4e8}{fa fb fc fo fi fv:4e0}{fs:2e8}{pos p apos cpos p2:Pos}{x:Str}{lo hi:Option Expr}{l h:PSt->M (Option Int)}
theorem PO.imp {e:Option Expr}{t t':TO}(h:PO X e t)(k:∀σ H Q,t' σ H Q->t σ H Q):PO X e t':=fun pins s σ H Q I q=>h pins s σ H Q I (k σ H Q q)
theorem sl_tupW:SlR X (rSlTW X.K):=by
 intro pins s σ H x v vl vu lo hi sl Q I rx hs pl pu h
 obtain ⟨a,xs,rfl,hx,hw,q⟩:=h
 cases rx
 obtain ⟨its,r,ht,hz⟩:=I.tuple hx
 have hlen:its.toArray.size=xs.length:=by rw[Yh];exact r.length.symm
 exact ⟨"tuple",_,Xd.lookup,ht.typeIs,ZbN ht hs pl pu (by rw[hlen];exact hw) ⟨.ref a,H,I,rfl,q⟩⟩
theorem cut_whole {xs:List PV}{lo hi:Option Int}(h:HT.sIx xs.length 0 lo=0/\HT.sIx xs.length xs.length hi=xs.length):cutP xs lo hi=xs:=by
 unfold cutP;rw[h.1,h.2];simp
noncomputable def flatP:PV->Bool
 | .non=>true
 | .bl _=>true
 | .int _=>true
 | .str _=>true
 | _=>false
noncomputable def eqF:PV->PV->Bool
 | .non,.non=>true
 | .bl a,.bl b=>a==b
 | .bl a,.int b=>(if a then 1 else 0)==b
 | .int a,.bl b=>a==(if b then 1 else 0)
 | .int a,.int b=>a==b
 | .str a,.str b=>a==b
 | _,_=>false
noncomputable def strIn (i j:Str):Bool:=!(Wm j i 0 j.length 1).isEmpty
def inB (x:PV):PV->Option Bool
 | .str j=>match x with
  | .str i=>some (strIn i j)
  | _=>none
 | .lst xs=>if flatP x&&xs.all flatP then some (xs.any fun y=>eqF y x) else none
 | .tup xs=>if flatP x&&xs.all flatP then some (xs.any fun y=>eqF y x) else none
 | _=>none
def inP (x y:PV):Option PV:=(inB x y).map .bl
theorem flat_rep {K:W.Frag}{ι:3e1}{H:Hp}{q:PV}{v:V}(r:Lies K ι H q v)(h:flatP q=true):flatV v=true:=by cases r<;>first | rfl | cases h
theorem eqF_rep {K:W.Frag}{ι:3e1}{H:Hp}{q r:PV}{v w:V}(h1:Lies K ι H q v)(h2:Lies K ι H r w)(f1:flatP q=true)(f2:flatP r=true):eqV v w=eqF q r:=by
 cases h1<;>cases h2<;>first | rfl | cases f1 | cases f2
theorem Zc1 {K:W.Frag}{ι:3e1}{H:Hp}{x:PV}{vx:V}(lx:Lies K ι H x vx)(fx:flatP x=true):∀{ps:List PV} {vs:List V},Reps K ι H ps vs->ps.all flatP=true->vs.all flatV=true/\inV vx vs=ps.any fun y=>eqF y x
 | [],vs,r,h=>by rw[r.inv0];exact ⟨rfl,rfl⟩
 | q::ps,vs,r,h=>by
  obtain ⟨v,w,rfl,h1,h2⟩:=r.inv
  rw[Y9,Yd] at h
  obtain ⟨k1,k2⟩:=Zc1 lx fx h2 h.2
  refine ⟨by rw[Y9,flat_rep (Rep.lies h1) h.1,k1];rfl,?_⟩
  unfold inV at k2 ⊢
  rw[XE,XE,k2,eqF_rep (Rep.lies h1) lx h.1 fx]
theorem in_ok:L2ok X.K (fun x y H Q=>(∃i j,x=.str i/\y=.str j/\Q (.bl (!(Wm j i 0 j.length 1).isEmpty)) H)\/rIn X.K false x y H Q) inP:=by
 intro ι H C p q vx vy z Q cr lx ly e k
 unfold inP at e
 cases hb:inB p q with
 | none=>rw[hb] at e;cases e
 | some b=>
  rw[hb] at e;cases e
  unfold inB at hb
  split at hb
  ·split at hb
   ·cases hb;cases lx;cases ly;exact .inl ⟨_,_,rfl,rfl,k _ H .refl cr repBl⟩
   ·cases hb
  ·split at hb
   ·rename_i xs hf
    cases hb
    rw[Yd] at hf
    obtain ⟨a,vs,rfl,h1,rv⟩:=liesL ly
    obtain ⟨k1,k2⟩:=Zc1 lx hf.1 rv hf.2
    exact .inr ⟨a,vs,rfl,.inl h1,flat_rep lx hf.1,k1,by rw[if_neg Yi,k2];exact k _ H .refl cr repBl⟩
   ·cases hb
  ·split at hb
   ·rename_i xs hf
    cases hb
    rw[Yd] at hf
    obtain ⟨a,vs,rfl,h1,rv⟩:=liesT ly
    obtain ⟨k1,k2⟩:=Zc1 lx hf.1 rv hf.2
    exact .inr ⟨a,vs,rfl,.inr h1.sq,flat_rep lx hf.1,k1,by rw[if_neg Yi,k2];exact k _ H .refl cr repBl⟩
   ·cases hb
  ·cases hb
theorem op_inAll:OpR X (Y6 .In) (fun x y H Q=>(∃i j,x=.str i/\y=.str j/\Q (.bl (!(Wm j i 0 j.length 1).isEmpty)) H)\/rIn X.K false x y H Q):=OpR.or op_in_str op_in_seq
def Mtok (K:W.Frag)(r:V->List V->Hp->VK->Prop)(h:PV->List PV->Option PV):Prop:=
 ∀(ι:3e1) (H:Hp) (C:Cs) (q:PV) (v:V) (ps:List PV) (vs:List V) (z:PV) (Q:VK),CR K ι H C->Lies K ι H q v->LiesAll K ι H ps vs->h q ps=some z->(∀v H',Fr ι H H'->CR K ι H' C->Rep K ι H' z v->Q v H')->r v vs H Q
noncomputable def tyP (T:String):PV->Bool
 | .str _=>T=="str"
 | .int _=>T=="int"
 | .lst _=>T=="list"
 | .dct _ _=>T=="dict"
 | .dtt _ _=>T=="dict"
 | _=>false
def isTy (T:String)(x:SV):M Unit:=fun C=>match deref C x with
 | some q=>if tyP T q then some ((),C) else none
 | none=>none
def mtD (h:PV->List PV->Option PV)(C:Cs)(x:SV)(xs:List SV):Option SV:=match deref C x,derefs C xs with
 | some q,some ps=>(h q ps).map .v
 | _,_=>none
def mMt (T:String)(h:PV->List PV->Option PV)(fo:4e0)(fs:2e8):PSt->M SV:=fun ρ=>bnd (fo ρ) fun x=>bnd (isTy T x) fun _=>bnd (fs ρ) fun xs=>opM fun C=>mtD h C x xs
def tyW (K:W.Frag)(T:String)(x:V)(H:Hp):Prop:=tyV K T x H\/(T="dict"/\∃a,x=.ref a/\∃kvs,Rd H a (.dT kvs))
noncomputable def tBW (K:W.Frag)(T:String)(r:V->List V->Hp->VK->Prop)(to:TE)(t:TA):TE:=fun σ H Q=>to σ H fun x H1=>tyW K T x H1/\t σ H1 fun xs H2=>r x xs H2 Q
theorem pe_bw {to:TE}{t:TA}{name:Str}{T id:String}{r:V->List V->Hp->VK->Prop}(pa:PlainAttrs T)(slot:Slot T name id)(hty:typeOf (.builtin id)=pure (.type "method_descriptor"))(hm:MtR X id r)(ho:PE X o to)(ha:PA X 5e1 t)
  (hbase:WG o name X.env (eval o X.env)=eval o X.env:=by rfl)
  (hfew:((backTo cpos (Yj 5e1 X.env)).all (fun x=>!x.1)&&(Uu cpos (Vh [] X.env)).all (fun x=>x.1.isSome)
   &&decide ((e::es).length + ([]:List Vi).length + (if ([]:List Vi).isEmpty then 0 else 1) < 30))=true:=by rfl)
  (hline:(apos.endLine==cpos.line)=true:=by rfl) (hs:1e9:=by rfl) (hplain:(backTo cpos (Yj es X.env)).any (·.1)=false:=by rfl):
  PE X (.Call (.Attribute o name apos) 5e1 [] cpos) (tBW X.K T r to t):=by
 intro pins s σ H Q I h
 refine wpAny_Call_method_late hbase hfew hline rfl (thn (ho pins s σ H _ I h) fun v s1 h_=>?_)
 obtain ⟨x,H1,I1,r1,ty,q1⟩:=h_
 obtain ⟨h1,h2⟩:s1.TypeIs v T/\∀a,v=.ref a->∃ob,s1.heap.get? a=some ob/\ob.dict=none:=by
  rcases ty with ty | ⟨rfl,a,rfl,kvs,hd⟩
  ·exact tyV_is I1 r1 ty
  ·cases r1
   obtain ⟨z1,z2,_⟩:=isD_at I1 (.inr ⟨kvs,hd⟩)
   exact ⟨z1,z2⟩
 refine ⟨T,id,pa,slot,hty,h1,h2,?_⟩
 have hA:=ha cpos pins s1 σ H1 _ I1 q1
 rw[hs] at hA ⊢
 refine Calls.callWith_builtin (by show (false||(backTo cpos (Yj es X.env)).any (·.1))=false;rw[hplain]<;>rfl) (Calls.evalArgs_plain ?_)
 exact thn hA fun us s2 ⟨vs,H2,I2,r2,q2⟩=>hm pins s2 σ H2 x vs v us Q I2 r1 r2 q2
theorem lies_ty {K:W.Frag}{ι:3e1}{H:Hp}{T:String}{q:PV}{v:V}(l:Lies K ι H q v)(h:tyP T q=true):tyW K T v H:=by
 cases l with
 | str y hy=>exact .inl (eq_of_beq (by simpa[tyP] using h))
 | int y=>exact .inl (eq_of_beq (by simpa[tyP] using h))
 | lst h1 r=>exact .inl (.inl ⟨eq_of_beq (by simpa[tyP] using h),_,h1⟩)
 | dct h1 hl r=>exact .inl (.inr (.inr (.inl ⟨eq_of_beq (by simpa[tyP] using h),.inl ⟨_,h1⟩⟩)))
 | dtt h1 hl r=>exact .inr ⟨eq_of_beq (by simpa[tyP] using h),_,rfl,_,h1⟩
 | _=>cases h
theorem em_mt {T id:String}{name:Str}{r:V->List V->Hp->VK->Prop}{h:PV->List PV->Option PV}(pa:PlainAttrs T)(slot:Slot T name id)(hty:typeOf (.builtin id)=pure (.type "method_descriptor"))(hm:MtR X id r)(hk:Mtok X.K r h)
  (ho:EM X o fo) (ha:AM X 5e1 fs) (hbase:WG o name X.env (eval o X.env)=eval o X.env:=by rfl)
  (hfew:((backTo cpos (Yj 5e1 X.env)).all (fun x=>!x.1)&&(Uu cpos (Vh [] X.env)).all (fun x=>x.1.isSome)
   &&decide ((e::es).length + ([]:List Vi).length + (if ([]:List Vi).isEmpty then 0 else 1) < 30))=true:=by rfl)
  (hline:(apos.endLine==cpos.line)=true:=by rfl) (hs:1e9:=by rfl) (hplain:(backTo cpos (Yj es X.env)).any (·.1)=false:=by rfl):
  EM X (.Call (.Attribute o name apos) 5e1 [] cpos) (mMt T h fo fs):=
 PE.imp (pe_bw pa slot hty hm ho ha hbase hfew hline hs hplain) fun σ H Q h_=>by
  obtain ⟨ι,ρ,C,z,C',sr,e,q⟩:=h_
  obtain ⟨x,C1,e1,g1⟩:=Zai e
  obtain ⟨u,C2,e2,g2⟩:=Zai g1
  obtain ⟨xs,C3,e3,g3⟩:=Zai g2
  obtain ⟨e4,hC⟩:=ZaJ g3
  subst hC
  clear e g1 g2 g3
  refine ⟨ι,ρ,C,x,C1,sr,e1,fun v H1 f1 c1 r1=>?_⟩
  unfold isTy at e2
  split at e2
  ·rename_i q0 hd0
   split at e2
   ·rename_i ht
    cases e2
    refine ⟨lies_ty (r1.lies c1 hd0) ht,ι,ρ,_,xs,_,sr.step f1 c1,e3,fun vs H2 f2 c2 r2=>?_⟩
    unfold mtD at e4
    split at e4
    ·rename_i q1 ps hd1 hds
     cases hz:h q1 ps with
     | none=>rw[hz] at e4;cases e4
     | some z1=>
      rw[hz] at e4;cases e4
      exact hk ι H2 _ q1 v ps vs z1 Q c2 ((r1.mono c1 f2).lies c2 hd1) (ZbO c2 r2 hds) hz fun v' H3 f3 c3 r3=>q v' H3 (f1.trans (f2.trans f3)) c3 r3
    ·cases e4
   ·cases e2
  ·cases e2
end
section
variable {X:Cx}{a b e c o i:Expr}{es:4e8}{fa fb fc fo fi fv:4e0}{fs:2e8}{pos p apos cpos p2:Pos}{x:Str}
noncomputable def strsP:List PV->Option (List Str)
 | []=>some []
 | .str b::r=>(strsP r).map (b::·)
 | _::_=>none
def joinH:PV->List PV->Option PV
 | .str z,[.lst xs]=>match strsP xs with
  | some ys=>if (ys.map (·.length)).sum + ys.length * z.length<=1000000 then some (.str (Txt.join z ys)) else none
  | none=>none
 | _,_=>none
noncomputable def stripH:PV->List PV->Option PV
 | .str z,[.str y]=>some (.str (Txt.stripChars z y))
 | _,_=>none
theorem strip_len (z y:Str):(Txt.stripChars z y).length<=z.length:=by
 unfold Txt.stripChars Txt.stripBy
 split
 ·exact Yk _
 ·unfold stripped W8
  show (Array.extract _ _ _).size<=z.cps.size
  rw[Array.size_extract]
  lia
theorem strip_ok:Mtok X.K (fun x xs H Q=>∃(z y:Str),x=.str z/\xs=[.str y]/\z.length<=Yu/\Q (.str (Txt.stripChars z y)) H) stripH:=by
 intro ι H C q v ps vs z Q cr lq ls e k
 unfold stripH at e
 split at e
 ·cases e
  cases ls with
  | cons l t=>
   cases t
   obtain ⟨rfl,hz⟩:=liesS lq
   obtain ⟨rfl,hy⟩:=liesS l
   exact ⟨_,_,rfl,rfl,hz,k _ H .refl cr (repS (YG (strip_len _ _) hz))⟩
 ·cases e
noncomputable def keyP:PV->Option Key
 | .int i=>some (.inl i)
 | .str z=>some (.inr z)
 | _=>none
theorem keyP_kP (k:Key):keyP (kP k)=some k:=by cases k<;>rfl
def lookP:List PV->List PV->Key->Option PV
 | k::ks,v::vs,q=>if keyP k=some q then some v else lookP ks vs q
 | _,_,_=>none
theorem Zcz {K:W.Frag}{ι:3e1}{H:Hp}{q:Key}:∀{qs:List Key} {ps:List PV} {vs:List V},qs.length=vs.length->Reps K ι H ps vs->
  (∀z,lookP (qs.map kP) ps q=some z->∃v,valV (qs.zip vs) q=some v/\Rep K ι H z v)/\(lookP (qs.map kP) ps q=none->valV (qs.zip vs) q=none)
 | [],ps,vs,hl,r=>by
  refine ⟨fun z h=>?_,fun _=>rfl⟩
  cases ps<;>cases h
 | k::qs,[],vs,hl,r=>by rw[r.inv0] at hl;cases hl
 | k::qs,p::ps,vs,hl,r=>by
  obtain ⟨v,w,rfl,h1,h2⟩:=r.inv
  have ih:=Zcz (q:=q) (qs:=qs) (ps:=ps) (vs:=w) (by simpa using hl) h2
  rw[YO,Xn]
  unfold lookP
  rw[keyP_kP]
  by_cases h:k=q
  ·subst h
   rw[if_pos rfl,Zct (p:=(k,v)) rfl]
   exact ⟨fun z e=>by cases e;exact ⟨v,rfl,h1⟩,fun e=>nomatch e⟩
  ·rw[if_neg (fun e=>h (YA e)),Zcu (p:=(k,v)) h]
   exact ih
theorem lies_key {K:W.Frag}{ι:3e1}{H:Hp}{x:PV}{v:V}{q:Key}(l:Lies K ι H x v)(h:keyP x=some q):v=kV q:=by
 cases l<;>first | (cases h;rfl) | cases h
theorem liesD {K:W.Frag}{ι:3e1}{H:Hp}{ks ps:List PV}{v:V}(l:Lies K ι H (.dct ks ps) v):∃(a:Addr) (qs:List Key) (vs:List V),v=.ref a/\ks=qs.map kP/\H a=some (.dK (qs.zip vs))/\qs.length=vs.length/\Reps K ι H ps vs:=by
 cases l;exact ⟨_,_,_,rfl,rfl,by assumption,by assumption,by assumption⟩
noncomputable def rDGet:R2:=fun x y H Q=>∃a v,x=.ref a/\DGet H a y (some v)/\Q v H
theorem ix_dict (hu:X.A.units + 1 < cLine):IxR X rDGet:=by
 intro value slice pins s σ H x y v u Q I rx ry h hs
 obtain ⟨a,w,rfl,g,q⟩:=h
 cases rx
 exact tail_any (dict_typeIs I g) PySem.F.slot_dict_getitem.lookup (d_getItem hu I g ry fun w' s' I' r'=>⟨w,H,I',r',q⟩) hs
def ixQ (x y:PV):Option PV:=match x with
 | .dct ks vs=>match keyP y with
  | some q=>lookP ks vs q
  | none=>none
 | x=>ixP x y
theorem ixQ_ok:L2ok X.K (fun x y H Q=>rIx X.K x y H Q\/rDGet x y H Q) ixQ:=by
 intro ι H C p q vx vy z Q cr lx ly e k
 unfold ixQ at e
 split at e
 ·rename_i ks vs
  split at e
  ·rename_i key hk
   obtain ⟨a,qs,ws,rfl,rfl,hd,hl,r⟩:=liesD lx
   obtain ⟨v,hv,rv⟩:=(Zcz hl r).1 z e
   rw[lies_key ly hk]
   exact .inr ⟨a,v,rfl,by rw[←hv];exact DGet.k hd,k v H .refl cr rv⟩
  ·cases e
 ·exact .inl (ix_ok ι H C p q vx vy z Q cr lx ly e k)
theorem track {pins:2e0}{σ:St}{H:Hp}{s:Shared}{d:Addr}{ob:HO}(I:2e3)(hn:H d=none)(hd:X.s₀.heap.objs.size<=d)(hL:d≠X.env.locals)(hc:∀x c,X.env.cells.lookup x=some c->c≠d)
  (hp:∀p∈X.pn++pins,p.1≠d) (new:ObjOk X.prog X.w (upd H d ob) s.heap d ob):Inv X pins σ (upd H d ob) s:=by
 have u:=I.base
 refine ⟨I.ok,I.os,I.bare,⟨u.keep,u.slot,fun b o e q hx=>?_,u.there,fun b xs e=>?_,fun b o xs e=>?_,fun b ps e=>?_⟩,I.loc,I.cell,?_,fun x c e=>?_,fun p hp'=>?_,fun b o e=>?_,I.len⟩
 ·rw[Zax (Yo (Yv (Ys e) hd))];exact u.free b o e q hx
 ·rw[Zax (Zaq (u.tups b xs e) hn)];exact u.tups b xs e
 ·rw[Zax (Zaq (u.frzs b o xs e) hn)];exact u.frzs b o xs e
 ·obtain ⟨more,q⟩:=u.tbls b ps e
  exact ⟨more,by rw[Zax (Zaq q hn)];exact q⟩
 ·rw[Zax (XT hL)];exact I.free
 ·rw[Zax (hc x c e)];exact I.freeC x c e
 ·obtain ⟨h1,h2,h3⟩:=I.pin p hp'
  exact ⟨h1,by rw[Zax (hp p hp')];exact h2,h3⟩
 ·by_cases hb:b=d
  ·subst hb
   rw[ZaU] at e;cases e;exact new
  ·rw[Zax hb] at e
   exact (I.hok b o e).stay (fun _ _ _ q=>q) (fun c q=>by rw[Zax (Zaq q hn)];exact q) fun c xs q=>by rw[Zax (Zaq q hn)];exact q
theorem DictOf_empty {P:Yq}{w:World}{h:Heap}{d:Addr}(e:h.get? d=some { cls:=.type "dict",data:=.dict #[] }):h.DictOf (mixKind P w) d []:=by
 have hn:=Heap.DictOf.new (knd:=mixKind P w) { h with objs:=#[] }
 obtain ⟨o,es,ep,h1,h2,h3,h4⟩:=hn
 rw[Yp _ rfl] at h1
 cases h1
 exact ⟨_,es,ep,e,h2,h3,h4⟩
def PRel:List Str->List V->List (Value×Value)->Prop
 | [],[],[]=>True
 | k::ks,v::vs,(u,w)::r=>keyIs (.inr k) u=true/\RelV v w/\PRel ks vs r
 | _,_,_=>False
def DP (X:Cx)(ks:List (Option Expr))(es:4e8)(keys:4e6)(t:TA):Prop:=
 ∀(pos:Pos) (pins:2e0) (s:Shared) (σ:St) (H:Hp) (Q:List V->Hp->Prop),Inv X pins σ H s->t σ H Q->
  wpAny 3e0 X.A (evalPairs (pairTrees ks es X.env pos)) (fun us s'=>∃vs H',Inv X pins σ H' s'/\PRel keys vs us/\Q vs H') X.xe s
def DM (X:Cx)(ks:List (Option Expr))(es:4e8)(keys:4e6)(f:2e8):Prop:=DP X ks es keys (tMA X.K f)
def mDict (keys:4e6)(fs:2e8):PSt->M SV:=fun ρ=>bnd (fs ρ) fun xs=>opM fun _=>(plain xs).map fun ps=>.v (.dct (keys.map PV.str) ps)
theorem prel_carries {P:Yq}{w:World}:∀{keys:4e6} {vs:List V} {us:List (Value×Value)},PRel keys vs us->keys.length=vs.length/\us.length=keys.length/\∃kvs:List (Key×Value),Carries (mixKind P w) us kvs/\KV ((keys.map XM).zip vs) kvs/\kvs.map (·.1)=keys.map Sum.inr:=by
 intro keys
 induction keys with
 | nil=>
  intro vs us h
  cases vs with
  | nil=>cases us with
   | nil=>exact ⟨rfl,rfl,[],trivial,.nil,rfl⟩
   | cons _ _=>exact h.elim
  | cons _ _=>exact h.elim
 | cons k ks ih=>
  intro vs us h
  cases vs with
  | nil=>exact h.elim
  | cons v vs=>cases us with
   | nil=>exact h.elim
   | cons y r=>
    obtain ⟨h1,h2,h3⟩:=h
    obtain ⟨a1,a2,kvs,a3,a4,a5⟩:=ih h3
    exact ⟨by simp[a1],by simp[a2],(XM k,y.2)::kvs,⟨h1,rfl,a3⟩,.cons ⟨rfl,h2⟩ a4,by simp[a5]⟩
end
structure TopD (K:W.Frag)(w:World)(d:Addr)(tab:List (Str×Addr)):Prop where
 ex:∃(es:Array WB) (n:Nat),K.lookup d=some ⟨.type "dict",none,.dict es n,#[]⟩/\W.KeysLit w.params es.toList/\Paired (fun (p:Str×Addr) (e:WB)=>XS p.1 e.key=true/\e.val=.ref p.2) tab es.toList
 lo:(d==XH)=false
theorem isStrOf_iff {x y:Str}{v:Value}(h:XS y v=true):XS x v=decide (x=y):=by
 obtain ⟨t,rfl⟩:=Value.isStrOf_shape h
 by_cases e:x=y
 ·subst e;simp[XS]
 ·have:¬(y=x):=fun z=>e z.symm
  simp[XS,e,this]
theorem tab_find {x:Str}:∀{tab:List (Str×Addr)} {es:List WB},Paired (fun (p:Str×Addr) (e:WB)=>XS p.1 e.key=true/\e.val=.ref p.2) tab es->
    (es.find? fun d=>XS x d.key).map (·.val)=(tab.lookup x).map Yy
  | _,_,.nil=>rfl
  | (k,f)::tab,e::es,.cons h t=>by
    have ih:=tab_find (x:=x) t
    rw[Wc,YJ,isStrOf_iff h.1]
    by_cases hx:x=k
    · subst hx
      rw[decide_eq_true rfl,beq_self_eq_true]
      simp[h.2]
    · rw[decide_eq_false hx,beq_eq_false_iff_ne.mpr hx]
      exact ih
theorem TopD.map {K:W.Frag}{w:World}{d:Addr}{tab:List (Str×Addr)}(T:TopD K w d tab)(prog:Yq){h:Heap}(X:K.In h):h.MapOf (strKind prog w) d (fun k=>(tab.lookup k).map Yy):=by
 obtain ⟨es,n,hl,hk,hp⟩:=T.ex
 have m:=W.mapOf_K (prog:=prog) X hl hk
 have e:(fun k=>findBy XS es k)=fun k=>(tab.lookup k).map Value.ref:=by
  funext k
  rw[←tab_find hp]
  obtain ⟨l⟩:=es
  unfold findBy
  rw[List.find?_toArray]
 rw[←e];exact m
section
variable {X:Cx}{a b e c o i:Expr}{es:4e8}{fa fb fc fo fi fv:4e0}{fs:2e8}{pos p apos cpos p2:Pos}{x:Str}{d:Addr}{tab:List (Str×Addr)}
def topG (d:Addr)(tab:List (Str×Addr))(C:Cs)(x y:SV):Option SV:=match x,deref C y with
 | .v (.fn d'),some (.str k)=>if d'=d then (tab.lookup k).map fun f=>.v (.fn f) else none
 | _,_=>none
def topI (d:Addr)(tab:List (Str×Addr))(neg:Bool)(C:Cs)(x y:SV):Option SV:=match y,deref C x with
 | .v (.fn d'),some (.str k)=>if d'=d then some (.v (.bl (if neg then !(tab.lookup k).isSome else (tab.lookup k).isSome))) else none
 | _,_=>none
theorem ix_top (T:TopD X.K X.w d tab):IxR X (fun x y H Q=>∃k f,x=.ref d/\y=.str k/\tab.lookup k=some f/\Q (.ref f) H):=by
 intro value slice pins s σ H x y v u Q I rx ry h hs
 obtain ⟨k,f,rfl,rfl,hk,q⟩:=h
 cases rx
 obtain ⟨t,rfl⟩:=ry
 have m:=T.map X.prog I.kIn
 exact tail_any m.typeIs slot_dict_getitem.lookup (wpAny_getItem_of (strKind_is X.prog X.w k t) m (by rw[hk];rfl) ⟨.ref f,H,I.tok _,rfl,q⟩) hs
theorem topG_ok {K:W.Frag}:R2ok K (fun x y H Q=>∃k f,x=.ref d/\y=.str k/\tab.lookup k=some f/\Q (.ref f) H) (topG d tab):=by
 intro ι H C x y vx vy z Q cr rx ry e k
 unfold topG at e
 split at e
 ·rename_i d' key hy
  split at e
  ·rename_i hd
   subst hd
   cases hf:tab.lookup key with
   | none=>rw[hf] at e;cases e
   | some f=>
    rw[hf] at e
    cases e
    have rx:vx=.ref d':=by unfold RepS Rep at rx;exact rx
    obtain ⟨rfl,_⟩:=liesS (ry.lies cr hy)
    exact ⟨key,f,rx,rfl,hf,k _ H .refl cr (by unfold RepS Rep;rfl)⟩
  ·cases e
 ·cases e
theorem op_topnotin (T:TopD X.K X.w d tab):OpR X (Y6 .NotIn) (fun x y H Q=>∃k,y=.ref d/\x=.str k/\Q (.bl (!(tab.lookup k).isSome)) H):=by
 intro pins s σ H x y v u Q I rx ry h
 obtain ⟨k,rfl,rfl,q⟩:=h
 cases ry
 obtain ⟨t,rfl⟩:=rx
 refine wpAny_notIn_of (strKind_is X.prog X.w k t) T.lo (T.map X.prog I.kIn) ?_
 rw[Option.isSome_map]
 exact ⟨.bl _,H,I.tok _,rfl,q⟩
theorem topI_okN {K:W.Frag}:R2ok K (fun x y H Q=>∃k,y=.ref d/\x=.str k/\Q (.bl (!(tab.lookup k).isSome)) H) (topI d tab true):=by
 intro ι H C x y vx vy z Q cr rx ry e k
 unfold topI at e
 split at e
 ·rename_i d' key hy
  split at e
  ·rename_i hd
   subst hd
   cases e
   have ry:vy=.ref d':=by unfold RepS Rep at ry;exact ry
   obtain ⟨rfl,_⟩:=liesS (rx.lies cr hy)
   exact ⟨key,ry,rfl,k _ H .refl cr repB'⟩
  ·cases e
 ·cases e
def callF (T:List (Addr×(List SV->M SV)))(f:SV)(xs:List SV):M SV:=fun C=>match f with
 | .v (.fn a)=>match T.lookup a with
  | some F=>F xs C
  | none=>none
 | _=>none
def mCallV (i:Nat)(T:List (Addr×(List SV->M SV)))(fs:2e8):PSt->M SV:=fun ρ=>bnd (mVar i ρ) fun f=>bnd (fs ρ) fun xs=>callF T f xs
theorem callV_some {T:List (Addr×(List SV->M SV))}{f:SV}{xs:List SV}{C C2:Cs}{r:SV}(h:callF T f xs C=some (r,C2)):∃a F,f=.v (.fn a)/\T.lookup a=some F/\F xs C=some (r,C2):=by
 unfold callF at h
 split at h
 ·split at h
  ·exact ⟨_,_,rfl,by assumption,h⟩
  ·cases h
 ·cases h
theorem hv_of {T:List (Addr×(List SV->M SV))}{Pd:Addr->(List SV->M SV)->Prop}(h:∀q∈T,Pd q.1 q.2):∀a F,T.lookup a=some F->Pd a F:=fun a F e=>h (a,F) (Zbh e)
def mDict0:PSt->M SV:=fun _=>ret (.v (.dct [] []))
theorem fun_ne {K:W.Frag}{x1 x2 q1 q2:Str}{s1 s2:Stmt}{f1 f2:Addr}{d1 d2:Yw}(F1:Fun K x1 q1 s1 f1 d1)(F2:Fun K x2 q2 s2 f2 d2)(h:x1≠x2):f1≠f2:=by
 obtain ⟨oc,od,kV,doc,pm,an,cdv,ct,osl,e1,l1,_⟩:=F1.ex
 obtain ⟨oc2,od2,kV2,doc2,pm2,an2,cdv2,ct2,osl2,e2,l2,_⟩:=F2.ex
 intro e
 subst e
 rw[l1] at l2
 injection l2 with l2
 injection l2 with _ _ l3 _
 injection l3 with l4
 rw[e1,e2] at l4
 exact h (congrArg FuncData.name l4)
end
section
variable {P:Yq}{w:World}{A:Around}{E:1e4}{s:Shared}{z TI TO i1 i2:Addr}{us1 us2:3e1}{R1 R2:Value->Prop}{st1 st1' st2 st2':Heap->Prop}
theorem tup_nextOf {it t:Addr}{i:Nat}{items:Array Value}{x:Value}{Q:1e4}(hit:s.heap.IsTupleIter it t i)(ht:s.heap.IsTuple t items)(hx:items[i]? = some x)
  (hQ:∀h',h'.IsTupleIter it t (i + 1)->XF it s.heap h'->Q x { s with heap:=h' }):wpAny (model P w) A (X9 (.ref it)) Q E s:=by
 obtain ⟨o,ho,hc,hd⟩:=id hit;obtain ⟨ol,hol,_,nl,hdl⟩:=ht
 unfold X9
 refine Yb (XU (name:=Vn "__next__") hit.typeIs Xx (XO Xx hit.typeIs Va ?_ (WY _)))
 show wpAny _ _ (field (.ref it) 0 >>= _) _ _ s;refine Yb (Vf ho hd (x:=.ref t) rfl ?_)
 show wpAny _ _ (if (Yy t==Xj)=true then _ else _) _ _ s;rw[if_neg (show ¬((Yy t==Xj)=true) from Yi)]
 show wpAny _ _ (field (.ref it) 1 >>= _) _ _ s;refine Yb (Vf ho hd (x:=.int i 0) rfl ?_)
 show wpAny _ _ (seqItems? (.ref t) >>= _) _ _ s;refine Yb (VT hol hdl ?_);simp only[XY,hx]
 refine Yb (VX ho hd 3e4 (Ye ⟨x,rfl,Ye (hQ _ ?_ (XD ..))⟩));exact ⟨_,WA _ ho (Obj.isFreed_of_fields (Vb hd _)),(Obj.cls_mapFields ..).trans hc,by rw[Vb hd];simp[rawInt]⟩
theorem ZcF {it t:Addr}{i:Nat}{items:Array Value}{Q:1e4}(hh:A.handled=none)(hit:s.heap.IsTupleIter it t i)(ht:s.heap.IsTuple t items)(hx:items[i]? = none)
  (hE:∀h' e,Heap.ExtBut it s.heap h'->(∃o,h'.get? e=some o/\o.cls=.type "StopIteration")->E (.ref e) { s with heap:=h' }):wpAny (model P w) A (X9 (.ref it)) Q E s:=by
 obtain ⟨o,ho,hc,hd⟩:=id hit;obtain ⟨ol,hol,_,nl,hdl⟩:=ht
 unfold X9
 refine Yb (XU (name:=Vn "__next__") hit.typeIs Xx (XO Xx hit.typeIs Va ?_ (WY _)))
 show wpAny _ _ (field (.ref it) 0 >>= _) _ _ s;refine Yb (Vf ho hd (x:=.ref t) rfl ?_)
 show wpAny _ _ (if (Yy t==Xj)=true then _ else _) _ _ s;rw[if_neg (show ¬((Yy t==Xj)=true) from Yi)]
 show wpAny _ _ (field (.ref it) 1 >>= _) _ _ s;refine Yb (Vf ho hd (x:=.int i 0) rfl ?_)
 show wpAny _ _ (seqItems? (.ref t) >>= _) _ _ s;refine Yb (VT hol hdl ?_);simp only[XY,hx]
 refine Yb (wpAny_rule (Yb (VX ho hd 3e4 ?_)));show wpAny _ _ (newExc (.type "StopIteration") [] >>= _) _ _ _
 refine Yb ?_;simp only[newExc,newTuple];refine Yb (XA ?_ (by size_fits))
 refine Yb (m:=firstArgMember _ _) (wpAny_of_eq (a:=Xj) (by first | rfl | (simp only[firstArgMember];rfl)) ?_);refine XA ?_ (by size_fits)
 simp only[raiseNew];refine Yb (wpAny_handled ?_);first | rw[show A.in1.handled=none from hh] | rw[hh]
 refine Yb (Ye (wpAny_throw ?_));exact hE _ _ (((XD ..).extBut.push _).push _) ⟨_,Yp _ rfl,rfl⟩
end
inductive ZS where
 | l (a:Addr) | t (a:Addr) | s (z:Str) (tk:Tok) (wd:Bool)
section
variable {X:Cx}{pins:2e0}{σ:St}{H:Hp}{s:Shared}
theorem turnedL {t':Nat}{h':Heap}{ch:3e1}(I:2e3)(k:∀b o,b∉ch->s.heap.get? b=some o->h'.get? b=some o)(hf:∀b∈ch,FpOk X pins H b):Inv X pins σ H { s with heap:=h',toks:=t' }:=by
 have nit:∀b u,H b=some u->b∉ch:=fun b u e z=>by rw[(hf b z).1] at e;cases e
 refine I.step (g':=s.gens) (d':=s.drawn) (ch:=ch) (fun b hb=>⟨(hf b hb).2.2.2.1,(hf b hb).2.1,(hf b hb).2.2.2.2.1,(hf b hb).2.2.2.2.2⟩) (fun b o _ _ hc e _=>k b o hc e) (fun b o _ _ hc e _=>⟨o.slots,k b o hc e⟩) (fun _ _ _ _ n=>n)
  (fun b o hc e=>⟨o,k b o hc e⟩) (fun _ _ e=>e) (fun _ _ _ e=>e) (fun b ps e=>⟨#[],by rw[e];simp⟩) (fun m hm=>?_) (fun b u e=>?_) I.bare
 ·obtain ⟨o,es,ep,ho,r⟩:=hm
  exact ⟨o,es,ep,k _ o (fun z=>(hf _ z).2.1 rfl) ho,r⟩
 ·refine (I.hok b u e).stay (fun c v hc q=>k c v ?_ q) (fun _ q=>q) fun _ _ q=>q
  rcases hc with z | z
  ·rw[z];exact nit b u e
  ·exact nit c _ z
end
mutual
noncomputable def HRep (h:Heap):PV->Value->Prop
 | .non,u=>u=.none
 | .bl b,u=>u=.bool b
 | .int i,u=>∃t,u=.int i t
 | .str x,u=>∃t,u=.str x t
 | .tup ps,u=>∃(a:Addr) (us:3e5),u=.ref a/\h.IsTuple a us.toArray/\HReps h ps us
 | .lst ps,u=>∃(a:Addr) (us:3e5),u=.ref a/\h.IsList a us.toArray/\HReps h ps us
 | _,_=>False
noncomputable def HReps (h:Heap):List PV->List Value->Prop
 | [],us=>us=[]
 | p::ps,us=>∃v r,us=v::r/\HRep h p v/\HReps h ps r
end
mutual
noncomputable def dat:PV->Bool
 | .tup ps=>dats ps
 | .lst ps=>dats ps
 | .dct _ _=>false
 | .dtt _ _=>false
 | .fn _=>false
 | .ty _=>false
 | _=>true
noncomputable def dats:List PV->Bool
 | []=>true
 | p::ps=>dat p&&dats ps
end
mutual
noncomputable def dep:PV->Nat
 | .tup ps=>deps ps + 1
 | .lst ps=>deps ps + 1
 | _=>0
noncomputable def deps:List PV->Nat
 | []=>0
 | p::ps=>max (dep p) (deps ps)
end
mutual
theorem Rep.heap {X:Cx}{pins:2e0}{σ:St}{H:Hp}{s:Shared}{ι:3e1}(I:2e3):∀(p:PV) {v:V} {u:Value},Rep X.K ι H p v->RelV v u->dat p=true->HRep s.heap p u
 | .non,v,u,h,r,_=>by unfold Rep at h;subst h;unfold HRep;exact r
 | .bl b,v,u,h,r,_=>by unfold Rep at h;subst h;unfold HRep;exact r
 | .int i,v,u,h,r,_=>by unfold Rep at h;subst h;unfold HRep;exact r
 | .str x,v,u,h,r,_=>by unfold Rep at h;obtain ⟨rfl,h⟩:=h;unfold HRep;exact r
 | .tup ps,v,u,h,r,d=>by
  unfold Rep at h;obtain ⟨a,vs,rfl,h,rs⟩:=h
  cases r
  obtain ⟨its,r',pl,hz⟩:=I.tuple h.sq
  unfold HRep
  unfold dat at d
  exact ⟨a,its,rfl,pl,Reps.heap I ps rs r' d⟩
 | .lst ps,v,u,h,r,d=>by
  unfold Rep at h;obtain ⟨a,vs,rfl,h,rs⟩:=h
  cases r
  obtain ⟨its,r',pl,hz⟩:=I.list h.sq
  unfold HRep
  unfold dat at d
  exact ⟨a,its,rfl,pl.isList,Reps.heap I ps rs r' d⟩
 | .dct ks ps,v,u,h,r,d=>by unfold dat at d;cases d
 | .dtt ks ps,v,u,h,r,d=>by unfold dat at d;cases d
 | .fn a,v,u,h,r,d=>by unfold dat at d;cases d
 | .ty n,v,u,h,r,d=>by unfold dat at d;cases d
theorem Reps.heap {X:Cx}{pins:2e0}{σ:St}{H:Hp}{s:Shared}{ι:3e1}(I:2e3):∀(ps:List PV) {vs:List V} {us:3e5},Reps X.K ι H ps vs->Vals vs us->dats ps=true->HReps s.heap ps us
 | [],vs,us,h,r,_=>by unfold Reps at h;subst h;cases r;unfold HReps;rfl
 | p::ps,vs,us,h,r,d=>by
  unfold Reps at h;obtain ⟨v,w,rfl,h1,h2⟩:=h
  cases r with
  | cons r1 r2=>
   unfold dats at d
   rw[Yd] at d
   unfold HReps
   exact ⟨_,_,rfl,Rep.heap I p h1 r1 d.1,Reps.heap I ps h2 r2 d.2⟩
end
theorem Lies.heap {X:Cx}{pins:2e0}{σ:St}{H:Hp}{s:Shared}{ι:3e1}(I:2e3){p:PV}{v:V}{u:Value}(l:Lies X.K ι H p v)(r:RelV v u)(d:dat p=true):HRep s.heap p u:=by
 cases l with
 | non=>unfold HRep;exact r
 | bl b=>unfold HRep;exact r
 | int i=>unfold HRep;exact r
 | str x h=>unfold HRep;exact r
 | tup h rs=>
  cases r
  obtain ⟨its,r',pl,hz⟩:=I.tuple h.sq
  unfold HRep
  unfold dat at d
  exact ⟨_,its,rfl,pl,Reps.heap I _ rs r' d⟩
 | lst h rs=>
  cases r
  obtain ⟨its,r',pl,hz⟩:=I.list h
  unfold HRep
  unfold dat at d
  exact ⟨_,its,rfl,pl.isList,Reps.heap I _ rs r' d⟩
 | dct h hl rs=>unfold dat at d;cases d
 | dtt h hl rs=>unfold dat at d;cases d
 | fn a=>unfold dat at d;cases d
 | ty n=>unfold dat at d;cases d
mutual
noncomputable def eqD:PV->PV->Bool
 | .non,.non=>true
 | .bl a,.bl b=>a==b
 | .bl a,.int b=>(if a then 1 else 0)==b
 | .int a,.bl b=>a==(if b then 1 else 0)
 | .int a,.int b=>a==b
 | .str a,.str b=>a==b
 | .tup xs,.tup ys=>eqDs xs ys
 | .lst xs,.lst ys=>eqDs xs ys
 | _,_=>false
noncomputable def eqDs:List PV->List PV->Bool
 | [],[]=>true
 | x::xs,y::ys=>eqD x y&&eqDs xs ys
 | _,_=>false
end
theorem ZcX {h:Heap}{a:Addr}{us vs:3e5}(h1:h.IsTuple a us.toArray)(h2:h.IsTuple a vs.toArray):us=vs:=by
 obtain ⟨o,e,_,n,d⟩:=h1
 obtain ⟨o',e',_,n',d'⟩:=h2
 rw[e] at e';cases e'
 rw[d] at d';injection d' with d1 _
 simpa using d1
theorem Zdj {h:Heap}{a:Addr}{us vs:3e5}(h1:h.IsList a us.toArray)(h2:h.IsList a vs.toArray):us=vs:=by
 obtain ⟨o,e,_,n,d⟩:=h1
 obtain ⟨o',e',_,n',d'⟩:=h2
 rw[e] at e';cases e'
 rw[d] at d';injection d' with d1 _
 simpa using d1
theorem Zcy {h:Heap}{a:Addr}{us vs:3e5}(h1:h.IsTuple a us.toArray)(h2:h.IsList a vs.toArray):False:=by
 obtain ⟨o,e,c,_⟩:=h1
 obtain ⟨o',e',c',_⟩:=h2
 rw[e] at e';cases e'
 rw[c] at c';injection c' with c';exact absurd c' (by decide)
mutual
theorem HRep.same {h:Heap}:∀(p:PV) {q:PV} {u:Value},HRep h p u->HRep h q u->eqD p q=true
 | .non,q,u,a,b=>by
  unfold HRep at a;subst a
  cases q<;>unfold HRep at b<;>first | rfl | (cases b;done) | (obtain ⟨_,e⟩:=b;cases e;done) | (obtain ⟨_,_,e,_⟩:=b;cases e;done) | exact b.elim
 | .bl x,q,u,a,b=>by
  unfold HRep at a;subst a
  cases q<;>unfold HRep at b<;>first | (cases b;done) | (cases b;unfold eqD;exact beq_self_eq_true _) | (obtain ⟨_,e⟩:=b;cases e;done) | (obtain ⟨_,_,e,_⟩:=b;cases e;done) | exact b.elim
 | .int x,q,u,a,b=>by
  unfold HRep at a;obtain ⟨t,rfl⟩:=a
  cases q<;>unfold HRep at b<;>first | (cases b;done) | (obtain ⟨_,e⟩:=b;cases e;done) | (obtain ⟨_,e⟩:=b;cases e;unfold eqD;exact beq_self_eq_true _) | (obtain ⟨_,_,e,_⟩:=b;cases e;done) | exact b.elim
 | .str x,q,u,a,b=>by
  unfold HRep at a;obtain ⟨t,rfl⟩:=a
  cases q<;>unfold HRep at b<;>first | (cases b;done) | (obtain ⟨_,e⟩:=b;cases e;done) | (obtain ⟨_,e⟩:=b;cases e;unfold eqD;exact beq_self_eq_true _) | (obtain ⟨_,_,e,_⟩:=b;cases e;done) | exact b.elim
 | .tup ps,q,u,a,b=>by
  unfold HRep at a;obtain ⟨l,us,rfl,h1,r1⟩:=a
  cases q with
  | tup qs=>
   unfold HRep at b;obtain ⟨l',vs,e,h2,r2⟩:=b
   cases e
   cases ZcX h1 h2
   unfold eqD
   exact HReps.same ps r1 r2
  | lst qs=>unfold HRep at b;obtain ⟨l',vs,e,h2,r2⟩:=b;cases e;exact (Zcy h1 h2).elim
  | _=>unfold HRep at b;first | (cases b;done) | (obtain ⟨_,e⟩:=b;cases e;done) | exact b.elim
 | .lst ps,q,u,a,b=>by
  unfold HRep at a;obtain ⟨l,us,rfl,h1,r1⟩:=a
  cases q with
  | lst qs=>
   unfold HRep at b;obtain ⟨l',vs,e,h2,r2⟩:=b
   cases e
   cases Zdj h1 h2
   unfold eqD
   exact HReps.same ps r1 r2
  | tup qs=>unfold HRep at b;obtain ⟨l',vs,e,h2,r2⟩:=b;cases e;exact (Zcy h2 h1).elim
  | _=>unfold HRep at b;first | (cases b;done) | (obtain ⟨_,e⟩:=b;cases e;done) | exact b.elim
 | .dct _ _,q,u,a,b=>by unfold HRep at a;exact a.elim
 | .dtt _ _,q,u,a,b=>by unfold HRep at a;exact a.elim
 | .fn _,q,u,a,b=>by unfold HRep at a;exact a.elim
 | .ty _,q,u,a,b=>by unfold HRep at a;exact a.elim
theorem HReps.same {h:Heap}:∀(ps:List PV) {qs:List PV} {us:3e5},HReps h ps us->HReps h qs us->eqDs ps qs=true
 | [],qs,us,a,b=>by
  unfold HReps at a;subst a
  cases qs with
  | nil=>rfl
  | cons q qs=>unfold HReps at b;obtain ⟨_,_,e,_⟩:=b;cases e
 | p::ps,qs,us,a,b=>by
  unfold HReps at a;obtain ⟨v,r,rfl,a1,a2⟩:=a
  cases qs with
  | nil=>unfold HReps at b;cases b
  | cons q qs=>
   unfold HReps at b;obtain ⟨v',r',e,b1,b2⟩:=b
   cases e
   unfold eqDs
   rw[HRep.same p a1 b1,HReps.same ps a2 b2];rfl
end
end Pu
namespace Pu
open PySem PySem.Spec L2 PySem.SeqAt
open PyProof.Rows hiding St Fr
theorem HReps.length {h:Heap}:∀{ps:List PV} {us:3e5},HReps h ps us->ps.length=us.length
 | [],us,a=>by unfold HReps at a;subst a;rfl
 | p::ps,us,a=>by unfold HReps at a;obtain ⟨v,r,rfl,_,b⟩:=a;rw[YL,YL,b.length]
theorem ZbG:∀(ps qs:List PV),(((Yg (min ps.length qs.length)).all fun j=>eqD (ps.getD j .non) (qs.getD j .non))&&ps.length==qs.length)=eqDs ps qs
 | [],[]=>rfl
 | [],_::_=>by unfold eqDs;simp
 | _::_,[]=>by unfold eqDs;simp
 | p::ps,q::qs=>by
  rw[eqDs,←ZbG ps qs,YL,YL,Nat.succ_min_succ,List.range_succ_eq_map,Y9,Xw]
  rw[show (ps.length + 1==qs.length + 1)=(ps.length==qs.length) by simp[BEq.beq]]
  rw[Bool.and_assoc]
  rfl
theorem Zc2 {ps qs:List PV}(e:ps.length=qs.length):((Yg ps.length).all fun j=>eqD (ps.getD j .non) (qs.getD j .non))=eqDs ps qs:=by
 have:=ZbG ps qs
 rw[←e,Nat.min_self,beq_self_eq_true,Bool.and_true] at this
 exact this
theorem eqDs_len:∀{ps qs:List PV},ps.length≠qs.length->eqDs ps qs=false
 | [],[],h=>absurd rfl h
 | [],_::_,_=>by unfold eqDs;rfl
 | _::_,[],_=>by unfold eqDs;rfl
 | p::ps,q::qs,h=>by unfold eqDs;rw[eqDs_len fun z=>h (by rw[YL,YL,z]),VV]
section
variable {s:Shared}
theorem RcAt.tupD {A:Around}{a b:Addr}{us vs:3e5}{ps qs:List PV}(h1:s.heap.IsTuple a us.toArray)(h2:s.heap.IsTuple b vs.toArray)(l1:ps.length=us.length)(l2:qs.length=vs.length)(hu:3e7)
  (he:∀j (h1:j < us.length) (h2:j < vs.length),EqAt A.in1 s us[j] vs[j] (eqD (ps.getD j .non) (qs.getD j .non))):RcAt A s (.ref a) (.ref b) (eqDs ps qs):=by
 have:=RcAt.tuples h1 h2 hu (e:=fun j=>eqD (ps.getD j .non) (qs.getD j .non)) (fun j z1 z2=>by simpa using he j (by simpa using z1) (by simpa using z2))
 simp only[Yh,←l1,←l2] at this
 rw[ZbG] at this;exact this
theorem RcAt.lstD {A:Around}{a b:Addr}{us vs:3e5}{ps qs:List PV}(h1:s.heap.IsList a us.toArray)(h2:s.heap.IsList b vs.toArray)(l1:ps.length=us.length)(l2:qs.length=vs.length)(hu:3e7)
  (he:∀j (h1:j < us.length) (h2:j < vs.length),EqAt A.in1 s us[j] vs[j] (eqD (ps.getD j .non) (qs.getD j .non))):RcAt A s (.ref a) (.ref b) (eqDs ps qs):=by
 by_cases e:us.length=vs.length
 ·have:=RcAt.lists h1 h2 (by simpa using e) hu (e:=fun j=>eqD (ps.getD j .non) (qs.getD j .non)) (fun j z1 z2=>by simpa using he j (by simpa using z1) (by simpa using z2))
  simp only[Yh,←l1] at this
  rw[Zc2 1e3] at this;exact this
 ·have:=RcAt.lists_lengths h1 h2 (by simpa using e) hu
  rw[eqDs_len 1e3];exact this
theorem RcNeAt.tupD {A:Around}{a b:Addr}{us vs:3e5}{ps qs:List PV}(h1:s.heap.IsTuple a us.toArray)(h2:s.heap.IsTuple b vs.toArray)(l1:ps.length=us.length)(l2:qs.length=vs.length)(hu:3e7)
  (he:∀j (h1:j < us.length) (h2:j < vs.length),EqAt A.in1 s us[j] vs[j] (eqD (ps.getD j .non) (qs.getD j .non))):RcNeAt A s (.ref a) (.ref b) (!eqDs ps qs):=by
 have:=RcNeAt.tuples h1 h2 hu (e:=fun j=>eqD (ps.getD j .non) (qs.getD j .non)) (fun j z1 z2=>by simpa using he j (by simpa using z1) (by simpa using z2))
 simp only[Yh,←l1,←l2] at this
 rw[ZbG] at this;exact this
theorem RcNeAt.lstD {A:Around}{a b:Addr}{us vs:3e5}{ps qs:List PV}(h1:s.heap.IsList a us.toArray)(h2:s.heap.IsList b vs.toArray)(l1:ps.length=us.length)(l2:qs.length=vs.length)(hu:3e7)
  (he:∀j (h1:j < us.length) (h2:j < vs.length),EqAt A.in1 s us[j] vs[j] (eqD (ps.getD j .non) (qs.getD j .non))):RcNeAt A s (.ref a) (.ref b) (!eqDs ps qs):=by
 by_cases e:us.length=vs.length
 ·have:=RcNeAt.lists h1 h2 (by simpa using e) hu (e:=fun j=>eqD (ps.getD j .non) (qs.getD j .non)) (fun j z1 z2=>by simpa using he j (by simpa using z1) (by simpa using z2))
  simp only[Yh,←l1] at this
  rw[Zc2 1e3] at this;exact this
 ·have:=RcNeAt.lists_lengths h1 h2 (by simpa using e) hu
  rw[eqDs_len 1e3];exact this
end
section
variable {s:Shared}
theorem EqAt.x_non {q:PV}{u v:Value}{A:Around}(a:HRep s.heap .non u)(b:HRep s.heap q v)(hu':3e7):EqAt A s u v (eqD .non q):=by
 unfold HRep at a;subst a
 cases q<;>unfold HRep at b
 ·unfold eqD;subst b;exact EqAt.same _
 ·unfold eqD;subst b;exact EqAt.none_bool _
 ·unfold eqD;obtain ⟨_,rfl⟩:=b;exact EqAt.none_int _ _
 ·unfold eqD;obtain ⟨_,rfl⟩:=b;exact EqAt.none_str _ _
 ·unfold eqD;obtain ⟨_,_,rfl,h_b,_⟩:=b;exact EqAt.none_tuple h_b hu'
 ·unfold eqD;obtain ⟨_,_,rfl,h_b,_⟩:=b;exact EqAt.none_list h_b hu'
 ·exact b.elim
 ·exact b.elim
 ·exact b.elim
 ·exact b.elim
theorem EqAt.x_bl {x:Bool}{q:PV}{u v:Value}{A:Around}(a:HRep s.heap (.bl x) u)(b:HRep s.heap q v)(hu':3e7):EqAt A s u v (eqD (.bl x) q):=by
 unfold HRep at a;subst a
 cases q<;>unfold HRep at b
 ·unfold eqD;subst b;exact EqAt.bool_none _
 ·unfold eqD;subst b;exact EqAt.bool_bool _ _
 ·unfold eqD;obtain ⟨_,rfl⟩:=b;exact EqAt.bool_int _ _ _
 ·unfold eqD;obtain ⟨_,rfl⟩:=b;exact EqAt.bool_str _ _ _
 ·unfold eqD;obtain ⟨_,_,rfl,h_b,_⟩:=b;exact EqAt.bool_tuple _ h_b hu'
 ·unfold eqD;obtain ⟨_,_,rfl,h_b,_⟩:=b;exact EqAt.bool_list _ h_b hu'
 ·exact b.elim
 ·exact b.elim
 ·exact b.elim
 ·exact b.elim
theorem EqAt.x_int {x:Int}{q:PV}{u v:Value}{A:Around}(a:HRep s.heap (.int x) u)(b:HRep s.heap q v)(hu':3e7):EqAt A s u v (eqD (.int x) q):=by
 unfold HRep at a;obtain ⟨_,rfl⟩:=a
 cases q<;>unfold HRep at b
 ·unfold eqD;subst b;exact EqAt.int_none _ _
 ·unfold eqD;subst b;exact EqAt.int_bool _ _ _
 ·unfold eqD;obtain ⟨_,rfl⟩:=b;exact EqAt.int_int _ _ _ _
 ·unfold eqD;obtain ⟨_,rfl⟩:=b;exact EqAt.int_str _ _ _ _
 ·unfold eqD;obtain ⟨_,_,rfl,h_b,_⟩:=b;exact EqAt.int_tuple _ _ h_b hu'
 ·unfold eqD;obtain ⟨_,_,rfl,h_b,_⟩:=b;exact EqAt.int_list _ _ h_b hu'
 ·exact b.elim
 ·exact b.elim
 ·exact b.elim
 ·exact b.elim
theorem EqAt.x_str {x:Str}{q:PV}{u v:Value}{A:Around}(a:HRep s.heap (.str x) u)(b:HRep s.heap q v)(hu':3e7):EqAt A s u v (eqD (.str x) q):=by
 unfold HRep at a;obtain ⟨_,rfl⟩:=a
 cases q<;>unfold HRep at b
 ·unfold eqD;subst b;exact EqAt.str_none _ _
 ·unfold eqD;subst b;exact EqAt.str_bool _ _ _
 ·unfold eqD;obtain ⟨_,rfl⟩:=b;exact EqAt.str_int _ _ _ _
 ·unfold eqD;obtain ⟨_,rfl⟩:=b;exact EqAt.str_str _ _ _ _
 ·unfold eqD;obtain ⟨_,_,rfl,h_b,_⟩:=b;exact EqAt.str_tuple _ _ h_b hu'
 ·unfold eqD;obtain ⟨_,_,rfl,h_b,_⟩:=b;exact EqAt.str_list _ _ h_b hu'
 ·exact b.elim
 ·exact b.elim
 ·exact b.elim
 ·exact b.elim
theorem EqAt.x_tup_non {ps:List PV}{u v:Value}{A:Around}(a:HRep s.heap 5e9 u)(b:HRep s.heap .non v)(hu':3e7):EqAt A s u v (eqD 5e9 .non):=by
 unfold HRep at a b;unfold eqD;obtain ⟨_,_,rfl,h_a,_⟩:=a;subst b;exact EqAt.tuple_none h_a hu'
theorem EqAt.x_tup_bl {x:Bool}{ps:List PV}{u v:Value}{A:Around}(a:HRep s.heap 5e9 u)(b:HRep s.heap (.bl x) v)(hu':3e7):EqAt A s u v (eqD 5e9 (.bl x)):=by
 unfold HRep at a b;unfold eqD;obtain ⟨_,_,rfl,h_a,_⟩:=a;subst b;exact EqAt.tuple_bool _ h_a hu'
theorem EqAt.x_tup_int {x:Int}{ps:List PV}{u v:Value}{A:Around}(a:HRep s.heap 5e9 u)(b:HRep s.heap (.int x) v)(hu':3e7):EqAt A s u v (eqD 5e9 (.int x)):=by
 unfold HRep at a b;unfold eqD;obtain ⟨_,_,rfl,h_a,_⟩:=a;obtain ⟨_,rfl⟩:=b;exact EqAt.tuple_int _ _ h_a hu'
theorem EqAt.x_tup_str {x:Str}{ps:List PV}{u v:Value}{A:Around}(a:HRep s.heap 5e9 u)(b:HRep s.heap (.str x) v)(hu':3e7):EqAt A s u v (eqD 5e9 (.str x)):=by
 unfold HRep at a b;unfold eqD;obtain ⟨_,_,rfl,h_a,_⟩:=a;obtain ⟨_,rfl⟩:=b;exact EqAt.tuple_str _ _ h_a hu'
theorem EqAt.x_tup_lst {x:List PV}{ps:List PV}{u v:Value}{A:Around}(a:HRep s.heap 5e9 u)(b:HRep s.heap (.lst x) v)(hu':3e7):EqAt A s u v (eqD 5e9 (.lst x)):=by
 unfold HRep at a b;unfold eqD;obtain ⟨_,_,rfl,h_a,_⟩:=a;obtain ⟨_,_,rfl,h_b,_⟩:=b;exact EqAt.tuple_list h_a h_b hu'
theorem EqAt.x_lst_non {ps:List PV}{u v:Value}{A:Around}(a:HRep s.heap 6e6 u)(b:HRep s.heap .non v)(hu':3e7):EqAt A s u v (eqD 6e6 .non):=by
 unfold HRep at a b;unfold eqD;obtain ⟨_,_,rfl,h_a,_⟩:=a;subst b;exact EqAt.list_none h_a hu'
theorem EqAt.x_lst_bl {x:Bool}{ps:List PV}{u v:Value}{A:Around}(a:HRep s.heap 6e6 u)(b:HRep s.heap (.bl x) v)(hu':3e7):EqAt A s u v (eqD 6e6 (.bl x)):=by
 unfold HRep at a b;unfold eqD;obtain ⟨_,_,rfl,h_a,_⟩:=a;subst b;exact EqAt.list_bool _ h_a hu'
theorem EqAt.x_lst_int {x:Int}{ps:List PV}{u v:Value}{A:Around}(a:HRep s.heap 6e6 u)(b:HRep s.heap (.int x) v)(hu':3e7):EqAt A s u v (eqD 6e6 (.int x)):=by
 unfold HRep at a b;unfold eqD;obtain ⟨_,_,rfl,h_a,_⟩:=a;obtain ⟨_,rfl⟩:=b;exact EqAt.list_int _ _ h_a hu'
theorem EqAt.x_lst_str {x:Str}{ps:List PV}{u v:Value}{A:Around}(a:HRep s.heap 6e6 u)(b:HRep s.heap (.str x) v)(hu':3e7):EqAt A s u v (eqD 6e6 (.str x)):=by
 unfold HRep at a b;unfold eqD;obtain ⟨_,_,rfl,h_a,_⟩:=a;obtain ⟨_,rfl⟩:=b;exact EqAt.list_str _ _ h_a hu'
theorem EqAt.x_lst_tup {x:List PV}{ps:List PV}{u v:Value}{A:Around}(a:HRep s.heap 6e6 u)(b:HRep s.heap (.tup x) v)(hu':3e7):EqAt A s u v (eqD 6e6 (.tup x)):=by
 unfold HRep at a b;unfold eqD;obtain ⟨_,_,rfl,h_a,_⟩:=a;obtain ⟨_,_,rfl,h_b,_⟩:=b;exact EqAt.list_tuple h_a h_b hu'
theorem RcAt.x_non {q:PV}{u v:Value}{A:Around}(a:HRep s.heap .non u)(b:HRep s.heap q v)(hu':3e7):RcAt A s u v (eqD .non q):=by
 unfold HRep at a;subst a
 cases q<;>unfold HRep at b
 ·unfold eqD;subst b;exact RcAt.none_none
 ·unfold eqD;subst b;exact RcAt.none_bool _
 ·unfold eqD;obtain ⟨_,rfl⟩:=b;exact RcAt.none_int _ _
 ·unfold eqD;obtain ⟨_,rfl⟩:=b;exact RcAt.none_str _ _
 ·unfold eqD;obtain ⟨_,_,rfl,h_b,_⟩:=b;exact RcAt.none_tuple h_b hu'
 ·unfold eqD;obtain ⟨_,_,rfl,h_b,_⟩:=b;exact RcAt.none_list h_b hu'
 ·exact b.elim
 ·exact b.elim
 ·exact b.elim
 ·exact b.elim
theorem RcAt.x_bl {x:Bool}{q:PV}{u v:Value}{A:Around}(a:HRep s.heap (.bl x) u)(b:HRep s.heap q v)(hu':3e7):RcAt A s u v (eqD (.bl x) q):=by
 unfold HRep at a;subst a
 cases q<;>unfold HRep at b
 ·unfold eqD;subst b;exact RcAt.bool_none _
 ·unfold eqD;subst b;exact RcAt.bool_bool _ _
 ·unfold eqD;obtain ⟨_,rfl⟩:=b;exact RcAt.bool_int _ _ _
 ·unfold eqD;obtain ⟨_,rfl⟩:=b;exact RcAt.bool_str _ _ _
 ·unfold eqD;obtain ⟨_,_,rfl,h_b,_⟩:=b;exact RcAt.bool_tuple _ h_b hu'
 ·unfold eqD;obtain ⟨_,_,rfl,h_b,_⟩:=b;exact RcAt.bool_list _ h_b hu'
 ·exact b.elim
 ·exact b.elim
 ·exact b.elim
 ·exact b.elim
theorem RcAt.x_int {x:Int}{q:PV}{u v:Value}{A:Around}(a:HRep s.heap (.int x) u)(b:HRep s.heap q v)(hu':3e7):RcAt A s u v (eqD (.int x) q):=by
 unfold HRep at a;obtain ⟨_,rfl⟩:=a
 cases q<;>unfold HRep at b
 ·unfold eqD;subst b;exact RcAt.int_none _ _
 ·unfold eqD;subst b;exact RcAt.int_bool _ _ _
 ·unfold eqD;obtain ⟨_,rfl⟩:=b;exact RcAt.int_int _ _ _ _
 ·unfold eqD;obtain ⟨_,rfl⟩:=b;exact RcAt.int_str _ _ _ _
 ·unfold eqD;obtain ⟨_,_,rfl,h_b,_⟩:=b;exact RcAt.int_tuple _ _ h_b hu'
 ·unfold eqD;obtain ⟨_,_,rfl,h_b,_⟩:=b;exact RcAt.int_list _ _ h_b hu'
 ·exact b.elim
 ·exact b.elim
 ·exact b.elim
 ·exact b.elim
theorem RcAt.x_str {x:Str}{q:PV}{u v:Value}{A:Around}(a:HRep s.heap (.str x) u)(b:HRep s.heap q v)(hu':3e7):RcAt A s u v (eqD (.str x) q):=by
 unfold HRep at a;obtain ⟨_,rfl⟩:=a
 cases q<;>unfold HRep at b
 ·unfold eqD;subst b;exact RcAt.str_none _ _
 ·unfold eqD;subst b;exact RcAt.str_bool _ _ _
 ·unfold eqD;obtain ⟨_,rfl⟩:=b;exact RcAt.str_int _ _ _ _
 ·unfold eqD;obtain ⟨_,rfl⟩:=b;exact RcAt.str_str _ _ _ _
 ·unfold eqD;obtain ⟨_,_,rfl,h_b,_⟩:=b;exact RcAt.str_tuple _ _ h_b hu'
 ·unfold eqD;obtain ⟨_,_,rfl,h_b,_⟩:=b;exact RcAt.str_list _ _ h_b hu'
 ·exact b.elim
 ·exact b.elim
 ·exact b.elim
 ·exact b.elim
theorem RcAt.x_tup_non {ps:List PV}{u v:Value}{A:Around}(a:HRep s.heap 5e9 u)(b:HRep s.heap .non v)(hu':3e7):RcAt A s u v (eqD 5e9 .non):=by
 unfold HRep at a b;unfold eqD;obtain ⟨_,_,rfl,h_a,_⟩:=a;subst b;exact RcAt.tuple_none h_a hu'
theorem RcAt.x_tup_bl {x:Bool}{ps:List PV}{u v:Value}{A:Around}(a:HRep s.heap 5e9 u)(b:HRep s.heap (.bl x) v)(hu':3e7):RcAt A s u v (eqD 5e9 (.bl x)):=by
 unfold HRep at a b;unfold eqD;obtain ⟨_,_,rfl,h_a,_⟩:=a;subst b;exact RcAt.tuple_bool _ h_a hu'
theorem RcAt.x_tup_int {x:Int}{ps:List PV}{u v:Value}{A:Around}(a:HRep s.heap 5e9 u)(b:HRep s.heap (.int x) v)(hu':3e7):RcAt A s u v (eqD 5e9 (.int x)):=by
 unfold HRep at a b;unfold eqD;obtain ⟨_,_,rfl,h_a,_⟩:=a;obtain ⟨_,rfl⟩:=b;exact RcAt.tuple_int _ _ h_a hu'
theorem RcAt.x_tup_str {x:Str}{ps:List PV}{u v:Value}{A:Around}(a:HRep s.heap 5e9 u)(b:HRep s.heap (.str x) v)(hu':3e7):RcAt A s u v (eqD 5e9 (.str x)):=by
 unfold HRep at a b;unfold eqD;obtain ⟨_,_,rfl,h_a,_⟩:=a;obtain ⟨_,rfl⟩:=b;exact RcAt.tuple_str _ _ h_a hu'
theorem RcAt.x_tup_lst {x:List PV}{ps:List PV}{u v:Value}{A:Around}(a:HRep s.heap 5e9 u)(b:HRep s.heap (.lst x) v)(hu':3e7):RcAt A s u v (eqD 5e9 (.lst x)):=by
 unfold HRep at a b;unfold eqD;obtain ⟨_,_,rfl,h_a,_⟩:=a;obtain ⟨_,_,rfl,h_b,_⟩:=b;exact RcAt.tuple_list h_a h_b hu'
theorem RcAt.x_lst_non {ps:List PV}{u v:Value}{A:Around}(a:HRep s.heap 6e6 u)(b:HRep s.heap .non v)(hu':3e7):RcAt A s u v (eqD 6e6 .non):=by
 unfold HRep at a b;unfold eqD;obtain ⟨_,_,rfl,h_a,_⟩:=a;subst b;exact RcAt.list_none h_a hu'
theorem RcAt.x_lst_bl {x:Bool}{ps:List PV}{u v:Value}{A:Around}(a:HRep s.heap 6e6 u)(b:HRep s.heap (.bl x) v)(hu':3e7):RcAt A s u v (eqD 6e6 (.bl x)):=by
 unfold HRep at a b;unfold eqD;obtain ⟨_,_,rfl,h_a,_⟩:=a;subst b;exact RcAt.list_bool _ h_a hu'
theorem RcAt.x_lst_int {x:Int}{ps:List PV}{u v:Value}{A:Around}(a:HRep s.heap 6e6 u)(b:HRep s.heap (.int x) v)(hu':3e7):RcAt A s u v (eqD 6e6 (.int x)):=by
 unfold HRep at a b;unfold eqD;obtain ⟨_,_,rfl,h_a,_⟩:=a;obtain ⟨_,rfl⟩:=b;exact RcAt.list_int _ _ h_a hu'
theorem RcAt.x_lst_str {x:Str}{ps:List PV}{u v:Value}{A:Around}(a:HRep s.heap 6e6 u)(b:HRep s.heap (.str x) v)(hu':3e7):RcAt A s u v (eqD 6e6 (.str x)):=by
 unfold HRep at a b;unfold eqD;obtain ⟨_,_,rfl,h_a,_⟩:=a;obtain ⟨_,rfl⟩:=b;exact RcAt.list_str _ _ h_a hu'
theorem RcAt.x_lst_tup {x:List PV}{ps:List PV}{u v:Value}{A:Around}(a:HRep s.heap 6e6 u)(b:HRep s.heap (.tup x) v)(hu':3e7):RcAt A s u v (eqD 6e6 (.tup x)):=by
 unfold HRep at a b;unfold eqD;obtain ⟨_,_,rfl,h_a,_⟩:=a;obtain ⟨_,_,rfl,h_b,_⟩:=b;exact RcAt.list_tuple h_a h_b hu'
theorem RcNeAt.x_non {q:PV}{u v:Value}{A:Around}(a:HRep s.heap .non u)(b:HRep s.heap q v)(hu':3e7):RcNeAt A s u v (!eqD .non q):=by
 unfold HRep at a;subst a
 cases q<;>unfold HRep at b
 ·unfold eqD;subst b;exact RcNeAt.none_none
 ·unfold eqD;subst b;exact RcNeAt.none_bool _
 ·unfold eqD;obtain ⟨_,rfl⟩:=b;exact RcNeAt.none_int _ _
 ·unfold eqD;obtain ⟨_,rfl⟩:=b;exact RcNeAt.none_str _ _
 ·unfold eqD;obtain ⟨_,_,rfl,h_b,_⟩:=b;exact RcNeAt.none_tuple h_b hu'
 ·unfold eqD;obtain ⟨_,_,rfl,h_b,_⟩:=b;exact RcNeAt.none_list h_b hu'
 ·exact b.elim
 ·exact b.elim
 ·exact b.elim
 ·exact b.elim
theorem RcNeAt.x_bl {x:Bool}{q:PV}{u v:Value}{A:Around}(a:HRep s.heap (.bl x) u)(b:HRep s.heap q v)(hu':3e7):RcNeAt A s u v (!eqD (.bl x) q):=by
 unfold HRep at a;subst a
 cases q<;>unfold HRep at b
 ·unfold eqD;subst b;exact RcNeAt.bool_none _
 ·unfold eqD;subst b;exact RcNeAt.bool_bool _ _
 ·unfold eqD;obtain ⟨_,rfl⟩:=b;exact RcNeAt.bool_int _ _ _
 ·unfold eqD;obtain ⟨_,rfl⟩:=b;exact RcNeAt.bool_str _ _ _
 ·unfold eqD;obtain ⟨_,_,rfl,h_b,_⟩:=b;exact RcNeAt.bool_tuple _ h_b hu'
 ·unfold eqD;obtain ⟨_,_,rfl,h_b,_⟩:=b;exact RcNeAt.bool_list _ h_b hu'
 ·exact b.elim
 ·exact b.elim
 ·exact b.elim
 ·exact b.elim
theorem RcNeAt.x_int {x:Int}{q:PV}{u v:Value}{A:Around}(a:HRep s.heap (.int x) u)(b:HRep s.heap q v)(hu':3e7):RcNeAt A s u v (!eqD (.int x) q):=by
 unfold HRep at a;obtain ⟨_,rfl⟩:=a
 cases q<;>unfold HRep at b
 ·unfold eqD;subst b;exact RcNeAt.int_none _ _
 ·unfold eqD;subst b;exact RcNeAt.int_bool _ _ _
 ·unfold eqD;obtain ⟨_,rfl⟩:=b;exact RcNeAt.int_int _ _ _ _
 ·unfold eqD;obtain ⟨_,rfl⟩:=b;exact RcNeAt.int_str _ _ _ _
 ·unfold eqD;obtain ⟨_,_,rfl,h_b,_⟩:=b;exact RcNeAt.int_tuple _ _ h_b hu'
 ·unfold eqD;obtain ⟨_,_,rfl,h_b,_⟩:=b;exact RcNeAt.int_list _ _ h_b hu'
 ·exact b.elim
 ·exact b.elim
 ·exact b.elim
 ·exact b.elim
theorem RcNeAt.x_str {x:Str}{q:PV}{u v:Value}{A:Around}(a:HRep s.heap (.str x) u)(b:HRep s.heap q v)(hu':3e7):RcNeAt A s u v (!eqD (.str x) q):=by
 unfold HRep at a;obtain ⟨_,rfl⟩:=a
 cases q<;>unfold HRep at b
 ·unfold eqD;subst b;exact RcNeAt.str_none _ _
 ·unfold eqD;subst b;exact RcNeAt.str_bool _ _ _
 ·unfold eqD;obtain ⟨_,rfl⟩:=b;exact RcNeAt.str_int _ _ _ _
 ·unfold eqD;obtain ⟨_,rfl⟩:=b;exact RcNeAt.str_str _ _ _ _
 ·unfold eqD;obtain ⟨_,_,rfl,h_b,_⟩:=b;exact RcNeAt.str_tuple _ _ h_b hu'
 ·unfold eqD;obtain ⟨_,_,rfl,h_b,_⟩:=b;exact RcNeAt.str_list _ _ h_b hu'
 ·exact b.elim
 ·exact b.elim
 ·exact b.elim
 ·exact b.elim
theorem RcNeAt.x_tup_non {ps:List PV}{u v:Value}{A:Around}(a:HRep s.heap 5e9 u)(b:HRep s.heap .non v)(hu':3e7):RcNeAt A s u v (!eqD 5e9 .non):=by
 unfold HRep at a b;unfold eqD;obtain ⟨_,_,rfl,h_a,_⟩:=a;subst b;exact RcNeAt.tuple_none h_a hu'
theorem RcNeAt.x_tup_bl {x:Bool}{ps:List PV}{u v:Value}{A:Around}(a:HRep s.heap 5e9 u)(b:HRep s.heap (.bl x) v)(hu':3e7):RcNeAt A s u v (!eqD 5e9 (.bl x)):=by
 unfold HRep at a b;unfold eqD;obtain ⟨_,_,rfl,h_a,_⟩:=a;subst b;exact RcNeAt.tuple_bool _ h_a hu'
theorem RcNeAt.x_tup_int {x:Int}{ps:List PV}{u v:Value}{A:Around}(a:HRep s.heap 5e9 u)(b:HRep s.heap (.int x) v)(hu':3e7):RcNeAt A s u v (!eqD 5e9 (.int x)):=by
 unfold HRep at a b;unfold eqD;obtain ⟨_,_,rfl,h_a,_⟩:=a;obtain ⟨_,rfl⟩:=b;exact RcNeAt.tuple_int _ _ h_a hu'
theorem RcNeAt.x_tup_str {x:Str}{ps:List PV}{u v:Value}{A:Around}(a:HRep s.heap 5e9 u)(b:HRep s.heap (.str x) v)(hu':3e7):RcNeAt A s u v (!eqD 5e9 (.str x)):=by
 unfold HRep at a b;unfold eqD;obtain ⟨_,_,rfl,h_a,_⟩:=a;obtain ⟨_,rfl⟩:=b;exact RcNeAt.tuple_str _ _ h_a hu'
theorem RcNeAt.x_tup_lst {x:List PV}{ps:List PV}{u v:Value}{A:Around}(a:HRep s.heap 5e9 u)(b:HRep s.heap (.lst x) v)(hu':3e7):RcNeAt A s u v (!eqD 5e9 (.lst x)):=by
 unfold HRep at a b;unfold eqD;obtain ⟨_,_,rfl,h_a,_⟩:=a;obtain ⟨_,_,rfl,h_b,_⟩:=b;exact RcNeAt.tuple_list h_a h_b hu'
theorem RcNeAt.x_lst_non {ps:List PV}{u v:Value}{A:Around}(a:HRep s.heap 6e6 u)(b:HRep s.heap .non v)(hu':3e7):RcNeAt A s u v (!eqD 6e6 .non):=by
 unfold HRep at a b;unfold eqD;obtain ⟨_,_,rfl,h_a,_⟩:=a;subst b;exact RcNeAt.list_none h_a hu'
theorem RcNeAt.x_lst_bl {x:Bool}{ps:List PV}{u v:Value}{A:Around}(a:HRep s.heap 6e6 u)(b:HRep s.heap (.bl x) v)(hu':3e7):RcNeAt A s u v (!eqD 6e6 (.bl x)):=by
 unfold HRep at a b;unfold eqD;obtain ⟨_,_,rfl,h_a,_⟩:=a;subst b;exact RcNeAt.list_bool _ h_a hu'
theorem RcNeAt.x_lst_int {x:Int}{ps:List PV}{u v:Value}{A:Around}(a:HRep s.heap 6e6 u)(b:HRep s.heap (.int x) v)(hu':3e7):RcNeAt A s u v (!eqD 6e6 (.int x)):=by
 unfold HRep at a b;unfold eqD;obtain ⟨_,_,rfl,h_a,_⟩:=a;obtain ⟨_,rfl⟩:=b;exact RcNeAt.list_int _ _ h_a hu'
theorem RcNeAt.x_lst_str {x:Str}{ps:List PV}{u v:Value}{A:Around}(a:HRep s.heap 6e6 u)(b:HRep s.heap (.str x) v)(hu':3e7):RcNeAt A s u v (!eqD 6e6 (.str x)):=by
 unfold HRep at a b;unfold eqD;obtain ⟨_,_,rfl,h_a,_⟩:=a;obtain ⟨_,rfl⟩:=b;exact RcNeAt.list_str _ _ h_a hu'
theorem RcNeAt.x_lst_tup {x:List PV}{ps:List PV}{u v:Value}{A:Around}(a:HRep s.heap 6e6 u)(b:HRep s.heap (.tup x) v)(hu':3e7):RcNeAt A s u v (!eqD 6e6 (.tup x)):=by
 unfold HRep at a b;unfold eqD;obtain ⟨_,_,rfl,h_a,_⟩:=a;obtain ⟨_,_,rfl,h_b,_⟩:=b;exact RcNeAt.list_tuple h_a h_b hu'
mutual
theorem HRep.eqAt:∀(p:PV) {q:PV} {u v:Value} {A:Around},HRep s.heap p u->HRep s.heap q v->A.units + dep p < cLine->EqAt A s u v (eqD p q)
 | .non,q,u,v,A,a,b,hu=>EqAt.x_non a b 1e3
 | .bl x,q,u,v,A,a,b,hu=>EqAt.x_bl a b 1e3
 | .int x,q,u,v,A,a,b,hu=>EqAt.x_int a b 1e3
 | .str x,q,u,v,A,a,b,hu=>EqAt.x_str a b 1e3
 | .tup ps,q,u,v,A,a,b,hu=>by
  have hu':A.units < cLine:=by lia
  cases q with
  | non=>exact EqAt.x_tup_non a b hu'
  | bl x=>exact EqAt.x_tup_bl a b hu'
  | int x=>exact EqAt.x_tup_int a b hu'
  | str x=>exact EqAt.x_tup_str a b hu'
  | lst x=>exact EqAt.x_tup_lst a b hu'
  | tup qs=>
   have a0:=a;have b0:=b
   unfold HRep at a b;obtain ⟨l,us,rfl,h1,r1⟩:=a;obtain ⟨l',vs,rfl,h2,r2⟩:=b
   unfold dep at hu
   by_cases e:l=l'
   ·subst e
    rw[HRep.same _ a0 b0]
    exact EqAt.same _
   ·unfold eqD
    exact .of_refs e (RcAt.tupD h1 h2 r1.length r2.length hu' (HReps.eqAt ps r1 r2 (by rw[YU];lia)))
  | dct _ _=>unfold HRep at b;exact b.elim
  | dtt _ _=>unfold HRep at b;exact b.elim
  | fn _=>unfold HRep at b;exact b.elim
  | ty _=>unfold HRep at b;exact b.elim
 | .lst ps,q,u,v,A,a,b,hu=>by
  have hu':A.units < cLine:=by lia
  cases q with
  | non=>exact EqAt.x_lst_non a b hu'
  | bl x=>exact EqAt.x_lst_bl a b hu'
  | int x=>exact EqAt.x_lst_int a b hu'
  | str x=>exact EqAt.x_lst_str a b hu'
  | tup x=>exact EqAt.x_lst_tup a b hu'
  | lst qs=>
   have a0:=a;have b0:=b
   unfold HRep at a b;obtain ⟨l,us,rfl,h1,r1⟩:=a;obtain ⟨l',vs,rfl,h2,r2⟩:=b
   unfold dep at hu
   by_cases e:l=l'
   ·subst e
    rw[HRep.same _ a0 b0]
    exact EqAt.same _
   ·unfold eqD
    exact .of_refs e (RcAt.lstD h1 h2 r1.length r2.length hu' (HReps.eqAt ps r1 r2 (by rw[YU];lia)))
  | dct _ _=>unfold HRep at b;exact b.elim
  | dtt _ _=>unfold HRep at b;exact b.elim
  | fn _=>unfold HRep at b;exact b.elim
  | ty _=>unfold HRep at b;exact b.elim
 | .dct _ _,q,u,v,A,a,b,hu=>by unfold HRep at a;exact a.elim
 | .dtt _ _,q,u,v,A,a,b,hu=>by unfold HRep at a;exact a.elim
 | .fn _,q,u,v,A,a,b,hu=>by unfold HRep at a;exact a.elim
 | .ty _,q,u,v,A,a,b,hu=>by unfold HRep at a;exact a.elim
theorem HReps.eqAt:∀(ps:List PV) {qs:List PV} {us vs:3e5} {A:Around},HReps s.heap ps us->HReps s.heap qs vs->A.units + deps ps < cLine->
  ∀j (h1:j < us.length) (h2:j < vs.length),EqAt A s us[j] vs[j] (eqD (ps.getD j .non) (qs.getD j .non))
 | [],qs,us,vs,A,a,b,hu=>fun j h1 _=>by unfold HReps at a;subst a;cases h1
 | p::ps,qs,us,vs,A,a,b,hu=>fun j h1 h2=>by
  unfold HReps at a;obtain ⟨v,r,rfl,a1,a2⟩:=a
  unfold deps at hu
  cases qs with
  | nil=>unfold HReps at b;subst b;cases h2
  | cons q qs=>
   unfold HReps at b;obtain ⟨v',r',rfl,b1,b2⟩:=b
   cases j with
   | zero=>exact HRep.eqAt p a1 b1 1e3
   | succ j=>simpa using HReps.eqAt ps a2 b2 1e3 j (by simpa using h1) (by simpa using h2)
end
theorem HRep.rcAt:∀(p:PV) {q:PV} {u v:Value} {A:Around},HRep s.heap p u->HRep s.heap q v->A.units + dep p < cLine->RcAt A s u v (eqD p q)
 | .non,q,u,v,A,a,b,hu=>RcAt.x_non a b 1e3
 | .bl x,q,u,v,A,a,b,hu=>RcAt.x_bl a b 1e3
 | .int x,q,u,v,A,a,b,hu=>RcAt.x_int a b 1e3
 | .str x,q,u,v,A,a,b,hu=>RcAt.x_str a b 1e3
 | .tup ps,q,u,v,A,a,b,hu=>by
  have hu':A.units < cLine:=by lia
  cases q with
  | non=>exact RcAt.x_tup_non a b hu'
  | bl x=>exact RcAt.x_tup_bl a b hu'
  | int x=>exact RcAt.x_tup_int a b hu'
  | str x=>exact RcAt.x_tup_str a b hu'
  | lst x=>exact RcAt.x_tup_lst a b hu'
  | tup qs=>
   have a0:=a;have b0:=b
   unfold HRep at a b;obtain ⟨l,us,rfl,h1,r1⟩:=a;obtain ⟨l',vs,rfl,h2,r2⟩:=b
   unfold dep at hu
   unfold eqD
   exact RcAt.tupD h1 h2 r1.length r2.length hu' (HReps.eqAt ps r1 r2 (by rw[YU];lia))
  | dct _ _=>unfold HRep at b;exact b.elim
  | dtt _ _=>unfold HRep at b;exact b.elim
  | fn _=>unfold HRep at b;exact b.elim
  | ty _=>unfold HRep at b;exact b.elim
 | .lst ps,q,u,v,A,a,b,hu=>by
  have hu':A.units < cLine:=by lia
  cases q with
  | non=>exact RcAt.x_lst_non a b hu'
  | bl x=>exact RcAt.x_lst_bl a b hu'
  | int x=>exact RcAt.x_lst_int a b hu'
  | str x=>exact RcAt.x_lst_str a b hu'
  | tup x=>exact RcAt.x_lst_tup a b hu'
  | lst qs=>
   have a0:=a;have b0:=b
   unfold HRep at a b;obtain ⟨l,us,rfl,h1,r1⟩:=a;obtain ⟨l',vs,rfl,h2,r2⟩:=b
   unfold dep at hu
   unfold eqD
   exact RcAt.lstD h1 h2 r1.length r2.length hu' (HReps.eqAt ps r1 r2 (by rw[YU];lia))
  | dct _ _=>unfold HRep at b;exact b.elim
  | dtt _ _=>unfold HRep at b;exact b.elim
  | fn _=>unfold HRep at b;exact b.elim
  | ty _=>unfold HRep at b;exact b.elim
 | .dct _ _,q,u,v,A,a,b,hu=>by unfold HRep at a;exact a.elim
 | .dtt _ _,q,u,v,A,a,b,hu=>by unfold HRep at a;exact a.elim
 | .fn _,q,u,v,A,a,b,hu=>by unfold HRep at a;exact a.elim
 | .ty _,q,u,v,A,a,b,hu=>by unfold HRep at a;exact a.elim
theorem HRep.rcNeAt:∀(p:PV) {q:PV} {u v:Value} {A:Around},HRep s.heap p u->HRep s.heap q v->A.units + dep p < cLine->RcNeAt A s u v (!eqD p q)
 | .non,q,u,v,A,a,b,hu=>RcNeAt.x_non a b 1e3
 | .bl x,q,u,v,A,a,b,hu=>RcNeAt.x_bl a b 1e3
 | .int x,q,u,v,A,a,b,hu=>RcNeAt.x_int a b 1e3
 | .str x,q,u,v,A,a,b,hu=>RcNeAt.x_str a b 1e3
 | .tup ps,q,u,v,A,a,b,hu=>by
  have hu':A.units < cLine:=by lia
  cases q with
  | non=>exact RcNeAt.x_tup_non a b hu'
  | bl x=>exact RcNeAt.x_tup_bl a b hu'
  | int x=>exact RcNeAt.x_tup_int a b hu'
  | str x=>exact RcNeAt.x_tup_str a b hu'
  | lst x=>exact RcNeAt.x_tup_lst a b hu'
  | tup qs=>
   have a0:=a;have b0:=b
   unfold HRep at a b;obtain ⟨l,us,rfl,h1,r1⟩:=a;obtain ⟨l',vs,rfl,h2,r2⟩:=b
   unfold dep at hu
   unfold eqD
   exact RcNeAt.tupD h1 h2 r1.length r2.length hu' (HReps.eqAt ps r1 r2 (by rw[YU];lia))
  | dct _ _=>unfold HRep at b;exact b.elim
  | dtt _ _=>unfold HRep at b;exact b.elim
  | fn _=>unfold HRep at b;exact b.elim
  | ty _=>unfold HRep at b;exact b.elim
 | .lst ps,q,u,v,A,a,b,hu=>by
  have hu':A.units < cLine:=by lia
  cases q with
  | non=>exact RcNeAt.x_lst_non a b hu'
  | bl x=>exact RcNeAt.x_lst_bl a b hu'
  | int x=>exact RcNeAt.x_lst_int a b hu'
  | str x=>exact RcNeAt.x_lst_str a b hu'
  | tup x=>exact RcNeAt.x_lst_tup a b hu'
  | lst qs=>
   have a0:=a;have b0:=b
   unfold HRep at a b;obtain ⟨l,us,rfl,h1,r1⟩:=a;obtain ⟨l',vs,rfl,h2,r2⟩:=b
   unfold dep at hu
   unfold eqD
   exact RcNeAt.lstD h1 h2 r1.length r2.length hu' (HReps.eqAt ps r1 r2 (by rw[YU];lia))
  | dct _ _=>unfold HRep at b;exact b.elim
  | dtt _ _=>unfold HRep at b;exact b.elim
  | fn _=>unfold HRep at b;exact b.elim
  | ty _=>unfold HRep at b;exact b.elim
 | .dct _ _,q,u,v,A,a,b,hu=>by unfold HRep at a;exact a.elim
 | .dtt _ _,q,u,v,A,a,b,hu=>by unfold HRep at a;exact a.elim
 | .fn _,q,u,v,A,a,b,hu=>by unfold HRep at a;exact a.elim
 | .ty _,q,u,v,A,a,b,hu=>by unfold HRep at a;exact a.elim
end
section
variable {X:Cx}
abbrev rDeep (K:W.Frag)(g:PV->PV->Bool):R2:=fun x y H Q=>∃ι p q,Lies K ι H p x/\Lies K ι H q y/\dat p=true/\dat q=true/\dep p<=60/\Q (.bl (g p q)) H
theorem Zdg (hu:X.A.units + 64 < cLine):OpR X (Y6 .Eq) (rDeep X.K eqD):=by
 intro pins s σ H x y v u Q I rx ry h
 obtain ⟨ι,p,q,lx,ly,dp,dq,de,k⟩:=h
 exact HRep.rcAt p (lx.heap I rx dp) (ly.heap I ry dq) 1e3 X.prog X.w X.xe _ ⟨.bl _,H,I,rfl,k⟩
theorem op_neD (hu:X.A.units + 64 < cLine):OpR X (Y6 .NotEq) (rDeep X.K fun p q=>!eqD p q):=by
 intro pins s σ H x y v u Q I rx ry h
 obtain ⟨ι,p,q,lx,ly,dp,dq,de,k⟩:=h
 exact HRep.rcNeAt p (lx.heap I rx dp) (ly.heap I ry dq) 1e3 X.prog X.w X.xe _ ⟨.bl _,H,I,rfl,k⟩
def deepP (g:PV->PV->Bool)(p q:PV):Option PV:=if dat p&&dat q&&decide (dep p<=60) then some (.bl (g p q)) else none
theorem Zbk {g:PV->PV->Bool}:L2ok X.K (rDeep X.K g) (deepP g):=by
 intro ι H C p q vx vy z Q cr lx ly e k
 unfold deepP at e
 split at e
 ·rename_i h
  cases e
  simp only[Yd,decide_eq_true_eq] at h
  exact ⟨ι,p,q,lx,ly,h.1.1,h.1.2,h.2,k _ H .refl cr repBl⟩
 ·cases e
theorem hu64 {A:Around}{k:Nat}(hr:Room k A):A.units + 64 < cLine:=hr.units
end
mutual
theorem HRep.inj {h:Heap}:∀(p:PV) {q:PV} {u:Value},HRep h p u->HRep h q u->p=q
 | .non,q,u,a,b=>by
  unfold HRep at a;subst a
  cases q<;>unfold HRep at b<;>first | rfl | (cases b;done) | (obtain ⟨_,e⟩:=b;cases e;done) | (obtain ⟨_,_,e,_⟩:=b;cases e;done) | exact b.elim
 | .bl x,q,u,a,b=>by
  unfold HRep at a;subst a
  cases q<;>unfold HRep at b<;>first | (cases b;done) | (cases b;rfl) | (obtain ⟨_,e⟩:=b;cases e;done) | (obtain ⟨_,_,e,_⟩:=b;cases e;done) | exact b.elim
 | .int x,q,u,a,b=>by
  unfold HRep at a;obtain ⟨t,rfl⟩:=a
  cases q<;>unfold HRep at b<;>first | (cases b;done) | (obtain ⟨_,e⟩:=b;cases e;done) | (obtain ⟨_,e⟩:=b;cases e;rfl) | (obtain ⟨_,_,e,_⟩:=b;cases e;done) | exact b.elim
 | .str x,q,u,a,b=>by
  unfold HRep at a;obtain ⟨t,rfl⟩:=a
  cases q<;>unfold HRep at b<;>first | (cases b;done) | (obtain ⟨_,e⟩:=b;cases e;done) | (obtain ⟨_,e⟩:=b;cases e;rfl) | (obtain ⟨_,_,e,_⟩:=b;cases e;done) | exact b.elim
 | .tup ps,q,u,a,b=>by
  unfold HRep at a;obtain ⟨l,us,rfl,h1,r1⟩:=a
  cases q with
  | tup qs=>
   unfold HRep at b;obtain ⟨l',vs,e,h2,r2⟩:=b
   cases e
   cases ZcX h1 h2
   rw[HReps.inj ps r1 r2]
  | lst qs=>unfold HRep at b;obtain ⟨l',vs,e,h2,r2⟩:=b;cases e;exact (Zcy h1 h2).elim
  | _=>unfold HRep at b;first | (cases b;done) | (obtain ⟨_,e⟩:=b;cases e;done) | exact b.elim
 | .lst ps,q,u,a,b=>by
  unfold HRep at a;obtain ⟨l,us,rfl,h1,r1⟩:=a
  cases q with
  | lst qs=>
   unfold HRep at b;obtain ⟨l',vs,e,h2,r2⟩:=b
   cases e
   cases Zdj h1 h2
   rw[HReps.inj ps r1 r2]
  | tup qs=>unfold HRep at b;obtain ⟨l',vs,e,h2,r2⟩:=b;cases e;exact (Zcy h2 h1).elim
  | _=>unfold HRep at b;first | (cases b;done) | (obtain ⟨_,e⟩:=b;cases e;done) | exact b.elim
 | .dct _ _,q,u,a,b=>by unfold HRep at a;exact a.elim
 | .dtt _ _,q,u,a,b=>by unfold HRep at a;exact a.elim
 | .fn _,q,u,a,b=>by unfold HRep at a;exact a.elim
 | .ty _,q,u,a,b=>by unfold HRep at a;exact a.elim
theorem HReps.inj {h:Heap}:∀(ps:List PV) {qs:List PV} {us:3e5},HReps h ps us->HReps h qs us->ps=qs
 | [],qs,us,a,b=>by
  unfold HReps at a;subst a
  cases qs with
  | nil=>rfl
  | cons q qs=>unfold HReps at b;obtain ⟨_,_,e,_⟩:=b;cases e
 | p::ps,qs,us,a,b=>by
  unfold HReps at a;obtain ⟨v,r,rfl,a1,a2⟩:=a
  cases qs with
  | nil=>unfold HReps at b;cases b
  | cons q qs=>
   unfold HReps at b;obtain ⟨v',r',e,b1,b2⟩:=b
   cases e
   rw[HRep.inj p a1 b1,HReps.inj ps a2 b2]
end
open Classical in
def eqH (h:Heap)(q:PV)(u:Value):Bool:=decide (∃p,HRep h p u/\eqD p q=true)
open Classical in
theorem eqH_of {h:Heap}{p q:PV}{u:Value}(a:HRep h p u):eqH h q u=eqD p q:=by
 unfold eqH
 cases e:eqD p q with
 | true=>exact decide_eq_true ⟨p,a,e⟩
 | false=>exact decide_eq_false fun h_=>by obtain ⟨p',a',e'⟩:=h_;rw[HRep.inj p a a',e'] at e;cases e
theorem Zc8 {h:Heap}{q:PV}:∀{ps:List PV} {us:3e5},HReps h ps us->us.any (eqH h q)=ps.any fun p=>eqD p q
 | [],us,a=>by unfold HReps at a;subst a;rfl
 | p::ps,us,a=>by
  unfold HReps at a;obtain ⟨v,r,rfl,a1,a2⟩:=a
  rw[XE,XE,eqH_of a1,Zc8 a2]
theorem ZcS {A:Around}{s:Shared}{q:PV}{v:Value}(b:HRep s.heap q v):∀{ps:List PV} {us:3e5},HReps s.heap ps us->A.units + deps ps < cLine->∀u∈us,EqAt A s u v (eqH s.heap q u)
 | [],us,a,_,u,hu=>by unfold HReps at a;subst a;cases hu
 | p::ps,us,a,hz,u,hu=>by
  unfold HReps at a;obtain ⟨w,r,rfl,a1,a2⟩:=a
  unfold deps at hz
  rcases Yn.mp hu with rfl | hu
  ·rw[eqH_of a1];exact HRep.eqAt p a1 b 1e3
  ·exact ZcS b a2 1e3 u hu
def inDP (neg:Bool)(x y:PV):Option PV:=match y with
 | .tup ps=>if dats ps&&dat x&&decide (deps ps<=50) then some (.bl (if neg then !ps.any (fun p=>eqD p x) else ps.any fun p=>eqD p x)) else none
 | .lst ps=>if dats ps&&dat x&&decide (deps ps<=50) then some (.bl (if neg then !ps.any (fun p=>eqD p x) else ps.any fun p=>eqD p x)) else none
 | _=>none
section
variable {X:Cx}
def rInD (K:W.Frag)(neg:Bool):R2:=fun x y H Q=>∃ι q ps p vs,Lies K ι H q x/\dat q=true/\y=.ref p/\(SqL K H p vs\/SqT K H p vs)/\Reps K ι H ps vs/\dats ps=true/\deps ps<=50/\Q (.bl (if neg then !ps.any (fun p=>eqD p q) else ps.any fun p=>eqD p q)) H
theorem op_inD (hu:X.A.units + 64 < cLine):OpR X (Y6 .In) (rInD X.K false):=by
 intro pins s σ H x y v u Q I rx ry h
 obtain ⟨ι,q,ps,p,vs,lx,dq,rfl,hq,rs,ds,de,k⟩:=h
 cases ry
 have hx:=lx.heap I rx dq
 rcases hq with hq | hq
 ·obtain ⟨its,r,pl,hz⟩:=I.list hq
  have hr:=Reps.heap I ps rs r ds
  refine SeqAt.in_listAt (eqH s.heap q) pl.isList (fun w hw=>ZcS hx hr (by rw[YU];lia) w (by simpa using hw)) ⟨.bl _,H,I,rfl,?_⟩
  rw[show its.toArray.any (eqH s.heap q)=its.any (eqH s.heap q) by simp,Zc8 hr]
  exact k
 ·obtain ⟨its,r,pl,hz⟩:=I.tuple hq
  have hr:=Reps.heap I ps rs r ds
  refine SeqAt.in_tupleAt (eqH s.heap q) pl (fun w hw=>ZcS hx hr (by rw[YU];lia) w (by simpa using hw)) ⟨.bl _,H,I,rfl,?_⟩
  rw[show its.toArray.any (eqH s.heap q)=its.any (eqH s.heap q) by simp,Zc8 hr]
  exact k
theorem op_notInD (hu:X.A.units + 64 < cLine):OpR X (Y6 .NotIn) (rInD X.K true):=by
 intro pins s σ H x y v u Q I rx ry h
 obtain ⟨ι,q,ps,p,vs,lx,dq,rfl,hq,rs,ds,de,k⟩:=h
 cases ry
 have hx:=lx.heap I rx dq
 rcases hq with hq | hq
 ·obtain ⟨its,r,pl,hz⟩:=I.list hq
  have hr:=Reps.heap I ps rs r ds
  refine SeqAt.notIn_listAt (eqH s.heap q) pl.isList (fun w hw=>ZcS hx hr (by rw[YU];lia) w (by simpa using hw)) ⟨.bl _,H,I,rfl,?_⟩
  rw[show its.toArray.any (eqH s.heap q)=its.any (eqH s.heap q) by simp,Zc8 hr]
  exact k
 ·obtain ⟨its,r,pl,hz⟩:=I.tuple hq
  have hr:=Reps.heap I ps rs r ds
  refine SeqAt.notIn_tupleAt (eqH s.heap q) pl (fun w hw=>ZcS hx hr (by rw[YU];lia) w (by simpa using hw)) ⟨.bl _,H,I,rfl,?_⟩
  rw[show its.toArray.any (eqH s.heap q)=its.any (eqH s.heap q) by simp,Zc8 hr]
  exact k
theorem inD_ok {neg:Bool}:L2ok X.K (rInD X.K neg) (inDP neg):=by
 intro ι H C p q vx vy z Q cr lx ly e k
 unfold inDP at e
 split at e
 ·split at e
  ·rename_i h
   cases e
   simp only[Yd,decide_eq_true_eq] at h
   cases ly with
   | tup hs rs=>exact ⟨ι,p,_,_,_,lx,h.1.2,rfl,.inr hs.sq,rs,h.1.1,h.2,k _ H .refl cr repBl⟩
  ·cases e
 ·split at e
  ·rename_i h
   cases e
   simp only[Yd,decide_eq_true_eq] at h
   cases ly with
   | lst hs rs=>exact ⟨ι,p,_,_,_,lx,h.1.2,rfl,.inl hs,rs,h.1.1,h.2,k _ H .refl cr repBl⟩
  ·cases e
 ·cases e
end
mutual
noncomputable def ltD:PV->PV->Option Bool
 | .int a,.int b=>some (decide (a < b))
 | .str a,.str b=>some (decide (a.cps.toList < b.cps.toList))
 | .tup xs,.tup ys=>lexD xs ys
 | _,_=>none
noncomputable def lexD:List PV->List PV->Option Bool
 | [],[]=>some false
 | [],_::_=>some true
 | _::_,[]=>some false
 | x::xs,y::ys=>if eqD x y then lexD xs ys else ltD x y
end
def RcLtAt (A:Around)(s:Shared)(y x:Value)(b:Bool):Prop:=
 ∀(prog:Yq) (w:World) (E:1e4) (Q:1e4),Q (.bool b) s->wpAny 3e9 A (richCompare .Lt y x) Q E s
inductive PairsOk (A:Around)(s:Shared):List PV->List PV->List Value->List Value->Prop
 | nil1 {qs:List PV} {vs:List Value} (h:qs.length=vs.length):PairsOk A s [] qs [] vs
 | nil2 {ps:List PV} {us:List Value} (h:ps.length=us.length):PairsOk A s ps [] us []
 | cons {p q:PV} {u v:Value} {ps qs:List PV} {us vs:List Value} (e:EqAt A s u v (eqD p q)) (l:∀c,ltD p q=some c->RcLtAt A s u v c) (t:PairsOk A s ps qs us vs):PairsOk A s (p::ps) (q::qs) (u::us) (v::vs)
section
open PySem.AutoSeq1 (wpAny_loadPart')
open PySem.MeetsSeq PySem.MeetsSeq2 PySem.MeetsSeq3
theorem lexD_cons (x y:PV)(xs ys:List PV):lexD (x::xs) (y::ys)=if eqD x y then lexD xs ys else ltD x y:=by rw[lexD]
theorem Zbm:lexD [] []=some false:=by rw[lexD]
theorem Zb4 (y:PV)(ys:List PV):lexD [] (y::ys)=some true:=by rw[lexD]
theorem Zb5 (x:PV)(xs:List PV):lexD (x::xs) []=some false:=by rw[lexD]
theorem tuple_ltD (l b:Addr)(items items2:Array Value)(n n2:Nat)(dd dd2:Option Addr)(sl sl2:Array (Option Value))(ps qs:List PV)(c:Bool)(hc:lexD ps qs=some c):
  Meets (V5.«tuple.__lt__» ⟨[.ref l,.ref b],[]⟩)
   (fun A R s=>s.heap.get? l=some { cls:=.type "tuple",dict:=dd,data:=.seq items n,slots:=sl }/\s.heap.get? b=some { cls:=.type "tuple",dict:=dd2,data:=.seq items2 n2,slots:=sl2 }/\
    PairsOk A.in1 s ps qs items.toList items2.toList/\R (.ok (.ret (.bool c))) s):=
 .of_wp fun prog w A R s h=>by
  obtain ⟨hp,g,d,tk,os⟩:=s;obtain ⟨hl,hb,hpr,h⟩:=h
  have f2:=AutoSeq1.sub_tuple_tuple
  wp_walk using Uo hl,Uo hb,wpAny_forIn_list _ (fun rest b s'=>b.1=none/\s'=⟨hp,g,d,tk,os⟩/\∃(vs ws:3e5) (ps' qs':List PV),rest=vs.zip ws/\
   PairsOk A.in1 ⟨hp,g,d,tk,os⟩ ps' qs' vs ws/\vs.length + items2.size=ws.length + items.size/\lexD ps' qs'=some c) _
  case turn=>
   rintro ⟨y,x⟩ rest b s' ⟨hb',rfl,vs,ws,ps',qs',hz,hpr',hlen,hR⟩
   cases hpr' with
   | nil1 hh=>rw[List.zip_nil_left] at hz;cases hz
   | nil2 hh=>rw[List.zip_nil_right] at hz;cases hz
   | @cons p q u v ps2 qs2 us2 vs2 e lt t=>
    rw[Xn] at hz
    injection hz with hyx hrest
    injection hyx with hy hx
    subst hy hx
    rw[lexD_cons] at hR
    simp only[YL] at hlen
    refine Yb (e prog w _ _ ?_)
    cases ee:eqD p q with
    | true=>
     rw[ee,if_pos rfl] at hR
     wp_walk
     exact ⟨rfl,rfl,_,_,_,_,hrest,t,by lia,hR⟩
    | false=>
     rw[ee,if_neg Yi] at hR
     have hri:=lt c hR prog w
     wp_walk using hri
     exact ⟨_,rfl,by simpa using h⟩
  case fin=>
   rintro ⟨b1,b2⟩ s' ⟨hb',rfl,vs,ws,ps',qs',hz,hpr',hlen,hR⟩
   simp only at hb'
   subst hb'
   have hv:c=decide (items.size < items2.size):=by
    cases hpr' with
    | nil1 hh=>
     cases qs' with
     | nil=>
      rw[Zbm] at hR;cases hR
      simp only[W7] at hlen hh
      exact (decide_eq_false 1e3).symm
     | cons q qs2=>
      rw[Zb4] at hR;cases hR
      simp only[W7,YL] at hlen hh
      exact (decide_eq_true 1e3).symm
    | nil2 hh=>
     cases ps' with
     | nil=>
      rw[Zbm] at hR;cases hR
      simp only[W7] at hlen hh
      exact (decide_eq_false 1e3).symm
     | cons q qs2=>
      rw[Zb5] at hR;cases hR
      simp only[W7,YL] at hlen hh
      exact (decide_eq_false 1e3).symm
    | cons e lt t=>rw[Xn] at hz;cases hz
   rw[hv] at h
   wp_walk
   exact ⟨_,rfl,by simpa[Builtin.Tuple.tupleCompareSizes] using h⟩
  case h=>
   exact ⟨rfl,rfl,items.toList,items2.toList,ps,qs,rfl,hpr,by simp;lia,hc⟩
end
section
variable {s:Shared}
theorem RcLtAt.int (a:Int)(t:Tok)(c:Int)(u:Tok)(A:Around):RcLtAt A s (.int a t) (.int c u) (decide (a < c)):=fun prog w E Q h=>
 (PyProof.Rows.lt_int h:wpAny 3e9 A (Y6 .Lt (.int a t) (.int c u)) Q E s)
theorem RcLtAt.str (a:Str)(t:Tok)(c:Str)(u:Tok)(A:Around):RcLtAt A s (.str a t) (.str c u) (decide (a.cps.toList < c.cps.toList)):=fun prog w E Q h=>
 (PyProof.Rows.lt_str h:wpAny 3e9 A (Y6 .Lt (.str a t) (.str c u)) Q E s)
theorem RcLtAt.tup {A:Around}{l b:Addr}{us vs:3e5}{ps qs:List PV}{c:Bool}(hl:s.heap.IsTuple l us.toArray)(hb:s.heap.IsTuple b vs.toArray)(hu:3e7)(hp:PairsOk A.in1 s ps qs us vs)(hc:lexD ps qs=some c):
  RcLtAt A s (.ref l) (.ref b) c:=fun prog w E Q h=>by
 obtain ⟨⟨cls,dd,data,sl⟩,ho,hcl,n,hd⟩:=id hl
 obtain ⟨⟨cls2,dd2,data2,sl2⟩,ho2,hcl2,n2,hd2⟩:=id hb
 simp only at hcl hd hcl2 hd2
 subst hcl hd hcl2 hd2
 exact richCompare_meets_room (op:=.Lt) ⟨_,ho,rfl⟩ ⟨_,ho2,rfl⟩ PySem.F.slot_tuple_lt PySem.F.entry_tuple_lt (PySem.F.args_tuple_lt_2 _ _) (tuple_ltD l b us.toArray vs.toArray n n2 dd dd2 sl sl2 ps qs c hc)
  ⟨ho,ho2,hp,show Vy c≠Value.notImplemented/\Q (.bool c) s from ⟨(fun x=>nomatch x),h⟩⟩ hu
mutual
theorem HRep.rcLt:∀(p:PV) {q:PV} {u v:Value} {A:Around} {c:Bool},HRep s.heap p u->HRep s.heap q v->A.units + dep p < cLine->ltD p q=some c->RcLtAt A s u v c
 | .int x,q,u,v,A,c,a,b,hu,e=>by
  cases q with
  | int y=>
   unfold HRep at a b;obtain ⟨t,rfl⟩:=a;obtain ⟨t',rfl⟩:=b
   unfold ltD at e;cases e;exact .int _ _ _ _ _
  | _=>unfold ltD at e;cases e
 | .str x,q,u,v,A,c,a,b,hu,e=>by
  cases q with
  | str y=>
   unfold HRep at a b;obtain ⟨t,rfl⟩:=a;obtain ⟨t',rfl⟩:=b
   unfold ltD at e;cases e;exact .str _ _ _ _ _
  | _=>unfold ltD at e;cases e
 | .tup ps,q,u,v,A,c,a,b,hu,e=>by
  cases q with
  | tup qs=>
   unfold HRep at a b;obtain ⟨l,us,rfl,h1,r1⟩:=a;obtain ⟨l',vs,rfl,h2,r2⟩:=b
   unfold ltD at e
   unfold dep at hu
   exact .tup h1 h2 1e3 (HReps.pairs ps r1 r2 (by rw[YU];lia)) e
  | _=>unfold ltD at e;cases e
 | .non,q,u,v,A,c,a,b,hu,e=>by unfold ltD at e;cases e
 | .bl _,q,u,v,A,c,a,b,hu,e=>by unfold ltD at e;cases e
 | .lst _,q,u,v,A,c,a,b,hu,e=>by unfold ltD at e;cases e
 | .dct _ _,q,u,v,A,c,a,b,hu,e=>by unfold ltD at e;cases e
 | .dtt _ _,q,u,v,A,c,a,b,hu,e=>by unfold ltD at e;cases e
 | .fn _,q,u,v,A,c,a,b,hu,e=>by unfold ltD at e;cases e
 | .ty _,q,u,v,A,c,a,b,hu,e=>by unfold ltD at e;cases e
theorem HReps.pairs:∀(ps:List PV) {qs:List PV} {us vs:3e5} {A:Around},HReps s.heap ps us->HReps s.heap qs vs->A.units + deps ps < cLine->PairsOk A s ps qs us vs
 | [],qs,us,vs,A,a,b,hu=>by
  have:=b.length
  unfold HReps at a;subst a
  exact .nil1 this
 | p::ps,qs,us,vs,A,a,b,hu=>by
  cases qs with
  | nil=>
   have:=a.length
   unfold HReps at b;subst b
   exact .nil2 this
  | cons q qs=>
   unfold HReps at a b;obtain ⟨x,r,rfl,a1,a2⟩:=a;obtain ⟨y,r',rfl,b1,b2⟩:=b
   unfold deps at hu
   exact .cons (HRep.eqAt p a1 b1 1e3) (fun c e=>HRep.rcLt p a1 b1 1e3 e) (HReps.pairs ps a2 b2 1e3)
end
end
section
variable {X:Cx}
def rLtD (K:W.Frag):R2:=fun x y H Q=>∃ι p q c,Lies K ι H p x/\Lies K ι H q y/\dat p=true/\dat q=true/\dep p<=60/\ltD p q=some c/\Q (.bl c) H
theorem op_ltD (hu:X.A.units + 64 < cLine):OpR X (Y6 .Lt) (rLtD X.K):=by
 intro pins s σ H x y v u Q I rx ry h
 obtain ⟨ι,p,q,c,lx,ly,dp,dq,de,e,k⟩:=h
 exact HRep.rcLt p (lx.heap I rx dp) (ly.heap I ry dq) 1e3 e X.prog X.w X.xe _ ⟨.bl _,H,I,rfl,k⟩
def ltDP (p q:PV):Option PV:=if dat p&&dat q&&decide (dep p<=60) then (ltD p q).map .bl else none
theorem ltD_ok:L2ok X.K (rLtD X.K) ltDP:=by
 intro ι H C p q vx vy z Q cr lx ly e k
 unfold ltDP at e
 split at e
 ·rename_i h
  simp only[Yd,decide_eq_true_eq] at h
  cases hc:ltD p q with
  | none=>rw[hc] at e;cases e
  | some c=>rw[hc] at e;cases e;exact ⟨ι,p,q,c,lx,ly,h.1.1,h.1.2,h.2,hc,k _ H .refl cr repBl⟩
 ·cases e
end
end Pu
namespace Pu
open PySem PySem.W
open PyProof.Rows hiding St Fr
def runT {α:Type}(o:Nat->Nat->Bool):KasT α->α
 | .ret a=>a
 | .ask i j k=>runT o (k (o i j))
theorem Zbr {α β:Type}(o:Nat->Nat->Bool)(f:α->KasT β):∀t:KasT α,runT o (t.bind f)=runT o (f (runT o t))
 | .ret _=>rfl
 | .ask i j k=>Zbr o f (k (o i j))
structure Wk (lt:Nat->Nat->Bool):Prop where
 irr:∀a,lt a a=false
 asy:∀a b,lt a b=true->lt b a=false
 tr:∀a b c,lt b a=false->lt c b=false->lt c a=false
section
variable {lt:Nat->Nat->Bool}
def Srt (lt:Nat->Nat->Bool)(p:Array Nat)(k:Nat):Prop:=∀i j,i<=j->j < k->lt (p.getD j 0) (p.getD i 0)=false
def Non (lt:Nat->Nat->Bool)(p:Array Nat)(k:Nat):Prop:=∀i j,i<=j->j < k->lt (p.getD i 0) (p.getD j 0)=false
def Eqv (lt:Nat->Nat->Bool)(p:Array Nat)(a b:Nat):Prop:=∀i j,a<=i->i < b->a<=j->j < b->lt (p.getD i 0) (p.getD j 0)=false
theorem ZcA {p:Array Nat}{i j:Nat}(hj:j<=p.size)(k:Nat):(Wv p i j).getD k 0=if i<=k/\k < j then p.getD (i + j - 1 - k) 0 else p.getD k 0:=by
 unfold Wv
 rw[YB,getElem?_mirror_all hj]
 split<;>rw[YB]
theorem getD_bub {p:Array Nat}{k l:Nat}(hk:k < p.size)(hl:l<=k)(i:Nat):(bubble p k (k - l)).getD i 0=if i=l then p.getD k 0 else if l < i/\i<=k then p.getD (i - 1) 0 else p.getD i 0:=by
 rw[YB,getElem?_bubble hk _ 1e3,show k - (k - l)=l by lia]
 by_cases h:i=l
 ·rw[if_pos h,if_pos h,YB]
 ·rw[if_neg h,if_neg h]
  by_cases h2:l < i/\i<=k
  ·rw[if_pos h2,if_pos h2,YB]
  ·rw[if_neg h2,if_neg h2,YB]
theorem Srt.step (W:Wk lt){p:Array Nat}{k:Nat}(h:Srt lt p k)(h1:1<=k)(e:lt (p.getD k 0) (p.getD (k - 1) 0)=false):Srt lt p (k + 1):=by
 intro i j hij hj
 by_cases hjk:j < k
 ·exact h i j hij hjk
 ·have:j=k:=by lia
  subst this
  by_cases hi:i=j
  ·subst hi;exact W.irr _
  ·exact W.tr _ _ _ (h i (j - 1) 1e3 1e3) e
theorem Non.step (W:Wk lt){p:Array Nat}{k:Nat}(h:Non lt p k)(h1:1<=k)(e:lt (p.getD (k - 1) 0) (p.getD k 0)=false):Non lt p (k + 1):=by
 intro i j hij hj
 by_cases hjk:j < k
 ·exact h i j hij hjk
 ·have:j=k:=by lia
  subst this
  by_cases hi:i=j
  ·subst hi;exact W.irr _
  ·exact W.tr _ _ _ e (h i (j - 1) 1e3 1e3)
theorem Non.rev (W:Wk lt){p:Array Nat}{m a b:Nat}(h:Non lt p m)(hab:a<=b)(hb:b<=m)(hm:m<=p.size)(e:Eqv lt p a b):Non lt (Wv p a b) m:=by
 intro i j hij hj
 rw[ZcA 1e3,ZcA 1e3]
 by_cases hi:a<=i/\i < b
 ·by_cases hj2:a<=j/\j < b
  ·rw[if_pos hi,if_pos hj2];exact e _ _ 1e3 1e3 1e3 1e3
  ·rw[if_pos hi,if_neg hj2];exact h _ _ 1e3 1e3
 ·by_cases hj2:a<=j/\j < b
  ·rw[if_neg hi,if_pos hj2];exact h _ _ 1e3 1e3
  ·rw[if_neg hi,if_neg hj2];exact h _ _ hij hj
theorem Non.srt {p:Array Nat}{n:Nat}(h:Non lt p n)(hn:n<=p.size):Srt lt (Wv p 0 n) n:=by
 intro i j hij hj
 rw[ZcA hn,ZcA hn,if_pos 1e3,if_pos 1e3]
 exact h _ _ 1e3 1e3
theorem asc_ok (W:Wk lt)(p:Array Nat):∀(f n:Nat),1<=n->Srt lt p n->
  n<=runT lt (WV p f n)/\runT lt (WV p f n)<=n + f/\Srt lt p (runT lt (WV p f n))/\(runT lt (WV p f n) < n + f->lt (p.getD (runT lt (WV p f n)) 0) (p.getD (runT lt (WV p f n) - 1) 0)=true)
 | 0,n,h1,h=>⟨Yk _,Yk _,h,fun z=>absurd z (Wj _)⟩
 | f + 1,n,h1,h=>by
  show n<=runT lt (if lt (p.getD n 0) (p.getD (n - 1) 0)=true then UB n else WV p f (n + 1))/\runT lt (if lt (p.getD n 0) (p.getD (n - 1) 0)=true then UB n else WV p f (n + 1))<=n + (f + 1)/\
   Srt lt p (runT lt (if lt (p.getD n 0) (p.getD (n - 1) 0)=true then UB n else WV p f (n + 1)))/\(runT lt (if lt (p.getD n 0) (p.getD (n - 1) 0)=true then UB n else WV p f (n + 1)) < n + (f + 1)->
    lt (p.getD (runT lt (if lt (p.getD n 0) (p.getD (n - 1) 0)=true then UB n else WV p f (n + 1))) 0) (p.getD (runT lt (if lt (p.getD n 0) (p.getD (n - 1) 0)=true then UB n else WV p f (n + 1)) - 1) 0)=true)
  by_cases c:lt (p.getD n 0) (p.getD (n - 1) 0)=true
  ·rw[if_pos c];exact ⟨Yk _,Nat.le_add_right _ _,h,fun _=>c⟩
  ·rw[if_neg c]
   obtain ⟨a1,a2,a3,a4⟩:=asc_ok W p f (n + 1) 1e3 (h.step W h1 (by simpa using c))
   exact ⟨by lia,by lia,a3,fun z=>a4 1e3⟩
structure DS (lt:Nat->Nat->Bool)(N:Nat)(p0 p:Array Nat)(n q:Nat):Prop where
 sz:p.size=p0.size
 pm:p.Perm p0
 n1:1<=n
 nN:n<=N
 q1:q + 1<=n
 non:Non lt p n
 eqv:Eqv lt p (n - (q + 1)) n
theorem desc_ok (W:Wk lt){p0:Array Nat}{N:Nat}(hN:N<=p0.size):∀(f:Nat) (p:Array Nat) (n q:Nat),DS lt N p0 p n q->n + f=N->
  DS lt N p0 (runT lt (X0 f p n q)).1 (runT lt (X0 f p n q)).2.1 (runT lt (X0 f p n q)).2.2
 | 0,p,n,q,D,_=>D
 | f + 1,p,n,q,D,hf=>by
  show DS lt N p0 (runT lt (if lt (p.getD n 0) (p.getD (n - 1) 0)=true then (if q > 0 then X0 f (Wv p (n - (q + 1)) n) (n + 1) 0 else X0 f p (n + 1) 0) else .ask (p.getD (n - 1) 0) (p.getD n 0) fun d=>if d=true then .ret (p,n,q) else X0 f p (n + 1) (q + 1))).1
   (runT lt (if lt (p.getD n 0) (p.getD (n - 1) 0)=true then (if q > 0 then X0 f (Wv p (n - (q + 1)) n) (n + 1) 0 else X0 f p (n + 1) 0) else .ask (p.getD (n - 1) 0) (p.getD n 0) fun d=>if d=true then .ret (p,n,q) else X0 f p (n + 1) (q + 1))).2.1
   (runT lt (if lt (p.getD n 0) (p.getD (n - 1) 0)=true then (if q > 0 then X0 f (Wv p (n - (q + 1)) n) (n + 1) 0 else X0 f p (n + 1) 0) else .ask (p.getD (n - 1) 0) (p.getD n 0) fun d=>if d=true then .ret (p,n,q) else X0 f p (n + 1) (q + 1))).2.2
  have hsz:=D.sz
  have hq1:=D.q1
  have hn1:=D.n1
  have one:∀p':Array Nat,Eqv lt p' (n + 1 - (0 + 1)) (n + 1):=fun p' i j a b c d=>by
   have:i=j:=by lia
   subst this;exact W.irr _
  by_cases c:lt (p.getD n 0) (p.getD (n - 1) 0)=true
  ·rw[if_pos c]
   have hn:=D.non.step W D.n1 (W.asy _ _ c)
   by_cases hq:q > 0
   ·rw[if_pos hq]
    exact desc_ok W hN f _ _ _ ⟨by unfold Wv;rw[Uy];exact hsz,(V6 _ _ _ _).trans D.pm,by lia,by lia,by lia,hn.rev W 1e3 1e3 1e3 D.eqv,one _⟩ 1e3
   ·rw[if_neg hq]
    exact desc_ok W hN f _ _ _ ⟨hsz,D.pm,by lia,by lia,by lia,hn,one _⟩ 1e3
  ·rw[if_neg c]
   show DS lt N p0 (runT lt (if lt (p.getD (n - 1) 0) (p.getD n 0)=true then .ret (p,n,q) else X0 f p (n + 1) (q + 1))).1 (runT lt (if lt (p.getD (n - 1) 0) (p.getD n 0)=true then .ret (p,n,q) else X0 f p (n + 1) (q + 1))).2.1 (runT lt (if lt (p.getD (n - 1) 0) (p.getD n 0)=true then .ret (p,n,q) else X0 f p (n + 1) (q + 1))).2.2
   by_cases d:lt (p.getD (n - 1) 0) (p.getD n 0)=true
   ·rw[if_pos d];exact D
   ·rw[if_neg d]
    have c':lt (p.getD n 0) (p.getD (n - 1) 0)=false:=by simpa using c
    have d':lt (p.getD (n - 1) 0) (p.getD n 0)=false:=by simpa using d
    refine desc_ok W hN f _ _ _ ⟨hsz,D.pm,by lia,by lia,by lia,D.non.step W D.n1 d',?_⟩ 1e3
    intro i j a1 a2 b1 b2
    by_cases hi:i=n
    ·by_cases hj:j=n
     ·subst hi;subst hj;exact W.irr _
     ·subst hi;exact W.tr _ _ _ (D.eqv _ _ 1e3 1e3 1e3 1e3) c'
    ·by_cases hj:j=n
     ·subst hj;exact W.tr _ _ _ d' (D.eqv _ _ 1e3 1e3 1e3 1e3)
     ·exact D.eqv _ _ 1e3 1e3 1e3 1e3
structure CS (lt:Nat->Nat->Bool)(N:Nat)(p0:Array Nat)(r:Nat×Array Nat):Prop where
 sz:r.2.size=p0.size
 pm:r.2.Perm p0
 n1:1<=r.1
 nN:r.1<=N
 srt:Srt lt r.2 r.1
theorem tail3_ok (W:Wk lt){p0 p:Array Nat}{N n:Nat}(hN:N<=p0.size)(hs:p.size=p0.size)(hp:p.Perm p0)(h1:1<=n)(hn:n<=N)(h:Non lt p n):CS lt N p0 (runT lt (kas_tail3 n N p)):=by
 unfold kas_tail3
 rw[Zbr]
 obtain ⟨a1,a2,a3,_⟩:=asc_ok W (Wv p 0 n) (N - n) n h1 (h.srt 1e3)
 exact ⟨by show (Wv p 0 n).size=_;unfold Wv;rw[Uy];exact hs,(V6 _ _ _ _).trans hp,by show 1<=runT lt (WV (Wv p 0 n) (N - n) n);lia,by show runT lt (WV (Wv p 0 n) (N - n) n)<=N;lia,a3⟩
theorem Zc3 (W:Wk lt){p0 p:Array Nat}{N n:Nat}(hN:N<=p0.size)(hs:p.size=p0.size)(hp:p.Perm p0)(h1:1<=n)(hn:n + 1<=N)(h:Non lt p (n + 1)):CS lt N p0 (runT lt (Up n N p)):=by
 unfold Up
 rw[Zbr]
 have D:=desc_ok W hN (N - (n + 1)) p (n + 1) 0 ⟨hs,hp,by lia,hn,by lia,h,fun i j a b c d=>(show i=j by lia) ▸ W.irr _⟩ 1e3
 generalize runT lt (X0 (N - (n + 1)) p (n + 1) 0)=r at D ⊢
 have hsz:=D.sz
 have hnN:=D.nN
 by_cases hq:r.2.2 > 0
 ·rw[if_pos hq]
  exact tail3_ok W hN (by unfold Wv;rw[Uy];exact hsz) ((V6 _ _ _ _).trans D.pm) D.n1 D.nN (D.non.rev W 1e3 1e3 1e3 D.eqv)
 ·rw[if_neg hq]
  exact tail3_ok W hN hsz D.pm D.n1 D.nN D.non
theorem count_ok (W:Wk lt){p:Array Nat}{N:Nat}(hN:N<=p.size)(h1:1<=N):CS lt N p (runT lt (kas_count N p)):=by
 unfold kas_count
 rw[Zbr]
 have s1:Srt lt p 1:=fun i j a b=>(show i=j by lia) ▸ W.irr _
 obtain ⟨a1,a2,a3,a4⟩:=asc_ok W p (N - 1) 1 1e3 s1
 generalize runT lt (WV p (N - 1) 1)=n at a1 a2 a3 a4 ⊢
 by_cases e:(n==N)=true
 ·rw[if_pos e];exact ⟨rfl,VB _,a1,by show n<=N;lia,a3⟩
 ·rw[if_neg e]
  have e':n≠N:=by simpa using e
  have st:=a4 1e3
  by_cases hn:n > 1
  ·rw[if_pos hn]
   show CS lt N p (runT lt (if lt (p.getD 0 0) (p.getD (n - 1) 0)=true then .ret (n,p) else Up n N (Wv p 0 n)))
   by_cases c:lt (p.getD 0 0) (p.getD (n - 1) 0)=true
   ·rw[if_pos c];exact ⟨rfl,VB _,a1,by show n<=N;lia,a3⟩
   ·rw[if_neg c]
    have c':lt (p.getD 0 0) (p.getD (n - 1) 0)=false:=by simpa using c
    have eq:Eqv lt p 0 n:=fun i j _ hi _ hj=>
     W.tr _ _ _ (W.tr _ _ _ (a3 j (n - 1) 1e3 1e3) c') (a3 0 i 1e3 hi)
    have non:Non lt p n:=fun i j _ hj=>eq i j 1e3 1e3 1e3 hj
    have non1:=non.step W a1 (W.asy _ _ st)
    exact Zc3 W hN (by unfold Wv;rw[Uy]) (V6 _ _ _ _) a1 1e3 (non1.rev W 1e3 1e3 1e3 eq)
  ·rw[if_neg hn]
   have:n=1:=by lia
   subst this
   have non:Non lt p 1:=fun i j a b=>(show i=j by lia) ▸ W.irr _
   exact Zc3 W hN rfl (VB _) 1e3 1e3 (non.step W 1e3 (W.asy _ _ st))
theorem place_ok (W:Wk lt){p:Array Nat}{k:Nat}(hs:Srt lt p k):∀(f l r:Nat),r - l<=f->l<=r->r<=k->(∀i,i < l->lt (p.getD k 0) (p.getD i 0)=false)->(∀i,r<=i->i < k->lt (p.getD k 0) (p.getD i 0)=true)->
  runT lt (Ws p k f l r)<=k/\(∀i,i < runT lt (Ws p k f l r)->lt (p.getD k 0) (p.getD i 0)=false)/\(∀i,runT lt (Ws p k f l r)<=i->i < k->lt (p.getD k 0) (p.getD i 0)=true)
 | 0,l,r,hf,hlr,hr,hl,hg=>⟨by show l<=k;lia,hl,fun i a b=>hg i (YG (by lia:r<=l) a) b⟩
 | f + 1,l,r,hf,hlr,hr,hl,hg=>by
  unfold Ws
  by_cases c:l ≥ r
  ·rw[if_pos c];exact ⟨by show l<=k;lia,hl,fun i a b=>hg i (YG (by lia:r<=l) a) b⟩
  ·rw[if_neg c]
   generalize hm:(l + r) / 2=m
   show runT lt (if lt (p.getD k 0) (p.getD m 0)=true then Ws p k f l m else Ws p k f (m + 1) r)<=k/\(∀i,i < runT lt (if lt (p.getD k 0) (p.getD m 0)=true then Ws p k f l m else Ws p k f (m + 1) r)->lt (p.getD k 0) (p.getD i 0)=false)/\
    (∀i,runT lt (if lt (p.getD k 0) (p.getD m 0)=true then Ws p k f l m else Ws p k f (m + 1) r)<=i->i < k->lt (p.getD k 0) (p.getD i 0)=true)
   by_cases d:lt (p.getD k 0) (p.getD m 0)=true
   ·rw[if_pos d]
    refine place_ok W hs f l m 1e3 1e3 1e3 hl fun i a b=>?_
    cases z:lt (p.getD k 0) (p.getD i 0) with
    | true=>rfl
    | false=>rw[W.tr _ _ _ (hs m i a b) z] at d;cases d
   ·rw[if_neg d]
    refine place_ok W hs f (m + 1) r 1e3 1e3 1e3 (fun i a=>?_) hg
    exact W.tr _ _ _ (hs i m 1e3 1e3) (by simpa using d)
theorem bub_ok (W:Wk lt){p:Array Nat}{k l:Nat}(hs:Srt lt p k)(hk:k < p.size)(hl:l<=k)(h1:∀i,i < l->lt (p.getD k 0) (p.getD i 0)=false)(h2:∀i,l<=i->i < k->lt (p.getD k 0) (p.getD i 0)=true):Srt lt (bubble p k (k - l)) (k + 1):=by
 intro i j hij hj
 rw[getD_bub hk hl,getD_bub hk hl]
 by_cases hjl:j=l
 ·rw[if_pos hjl]
  by_cases hil:i=l
  ·rw[if_pos hil];exact W.irr _
  ·rw[if_neg hil,if_neg 1e3];exact h1 i 1e3
 ·rw[if_neg hjl]
  by_cases hil:i=l
  ·rw[if_pos hil,if_pos 1e3];exact W.asy _ _ (h2 _ 1e3 1e3)
  ·rw[if_neg hil]
   by_cases hj2:l < j/\j<=k
   ·rw[if_pos hj2]
    by_cases hi2:l < i/\i<=k
    ·rw[if_pos hi2];exact hs _ _ 1e3 1e3
    ·rw[if_neg hi2];exact hs _ _ 1e3 1e3
   ·rw[if_neg hj2,if_neg 1e3];exact hs _ _ hij 1e3
theorem bin_ok (W:Wk lt):∀(f:Nat) (p:Array Nat) (k:Nat),Srt lt p k->k + f<=p.size->(runT lt (kas_bin f p k)).Perm p/\Srt lt (runT lt (kas_bin f p k)) (k + f)
 | 0,p,k,h,_=>⟨VB _,h⟩
 | f + 1,p,k,h,hs=>by
  unfold kas_bin
  rw[Zbr]
  obtain ⟨a1,a2,a3⟩:=place_ok W h k 0 k 1e3 1e3 1e3 (fun i z=>absurd z 1e3) (fun i z y=>absurd z 1e3)
  generalize runT lt (Ws p k k 0 k)=l at a1 a2 a3 ⊢
  obtain ⟨b1,b2⟩:=bin_ok W f (bubble p k (k - l)) (k + 1) (bub_ok W h 1e3 a1 a2 a3) (by rw[bubble_size];lia)
  exact ⟨b1.trans (bubble_perm _ _ _),by rw[show k + (f + 1)=k + 1 + f by lia];exact b2⟩
theorem sort_ok (W:Wk lt){n:Nat}(h1:1<=n):(runT lt (Wp n)).Perm (WE (Yg n))/\Srt lt (runT lt (Wp n)) n:=by
 unfold Wp
 rw[Zbr]
 have C:=count_ok W (p:=WE (Yg n)) (N:=n) 3e4 h1
 generalize runT lt (kas_count n (WE (Yg n)))=r at C ⊢
 have hsz:r.2.size=n:=by rw[C.sz];simp
 have hn:=C.nN
 have hn1:=C.n1
 by_cases c:r.1 < n
 ·rw[if_pos c]
  have e:max r.1 1=r.1:=by lia
  rw[e]
  obtain ⟨b1,b2⟩:=bin_ok W (n - r.1) r.2 r.1 C.srt 1e3
  exact ⟨b1.trans C.pm,by rw[show r.1 + (n - r.1)=n by lia] at b2;exact b2⟩
 ·rw[if_neg c]
  exact ⟨C.pm,fun i j a b=>C.srt i j a 1e3⟩
end
def InR {α:Type}(n:Nat)(P:α->Prop):KasT α->Prop
 | .ret a=>P a
 | .ask i j k=>i < n/\j < n/\∀b,InR n P (k b)
theorem InR.bind {α β:Type}{n:Nat}{P:α->Prop}{Q:β->Prop}{f:α->KasT β}(hf:∀a,P a->InR n Q (f a)):∀{t:KasT α},InR n P t->InR n Q (t.bind f)
 | .ret a,h=>hf a h
 | .ask i j k,h=>⟨h.1,h.2.1,fun b=>InR.bind hf (h.2.2 b)⟩
def AllIn (n:Nat)(p:Array Nat):Prop:=0 < n/\p.size=n/\∀x,x∈p.toList->x < n
theorem AllIn.at {n:Nat}{p:Array Nat}(h:AllIn n p)(i:Nat):p.getD i 0 < n:=by
 rw[YB]
 cases e:p[i]? with
 | none=>exact h.1
 | some x=>
  refine h.2.2 x ?_
  rw[XR]
  exact Vp e
theorem AllIn.perm {n:Nat}{p q:Array Nat}(h:AllIn n p)(e:q.Perm p):AllIn n q:=⟨h.1,by rw[←h.2.1,←YH,←YH];exact (WJ.mp e).length_eq,fun x hx=>h.2.2 x ((WJ.mp e).mem_iff.mp hx)⟩
theorem AllIn.rev {n:Nat}{p:Array Nat}(h:AllIn n p)(i j:Nat):AllIn n (Wv p i j):=h.perm (V6 _ _ _ _)
theorem asc_in {n:Nat}{p:Array Nat}(h:AllIn n p):∀(f m:Nat),InR n (fun _=>True) (WV p f m)
 | 0,m=>trivial
 | f + 1,m=>⟨h.at _,h.at _,fun b=>by cases b<;>first | exact asc_in h f (m + 1) | trivial⟩
theorem desc_in {n:Nat}:∀(f:Nat) (p:Array Nat) (m q:Nat),AllIn n p->InR n (fun r=>AllIn n r.1) (X0 f p m q)
 | 0,p,m,q,h=>h
 | f + 1,p,m,q,h=>⟨h.at _,h.at _,fun b=>by
  cases b with
  | true=>
   show InR n _ (if q > 0 then X0 f (Wv p (m - (q + 1)) m) (m + 1) 0 else X0 f p (m + 1) 0)
   split
   ·exact desc_in f _ _ _ (h.rev _ _)
   ·exact desc_in f _ _ _ h
  | false=>
   exact ⟨h.at _,h.at _,fun d=>by cases d<;>first | exact desc_in f _ _ _ h | exact h⟩⟩
theorem tail3_in {n m nrem:Nat}{p:Array Nat}(h:AllIn n p):InR n (fun r=>AllIn n r.2) (kas_tail3 m nrem p):=by
 unfold kas_tail3
 refine InR.bind (P:=fun _=>True) (fun k _=>?_) (asc_in (h.rev _ _) _ _)
 show AllIn n (Wv p 0 m)
 exact h.rev 0 m
theorem Zc4 {n m nrem:Nat}{p:Array Nat}(h:AllIn n p):InR n (fun r=>AllIn n r.2) (Up m nrem p):=InR.bind (fun r hr=>by
 split
 ·exact tail3_in (hr.rev _ _)
 ·exact tail3_in hr) (desc_in _ _ _ _ h)
theorem count_in {n nrem:Nat}{p:Array Nat}(h:AllIn n p):InR n (fun r=>AllIn n r.2) (kas_count nrem p):=InR.bind (fun m _=>by
 split
 ·exact h
 ·split
  ·exact ⟨h.at _,h.at _,fun b=>by cases b<;>first | exact Zc4 (h.rev _ _) | exact h⟩
  ·exact Zc4 h) (asc_in h _ _)
theorem place_in {n k:Nat}{p:Array Nat}(h:AllIn n p):∀(f l r:Nat),InR n (fun _=>True) (Ws p k f l r)
 | 0,l,r=>trivial
 | f + 1,l,r=>by
  unfold Ws
  split
  ·trivial
  ·exact ⟨h.at _,h.at _,fun b=>by cases b<;>exact place_in h f _ _⟩
theorem bin_in {n:Nat}:∀(f:Nat) (p:Array Nat) (k:Nat),AllIn n p->InR n (AllIn n) (kas_bin f p k)
 | 0,p,k,h=>h
 | f + 1,p,k,h=>InR.bind (fun l _=>bin_in f _ _ (h.perm (bubble_perm _ _ _))) (place_in h _ _ _)
theorem Zcb {n:Nat}(h1:1<=n):InR n (AllIn n) (Wp n):=by
 have h:AllIn n (WE (Yg n)):=⟨h1,by simp,fun x hx=>by simpa using hx⟩
 refine InR.bind (fun r hr=>?_) (count_in h)
 split
 ·exact bin_in _ _ _ hr
 ·exact hr
theorem wp_run {α:Type}{n:Nat}{P:α->Prop}{o:Nat->Nat->Bool}{cmp:Nat->Nat->(Bool->Shared->Prop)->Shared->Prop}{Q:α->Shared->Prop}{s:Shared}
  (hc:∀i j (C:Bool->Shared->Prop),i < n->j < n->C (o i j) s->cmp i j C s):∀(t:KasT α),InR n P t->Q (runT o t) s->t.kasWp cmp Q s
 | .ret a,_,h=>h
 | .ask i j k,hi,h=>hc i j _ hi.1 hi.2.1 (wp_run hc (k (o i j)) (hi.2.2 _) h)
theorem Zdb {α:Type}{n:Nat}{P:α->Prop}{o:Nat->Nat->Bool}:∀(t:KasT α),InR n P t->P (runT o t)
 | .ret a,h=>h
 | .ask i j k,h=>Zdb (k (o i j)) (h.2.2 _)
end Pu
namespace Pu
open PySem PySem.W PySem.Calls
open PyProof.Rows hiding St Fr
section
variable {prog:Yq}{w:World}{A:Around}{E:1e4}{s:Shared}{a l:Addr}{vs:3e5}{κ:V7}{o:Nat->Nat->Bool}
def KeepBut (a:Addr)(h h':Heap):Prop:=∀b u,b≠a->h.get? b=some u->h'.get? b=some u
def outs (o:Nat->Nat->Bool)(vs:3e5):List Value:=(runT o (Wp vs.length)).toList.map fun i=>vs.getD i Xj
theorem lsort_at {n:Nat}{P:PySem.Fin->Shared->Prop}(ho:s.heap.get? a=some (seqObj "list" vs.toArray n))(h2:2<=vs.length)(h64:vs.length < 64)
  (hk:∀h',KeepBut a s.heap h'->∀Q:V7->Shared->Prop,Q κ { s with heap:=h' }->wpAny (model prog w) A (keyKind' vs.toArray) Q (fun _ _=>False) { s with heap:=h' })
  (hc:∀h',KeepBut a s.heap h'->∀i j (C:Bool->Shared->Prop),i < vs.length->j < vs.length->C (o i j) { s with heap:=h' }->kas_ask prog w A κ vs i j C { s with heap:=h' })
  (h:∀h' c,KeepBut a s.heap h'->h'.get? a=some (seqObj "list" (outs o vs).toArray c)->P (.done (.ret .none)) { s with heap:=h' }):
  wpAny 3e9 A (V5.«list.sort» ⟨[.ref a],[]⟩) P E s:=by
 have s1:=XD s.heap a (XI fun _=>(#[]:Array Value))
 obtain ⟨c1,ho1⟩:∃c1,(s.heap.update a (XI fun _=>(#[]:Array Value))).get? a=some (seqObj "list" #[] c1):=⟨_,Vc ho fun _=>#[]⟩
 have hlt:a < s.heap.objs.size:=Ys ho
 generalize hg:((s.heap.update a (XI fun _=>(#[]:Array Value))).push (seqObj "tuple" vs.toArray 0)).push (seqObj "list" #[] 0)=g3
 have kb:KeepBut a s.heap g3:=fun b u nb e=>by
  rw[←hg]
  refine Yc _ (Yc _ ?_)
  rw[XZ _ _ _ _ nb];exact e
 have g3a:g3.get? a=some (seqObj "list" #[] c1):=by rw[←hg];exact Yc _ (Yc _ ho1)
 rw[list_sort_plain]
 refine Yb (Uq ho rfl ?_);refine Yb (Vx ho rfl ?_ (by rw[Yh,YS];lia) (YT _))
 refine Yb (Uz ho1 rfl ?_);refine Yb (wpAny_newTuple ?_ (by show vs.length<=_;rw[YS];lia))
 refine Yb (Vd ?_ (YT _));refine Xh ?_
 show wpAny 3e9 A _ P E { s with heap:=((s.heap.update a (XI fun _=>(#[]:Array Value))).push (seqObj "tuple" vs.toArray 0)).push (seqObj "list" #[] 0) }
 rw[hg]
 dsimp only
 have n2:¬vs.toArray.size < 2:=by rw[Yh];lia
 rw[if_neg n2,if_neg n2]
 refine Yb (X2 (hk g3 kb (fun k s'=>k=κ/\s'={ s with heap:=g3 }) ⟨rfl,rfl⟩) (fun k s' e=>?_) fun _ _ x=>x.elim)
 obtain ⟨rfl,rfl⟩:=e
 refine Yb (X2 (kat_run (ks:=vs) (vs:=vs) (Q:=fun st' s'=>∃p:Array Nat,p.size=vs.length/\arrOf st'=p.map (kas_item (vs.toArray.zip vs.toArray))/\failedOf st'=none/\p=runT o (Wp vs.length)/\s'={ s with heap:=g3 })
  (G:=fun p s'=>p=runT o (Wp vs.length)/\s'={ s with heap:=g3 }) rfl h2 h64 (fun p st' s' a1 a2 a3 a4=>⟨p,a1,a2,a3,a4.1,a4.2⟩)
  (wp_run (o:=o) (hc g3 kb) _ (Zcb (by lia)) ⟨rfl,rfl⟩)) ?_ fun _ _ e=>e)
 rintro ⟨⟨⟩,st'⟩ s' ⟨p,hp,har,hf,ep,rfl⟩
 dsimp only
 have ho2:=kat_snds (ks:=vs) (vs:=vs) rfl har
 rw[ho2,ep]
 have hz:(WE ((runT o (Wp vs.length)).toList.map fun i=>vs.getD i Xj)).size=vs.length:=by rw[Yh,Yr,YH,←ep,hp]
 obtain ⟨c2,hc2⟩:∃c2,(g3.update a (XI fun _=>WE ((runT o (Wp vs.length)).toList.map fun i=>vs.getD i Xj))).get? a=some (seqObj "list" (WE ((runT o (Wp vs.length)).toList.map fun i=>vs.getD i Xj)) c2):=⟨_,Vc g3a fun _=>_⟩
 refine Yb (Uz g3a rfl ?_)
 refine Yb (Vx g3a rfl ?_ (YT _) (YG (Nat.le_of_eq hz) (by rw[YS];lia)))
 rw[hf]
 simp only[bne_self_eq_false,YY,if_false]
 exact Ye (h _ c2 (fun b u nb e=>by rw[XZ _ _ _ _ nb];exact kb b u nb e) hc2)
end
section
variable {prog:Yq}{w:World}{A:Around}{E:1e4}{s:Shared}{a l:Addr}{vs:3e5}{κ:V7}{o:Nat->Nat->Bool}
theorem lsort_few {n:Nat}{P:PySem.Fin->Shared->Prop}(ho:s.heap.get? a=some (seqObj "list" vs.toArray n))(h2:vs.length < 2)
  (h:∀h' c,KeepBut a s.heap h'->h'.get? a=some (seqObj "list" vs.toArray c)->P (.done (.ret .none)) { s with heap:=h' }):
  wpAny 3e9 A (V5.«list.sort» ⟨[.ref a],[]⟩) P E s:=by
 obtain ⟨c1,ho1⟩:∃c1,(s.heap.update a (XI fun _=>(#[]:Array Value))).get? a=some (seqObj "list" #[] c1):=⟨_,Vc ho fun _=>#[]⟩
 generalize hg:((s.heap.update a (XI fun _=>(#[]:Array Value))).push (seqObj "tuple" vs.toArray 0)).push (seqObj "list" #[] 0)=g3
 have kb:KeepBut a s.heap g3:=fun b u nb e=>by
  rw[←hg]
  refine Yc _ (Yc _ ?_)
  rw[XZ _ _ _ _ nb];exact e
 have g3a:g3.get? a=some (seqObj "list" #[] c1):=by rw[←hg];exact Yc _ (Yc _ ho1)
 rw[list_sort_plain]
 refine Yb (Uq ho rfl ?_);refine Yb (Vx ho rfl ?_ (by rw[Yh,YS];lia) (YT _))
 refine Yb (Uz ho1 rfl ?_);refine Yb (wpAny_newTuple ?_ (by show vs.length<=_;rw[YS];lia))
 refine Yb (Vd ?_ (YT _));refine Xh ?_
 show wpAny 3e9 A _ P E { s with heap:=((s.heap.update a (XI fun _=>(#[]:Array Value))).push (seqObj "tuple" vs.toArray 0)).push (seqObj "list" #[] 0) }
 rw[hg]
 dsimp only
 have n2:vs.toArray.size < 2:=by rw[Yh];lia
 simp only[if_pos n2]
 apply Yb
 apply Ye
 simp only[StateT.run_pure]
 apply Yb
 apply Ye
 dsimp only
 have ez:(arrOf (SortSt.mk' general' (vs.toArray.zip vs.toArray) #[] 7 none)).map (·.2)=vs.toArray:=by
  show (vs.toArray.zip vs.toArray).map (·.2)=vs.toArray
  apply Array.toList_inj.mp
  rw[Array.toList_map,Array.toList_zip,List.map_snd_zip 3e4]
 rw[ez]
 obtain ⟨c2,hc2⟩:∃c2,(g3.update a (XI fun _=>vs.toArray)).get? a=some (seqObj "list" vs.toArray c2):=⟨_,Vc g3a fun _=>_⟩
 refine Yb (Uz g3a rfl ?_)
 refine Yb (Vx g3a rfl ?_ (YT _) (by rw[Yh,YS];lia))
 simp only[bne_self_eq_false,YY,if_false]
 exact Ye (h _ c2 (fun b u nb e=>by rw[XZ _ _ _ _ nb];exact kb b u nb e) hc2)
def outs2 (o:Nat->Nat->Bool)(vs:3e5):List Value:=if vs.length < 2 then vs else outs o vs
theorem sorted_at {v:Value}{Q:1e4}{h1:Heap}(hcol:∀(Q':List Value->Shared->Prop),Q' vs { s with heap:=h1 }->wpAny (model prog w) A.in1 (collect v) Q' E s)(kp:∀b u,s.heap.get? b=some u->h1.get? b=some u)(hle:s.heap.objs.size<=h1.objs.size)(h64:vs.length < 64)
  (hk:2<=vs.length->∀h',(∀b u,s.heap.get? b=some u->h'.get? b=some u)->∀Q:V7->Shared->Prop,Q κ { s with heap:=h' }->wpAny (model prog w) A.in1.in1 (keyKind' vs.toArray) Q (fun _ _=>False) { s with heap:=h' })
  (hc:2<=vs.length->∀h',(∀b u,s.heap.get? b=some u->h'.get? b=some u)->∀i j (C:Bool->Shared->Prop),i < vs.length->j < vs.length->C (o i j) { s with heap:=h' }->kas_ask prog w A.in1.in1 κ vs i j C { s with heap:=h' })
  (h:∀D h' c,s.heap.objs.size<=D->(∀b u,s.heap.get? b=some u->h'.get? b=some u)->h'.get? D=some (seqObj "list" (outs2 o vs).toArray c)->Q (.ref D) { s with heap:=h' }):
  wpAny 3e9 A (call (.builtin "sorted") [v]) Q E s:=by
 refine Calls.call_function_entry kind_sorted plain_sorted entry_sorted (args_sorted1 _) ?_
 unfold V5.«sorted»
 refine Yb (m:=checkCount "sorted" 1 1 _) (Ye ?_);refine Yb (hcol _ ?_)
 refine Yb (Vd ?_ (by rw[YS];lia))
 have hoL:(h1.push (seqObj "list" vs.toArray 0)).get? h1.objs.size=some (seqObj "list" vs.toArray 0):=Yp _ rfl
 have keep:∀b u,s.heap.get? b=some u->(h1.push (seqObj "list" vs.toArray 0)).get? b=some u:=fun b u e=>Yc _ (kp b u e)
 have kb:∀h',KeepBut h1.objs.size (h1.push (seqObj "list" vs.toArray 0)) h'->∀b u,s.heap.get? b=some u->h'.get? b=some u:=fun h' k b u e=>
  k b u (Yo (Yv (Ys e) hle)) (keep b u e)
 show wpAny _ _ _ _ _ { s with heap:=h1.push (seqObj "list" vs.toArray 0) }
 refine Yb (Xh (XO slot_list_sort ⟨_,hoL,rfl⟩ entry_list_sort ?body (args_list_sort _)))
 case body=>
  by_cases h2:vs.length < 2
  ·refine lsort_few (s:={ s with heap:=h1.push (seqObj "list" vs.toArray 0) }) hoL h2 fun h' c k e=>⟨_,rfl,Ye ⟨_,rfl,h _ h' c hle (kb h' k) ?_⟩⟩
   unfold outs2;rw[if_pos h2];exact e
  ·refine lsort_at (s:={ s with heap:=h1.push (seqObj "list" vs.toArray 0) }) (κ:=κ) (o:=o) hoL (by lia) h64 (fun h' k=>hk (by lia) h' (kb h' k)) (fun h' k=>hc (by lia) h' (kb h' k)) fun h' c k e=>⟨_,rfl,Ye ⟨_,rfl,h _ h' c hle (kb h' k) ?_⟩⟩
   unfold outs2;rw[if_neg h2];exact e
end
end Pu
namespace Pu
open PySem PySem.Spec PySem.W PySem.Calls L2 PySem.SeqAt
open PyProof.Rows hiding St Fr
noncomputable def fstK:PV->Nat
 | .int _=>1
 | .str _=>2
 | .tup (.int _::_)=>3
 | .tup (.str _::_)=>4
 | _=>0
def oP (ps:List PV)(i j:Nat):Bool:=(ltD (ps.getD (min i (ps.length - 1)) .non) (ps.getD (min j (ps.length - 1)) .non)).getD false
def perm (ps:List PV):List Nat:=if ps.length < 2 then Yg ps.length else (runT (oP ps) (Wp ps.length)).toList
def sortL (ps:List PV):List PV:=(perm ps).map fun i=>ps.getD i .non
def sortable (ps:List PV):Bool:=(ps.all fun p=>fstK p==1)||(ps.all fun p=>fstK p==2)||(ps.all fun p=>fstK p==3)||(ps.all fun p=>fstK p==4)
def cmpAll (ps:List PV):Bool:=ps.all fun p=>ps.all fun q=>(ltD p q).isSome
def sortP (ps:List PV):Option 6e2:=if dats ps&&decide (deps ps<=40)&&decide (ps.length < 64)&&sortable ps&&cmpAll ps then some (sortL ps) else none
mutual
theorem HRep.keep {h h':Heap}(k:∀b u,h.get? b=some u->h'.get? b=some u):∀(p:PV) {u:Value},HRep h p u->HRep h' p u
 | .non,u,a=>by unfold HRep at a ⊢;exact a
 | .bl x,u,a=>by unfold HRep at a ⊢;exact a
 | .int x,u,a=>by unfold HRep at a ⊢;exact a
 | .str x,u,a=>by unfold HRep at a ⊢;exact a
 | .tup ps,u,a=>by
  unfold HRep at a ⊢;obtain ⟨l,us,rfl,⟨o,e,c⟩,r⟩:=a
  exact ⟨l,us,rfl,⟨o,k _ _ e,c⟩,HReps.keep k ps r⟩
 | .lst ps,u,a=>by
  unfold HRep at a ⊢;obtain ⟨l,us,rfl,⟨o,e,c⟩,r⟩:=a
  exact ⟨l,us,rfl,⟨o,k _ _ e,c⟩,HReps.keep k ps r⟩
 | .dct _ _,u,a=>by unfold HRep at a;exact a.elim
 | .dtt _ _,u,a=>by unfold HRep at a;exact a.elim
 | .fn _,u,a=>by unfold HRep at a;exact a.elim
 | .ty _,u,a=>by unfold HRep at a;exact a.elim
theorem HReps.keep {h h':Heap}(k:∀b u,h.get? b=some u->h'.get? b=some u):∀(ps:List PV) {us:3e5},HReps h ps us->HReps h' ps us
 | [],us,a=>by unfold HReps at a ⊢;exact a
 | p::ps,us,a=>by
  unfold HReps at a ⊢;obtain ⟨v,r,rfl,a1,a2⟩:=a
  exact ⟨v,r,rfl,HRep.keep k p a1,HReps.keep k ps a2⟩
end
theorem HReps.get {h:Heap}:∀{ps:List PV} {us:3e5} {i:Nat},HReps h ps us->i < us.length->HRep h (ps.getD i .non) (us.getD i Xj)
 | [],us,i,a,hi=>by unfold HReps at a;subst a;cases hi
 | p::ps,us,i,a,hi=>by
  unfold HReps at a;obtain ⟨v,r,rfl,a1,a2⟩:=a
  cases i with
  | zero=>exact a1
  | succ i=>simpa using HReps.get a2 (by simpa using hi)
theorem Zb2 {ps:List PV}{i:Nat}(hi:i < ps.length):ps.getD i .non∈ps:=by
 rw[YE,Ya hi];exact Y5 hi
section
variable {prog:Yq}{w:World}{A:Around}{s:Shared}
theorem katLex_of {b fin:Bool}{Q:Bool->Shared->Prop}{c:Bool}:∀{ps qs:List PV} {us vs:3e5} (i:Nat),PairsOk A s ps qs us vs->lexD ps qs=some c->fin=decide (us.length < vs.length)->
  ((b&&i==0)=true->∀p ps' q qs' u us' v vs',ps=p::ps'->qs=q::qs'->us=u::us'->vs=v::vs'->∀c,ltD p q=some c->∀Q:Bool->Shared->Prop,Q c s->wpAny 3e9 A (oneLt' true u v) Q (fun _ _=>False) s)->
  Q c s->KatLex prog w A b fin Q (us.zip vs) i s
  :=by
 intro ps qs us vs i pk
 induction pk generalizing i with
 | @nil1 qs _ hh=>
  intro e hf hz q
  rw[List.zip_nil_left]
  refine kat_nil ?_
  cases qs with
  | nil=>rw[Zbm] at e;cases e;rw[hf,←hh];exact q
  | cons y ys=>rw[Zb4] at e;cases e;rw[hf,←hh];simpa using q
 | @nil2 ps _ hh=>
  intro e hf hz q
  rw[List.zip_nil_right]
  refine kat_nil ?_
  cases ps with
  | nil=>rw[Zbm] at e;cases e;rw[hf,←hh];exact q
  | cons y ys=>rw[Zb5] at e;cases e;rw[hf];simpa using q
 | @cons p q' u v ps qs us vs ee lt t ih=>
  intro e hf hz q
  rw[Xn]
  refine kat_cons (ee prog w _ _ ?_)
  rw[lexD_cons] at e
  cases he:eqD p q' with
  | true=>
   rw[he,if_pos rfl] at e
   exact kat_yes (ih (i + 1) e (by rw[hf];simp) (fun z=>by simp at z) q)
  | false=>
   rw[he,if_neg Yi] at e
   refine kat_no ?_
   cases hb:(b&&i==0) with
   | true=>exact hz hb _ _ _ _ _ _ _ _ rfl rfl rfl rfl c e _ q
   | false=>exact kat_one _ _ (lt c e prog w _ _ q)
theorem one_int {a c:Int}{t u:Tok}{E:1e4}{Q:Bool->Shared->Prop}(h:Q (decide (a < c)) s):wpAny 3e9 A (oneLt' true (.int a t) (.int c u)) Q E s:=by
 rw[←keyLt'_oneType];exact kat_lt_int h
theorem one_str {a c:Str}{t u:Tok}{E:1e4}{Q:Bool->Shared->Prop}(h:Q (decide (a.cps.toList < c.cps.toList)) s):wpAny 3e9 A (oneLt' true (.str a t) (.str c u)) Q E s:=by
 rw[←keyLt'_oneType];exact kas_lt_str h
theorem ask_one {p q:PV}{u v:Value}{c:Bool}{Q:Bool->Shared->Prop}(a:HRep s.heap p u)(b:HRep s.heap q v)(hk:fstK p=1/\fstK q=1\/fstK p=2/\fstK q=2)(e:ltD p q=some c)(h:Q c s):wpAny 3e9 A (keyLt' oneType' u v) Q (fun _ _=>False) s:=by
 rw[keyLt'_oneType]
 cases p with
 | int x=>
  cases q with
  | int y=>unfold HRep at a b;obtain ⟨t,rfl⟩:=a;obtain ⟨t',rfl⟩:=b;unfold ltD at e;cases e;exact one_int h
  | _=>unfold ltD at e;cases e
 | str x=>
  cases q with
  | str y=>unfold HRep at a b;obtain ⟨t,rfl⟩:=a;obtain ⟨t',rfl⟩:=b;unfold ltD at e;cases e;exact one_str h
  | _=>unfold ltD at e;cases e
 | tup xs=>
  exfalso
  cases xs with
  | nil=>simp[fstK] at hk
  | cons y ys=>cases y<;>simp[fstK] at hk
 | _=>unfold ltD at e;cases e
theorem ask_tup {p q:PV}{u v:Value}{c:Bool}{Q:Bool->Shared->Prop}(a:HRep s.heap p u)(b:HRep s.heap q v)(hk:fstK p=3/\fstK q=3\/fstK p=4/\fstK q=4)(e:ltD p q=some c)(hu:A.units + dep p < cLine)(h:Q c s):wpAny 3e9 A (keyLt' (tuples' true) u v) Q (fun _ _=>False) s:=by
 cases p with
 | tup xs=>
  cases q with
  | tup ys=>
   unfold HRep at a b;obtain ⟨l,us,rfl,⟨ol,el,_,nl,dl⟩,r1⟩:=a;obtain ⟨l',vs,rfl,⟨ol',el',_,nl',dl'⟩,r2⟩:=b
   unfold ltD at e
   unfold dep at hu
   refine kat_lt el dl el' dl' ?_
   refine katLex_of 0 (HReps.pairs xs r1 r2 1e3) e 3e4 (fun _=>?_) h
   intro p ps' q qs' u us' v vs' e1 e2 e3 e4 c' el Q' hq
   subst e1 e2 e3 e4
   unfold HReps at r1 r2
   obtain ⟨_,_,z1,a1,_⟩:=r1
   obtain ⟨_,_,z2,b1,_⟩:=r2
   cases z1;cases z2
   cases p with
   | int x=>
    cases q with
    | int y=>unfold HRep at a1 b1;obtain ⟨t,rfl⟩:=a1;obtain ⟨t',rfl⟩:=b1;unfold ltD at el;cases el;exact one_int hq
    | _=>unfold ltD at el;cases el
   | str x=>
    cases q with
    | str y=>unfold HRep at a1 b1;obtain ⟨t,rfl⟩:=a1;obtain ⟨t',rfl⟩:=b1;unfold ltD at el;cases el;exact one_str hq
    | _=>unfold ltD at el;cases el
   | tup xs=>simp[fstK] at hk
   | _=>unfold ltD at el;cases el
  | _=>unfold ltD at e;cases e
 | _=>simp[fstK] at hk
end
theorem Zbz {ps:List PV}:∀i∈perm ps,i < ps.length:=by
 intro i hi
 unfold perm at hi
 split at hi
 ·simpa using hi
 ·exact (Zdb (Wp ps.length) (Zcb 1e3)).2.2 i hi
def sortV (ps:List PV)(ys:List V):List V:=(perm ps).map fun i=>ys.getD i .non
def sortU (ps:List PV)(us:3e5):List Value:=(perm ps).map fun i=>us.getD i Xj
theorem Zcw {ps:List PV}{us:3e5}(e:ps.length=us.length):outs2 (oP ps) us=sortU ps us:=by
 unfold outs2 sortU perm outs
 rw[←e]
 split
 ·have:us=(Yg us.length).map fun i=>us.getD i Value.none:=by
   apply WI
   intro i
   rw[YK]
   by_cases hi:i < us.length
   ·rw[List.getElem?_range hi];simp[hi]
   ·rw[X7 1e3,X7 (by simp;lia)];rfl
  rw[e];exact this
 ·rfl
theorem vals_getD:∀{ys:List V} {us:3e5} {i:Nat},Vals ys us->i < us.length->RelV (ys.getD i .non) (us.getD i Xj)
 | _,_,i,.nil,hi=>by cases hi
 | _,_,i,.cons r t,hi=>by
  cases i with
  | zero=>exact r
  | succ i=>simpa using vals_getD t (by simpa using hi)
theorem ZbQ {ys:List V}{us:3e5}(r:Vals ys us):∀{is:List Nat},(∀i∈is,i < us.length)->Vals (is.map fun i=>ys.getD i .non) (is.map fun i=>us.getD i Xj)
 | [],_=>.nil
 | i::is,h=>.cons (vals_getD r (h i (.head _))) (ZbQ r fun j hj=>h j (.tail _ hj))
theorem reps_getD {K:W.Frag}{ι:3e1}{H:Hp}:∀{ps:List PV} {ys:List V} {i:Nat},Reps K ι H ps ys->i < ps.length->Rep K ι H (ps.getD i .non) (ys.getD i .non)
 | [],ys,i,a,hi=>by cases hi
 | p::ps,ys,i,a,hi=>by
  unfold Reps at a;obtain ⟨v,r,rfl,a1,a2⟩:=a
  cases i with
  | zero=>exact a1
  | succ i=>simpa using reps_getD a2 (by simpa using hi)
theorem ZbW {K:W.Frag}{ι:3e1}{H:Hp}{ps:List PV}{ys:List V}(r:Reps K ι H ps ys):∀{is:List Nat},(∀i∈is,i < ps.length)->Reps K ι H (is.map fun i=>ps.getD i .non) (is.map fun i=>ys.getD i .non)
 | [],_=>by unfold Reps;rfl
 | i::is,h=>by
  unfold Reps
  exact ⟨_,_,rfl,reps_getD r (h i (.head _)),ZbW r fun j hj=>h j (.tail _ hj)⟩
section
variable {prog:Yq}{w:World}{A:Around}{s:Shared}
theorem Zc0 {h:Heap}:∀{ps:List PV} {us:3e5},HReps h ps us->∀u∈us,∃p∈ps,HRep h p u
 | [],us,a,u,hu=>by unfold HReps at a;subst a;cases hu
 | p::ps,us,a,u,hu=>by
  unfold HReps at a;obtain ⟨v,r,rfl,a1,a2⟩:=a
  rcases Yn.mp hu with rfl | hu
  ·exact ⟨p,.head _,a1⟩
  ·obtain ⟨q,hq,b⟩:=Zc0 a2 u hu
   exact ⟨q,.tail _ hq,b⟩
def headV (h:Heap)(k:Nat)(f:Value):Prop:=(k=3/\∃i t,f=.int i t)\/(k=4/\∃x t,f=.str x t)
theorem tups_of {h:Heap}{k:Nat}(hk:k=3\/k=4):∀{ps:List PV} {us:3e5},HReps h ps us->(ps.all fun p=>fstK p==k)=true->∃fs,KatTups h us fs/\fs.length=us.length/\∀f∈fs,headV h k f
 | [],us,a,_=>by unfold HReps at a;subst a;exact ⟨[],.nil,rfl,fun f hf=>by cases hf⟩
 | p::ps,us,a,e=>by
  unfold HReps at a;obtain ⟨v,r,rfl,a1,a2⟩:=a
  rw[Y9,Yd] at e
  obtain ⟨fs,t,hl,hf⟩:=tups_of hk a2 e.2
  have e1:fstK p=k:=by simpa using e.1
  cases p with
  | tup xs=>
   unfold HRep at a1;obtain ⟨l,us',rfl,⟨o,ho,hc,n,hd⟩,r1⟩:=a1
   cases xs with
   | nil=>simp[fstK] at e1;lia
   | cons y ys=>
    unfold HReps at r1;obtain ⟨f,r',rfl,b1,_⟩:=r1
    refine ⟨f::fs,.cons ho hc hd 3e4 t,by simp[hl],fun g hg=>?_⟩
    rcases Yn.mp hg with rfl | hg
    ·cases y with
     | int i=>unfold HRep at b1;simp[fstK] at e1;obtain ⟨t,rfl⟩:=b1;exact .inl ⟨e1.symm,_,_,rfl⟩
     | str x=>unfold HRep at b1;simp[fstK] at e1;obtain ⟨t,rfl⟩:=b1;exact .inr ⟨e1.symm,_,_,rfl⟩
     | _=>simp[fstK] at e1;lia
    ·exact hf g hg
  | int i=>simp[fstK] at e1;lia
  | str i=>simp[fstK] at e1;lia
  | _=>simp[fstK] at e1;lia
def kindP (ps:List PV):SortKind:=if (ps.all fun p=>fstK p==1)||(ps.all fun p=>fstK p==2) then oneType' else tuples' true
theorem kind_of {ps:List PV}{us:3e5}{Q:V7->Shared->Prop}{E:1e4}(a:HReps s.heap ps us)(h2:2<=us.length)(e:sortable ps=true)(h:Q (kindP ps) s):wpAny 3e9 A (keyKind' us.toArray) Q E s:=by
 unfold sortable at e
 unfold kindP at h
 by_cases h1:(ps.all fun p=>fstK p==1)=true
 ·rw[h1,Bool.true_or,if_pos rfl] at h
  refine kas_kind (T:=.type "int") h2 (fun v hv=>?_) 2e4 2e4 h
  obtain ⟨p,hp,b⟩:=Zc0 a v hv
  have:=Yt.mp h1 p hp
  cases p with
  | int i=>unfold HRep at b;obtain ⟨t,rfl⟩:=b;exact V8 rfl
  | tup xs=>cases xs with
   | nil=>simp[fstK] at this
   | cons y ys=>cases y<;>simp[fstK] at this
  | _=>simp[fstK] at this
 ·by_cases h3:(ps.all fun p=>fstK p==2)=true
  ·rw[h3,Bool.or_true,if_pos rfl] at h
   refine kas_kind (T:=.type "str") h2 (fun v hv=>?_) 2e4 2e4 h
   obtain ⟨p,hp,b⟩:=Zc0 a v hv
   have:=Yt.mp h3 p hp
   cases p with
   | str i=>unfold HRep at b;obtain ⟨t,rfl⟩:=b;exact V8 rfl
   | tup xs=>cases xs with
    | nil=>simp[fstK] at this
    | cons y ys=>cases y<;>simp[fstK] at this
   | _=>simp[fstK] at this
  ·rw[Bool.not_eq_true] at h1 h3
   rw[h1,h3] at h e
   rw[if_neg 2e4] at h
   simp only[Bool.false_or,Ur] at e
   rcases e with e | e
   ·obtain ⟨fs,t,hl,hf⟩:=tups_of (.inl rfl) a e
    refine kat_kind (T:=.type "int") t 1e3 (fun v hv=>?_) 2e4 h
    rcases hf v hv with ⟨_,i,t,rfl⟩ | ⟨z,_⟩
    ·exact V8 rfl
    ·cases z
   ·obtain ⟨fs,t,hl,hf⟩:=tups_of (.inr rfl) a e
    refine kat_kind (T:=.type "str") t 1e3 (fun v hv=>?_) 2e4 h
    rcases hf v hv with ⟨z,_⟩ | ⟨_,i,t,rfl⟩
    ·cases z
    ·exact V8 rfl
theorem dep_getD:∀{ps:List PV} (i:Nat),dep (ps.getD i .non)<=deps ps
 | [],i=>by simp[dep,deps]
 | p::ps,i=>by
  unfold deps
  cases i with
  | zero=>exact Nat.le_max_left _ _
  | succ i=>exact YG (by simpa using dep_getD (ps:=ps) i) (Nat.le_max_right _ _)
theorem ask_of {ps:List PV}{us:3e5}{i j:Nat}{C:Bool->Shared->Prop}(a:HReps s.heap ps us)(e:sortable ps=true)(ec:cmpAll ps=true)(hu:A.units + deps ps < cLine)(hi:i < us.length)(hj:j < us.length)(h:C (oP ps i j) s):kas_ask prog w A (kindP ps) us i j C s:=by
 have hl:=a.length
 have mi:=Zb2 (ps:=ps) (i:=i) 1e3
 have mj:=Zb2 (ps:=ps) (i:=j) 1e3
 have hs:(ltD (ps.getD i .non) (ps.getD j .non)).isSome=true:=Yt.mp (Yt.mp ec _ mi) _ mj
 obtain ⟨c,hc⟩:=WW.mp hs
 unfold oP at h
 rw[Uk 1e3,Uk 1e3,hc] at h
 have ai:=HReps.get a hi
 have aj:=HReps.get a hj
 have hd:=dep_getD (ps:=ps) i
 unfold kas_ask kindP
 have at':∀k,(ps.all fun p=>fstK p==k)=true->fstK (ps.getD i .non)=k/\fstK (ps.getD j .non)=k:=fun k z=>⟨by simpa using Yt.mp z _ mi,by simpa using Yt.mp z _ mj⟩
 by_cases h1:(ps.all fun p=>fstK p==1)=true
 ·rw[h1,Bool.true_or,if_pos rfl];exact ask_one ai aj (.inl (at' 1 h1)) hc h
 ·by_cases h3:(ps.all fun p=>fstK p==2)=true
  ·rw[h3,Bool.or_true,if_pos rfl];exact ask_one ai aj (.inr (at' 2 h3)) hc h
  ·unfold sortable at e
   rw[Bool.not_eq_true] at h1 h3
   rw[h1,h3] at e ⊢
   rw[if_neg 2e4]
   simp only[Bool.false_or,Ur] at e
   rcases e with e | e
   ·exact ask_tup ai aj (.inl (at' 3 e)) hc 1e3 h
   ·exact ask_tup ai aj (.inr (at' 4 e)) hc 1e3 h
end
section
variable {X:Cx}
def rSorted (K:W.Frag):List V->Hp->VK->Prop:=fun xs H Q=>∃p ys ι ps,xs=[.ref p]/\SqL K H p ys/\Reps K ι H ps ys/\(sortP ps).isSome=true/\∀l,H l=none->Q (.ref l) (upd H l (.lst (sortV ps ys)))
theorem call_sorted (hu:X.A.units + 64 < cLine):CallR X (.builtin "sorted") (rSorted X.K):=by
 intro pins s σ H xs us Q I r h
 obtain ⟨p,ys,ι,ps,rfl,hq,rs,hs,q⟩:=h
 obtain ⟨u,rfl,rx⟩:=vals1 r
 cases rx
 obtain ⟨its,r',pl,hz⟩:=I.list hq
 unfold sortP at hs
 split at hs
 ·rename_i hh
  simp only[Yd,decide_eq_true_eq] at hh
  obtain ⟨⟨⟨⟨hd,hde⟩,h64⟩,hso⟩,hcm⟩:=hh
  have hr:=Reps.heap I ps rs r' hd
  have hl:=hr.length
  have hyl:=r'.length
  refine sorted_at (vs:=its) (κ:=kindP ps) (o:=oP ps) (h1:=(s.heap.push (seqObj "list" #[] 0)).update s.heap.objs.size (XI (·++its.toArray))) (fun Q' q'=>collect_list pl.isList q' 1e3) (fun b u e=>?_) ?_ 1e3 (fun h2 h' k Q' q'=>?_) (fun h2 h' k i j C hi hj hC=>?_) (fun D h' c hD k e=>?_)
  ·rw[XZ _ _ _ _ (Yo (Ys e))];exact Yc _ e
  ·rw[Heap.size_update,size_push'];lia
  ·exact kind_of (s:={ s with heap:=h' }) (hr.keep k) h2 hso q'
  ·exact ask_of (s:={ s with heap:=h' }) (hr.keep k) hso hcm (by rw[YU,YU];lia) hi hj hC
  ·rw[Zcw hl] at e
   refine ⟨.ref D,_,I.laid (t':=s.toks) k hD (show ObjOk X.prog X.w _ h' _ (.lst (sortV ps ys)) from ⟨?_,sortU ps its,c,?_,e⟩),rfl,q _ (I.hok.fresh hD)⟩
   ·unfold sortV
    rw[Yr]
    have:(perm ps).length<=64:=by
     unfold perm
     split
     ·rw[Vj];lia
     ·rename_i h2
      rw[YH]
      rw[(Zdb (o:=oP ps) (Wp ps.length) (Zcb 1e3)).2.1];lia
    exact YG this (by rw[YS];decide)
   ·exact ZbQ r' fun i hi=>by have:=Zbz i hi;lia
 ·cases hs
end
section
variable {X:Cx}{e:Expr}{es:4e8}{fs:2e8}{p pos:Pos}
theorem Zcv {ps qs:List PV}(e:sortP ps=some qs):qs=sortL ps:=by
 unfold sortP at e;split at e
 ·cases e;rfl
 ·cases e
end
end Pu
namespace Pu
open PySem PySem.Spec PySem.W
mutual
noncomputable def pur:PV->Bool
 | .int _=>true
 | .str _=>true
 | .tup ps=>purs ps
 | _=>false
noncomputable def purs:List PV->Bool
 | []=>true
 | p::ps=>pur p&&purs ps
end
mutual
noncomputable def lT:PV->PV->Bool
 | .int a,.int b=>decide (a < b)
 | .int _,.str _=>true
 | .int _,.tup _=>true
 | .str a,.str b=>decide (a.cps.toList < b.cps.toList)
 | .str _,.tup _=>true
 | .tup xs,.tup ys=>lTs xs ys
 | _,_=>false
noncomputable def lTs:List PV->List PV->Bool
 | [],[]=>false
 | [],_::_=>true
 | _::_,[]=>false
 | x::xs,y::ys=>if eqD x y then lTs xs ys else lT x y
end
mutual
theorem Zbp:∀(p:PV) {q:PV},pur p=true->pur q=true->(eqD p q=true↔p=q)
 | .int a,q,_,hq=>by cases q<;>simp[eqD]<;>simp[pur] at hq
 | .str a,q,_,_=>by cases q<;>simp[eqD]
 | .tup ps,q,h,hq=>by
  unfold pur at h
  cases q with
  | tup qs=>unfold pur at hq;unfold eqD;rw[eqDs_pur ps h hq];simp
  | _=>simp[eqD]
 | .non,q,h,_=>by simp[pur] at h
 | .bl _,q,h,_=>by simp[pur] at h
 | .lst _,q,h,_=>by simp[pur] at h
 | .dct _ _,q,h,_=>by simp[pur] at h
 | .dtt _ _,q,h,_=>by simp[pur] at h
 | .fn _,q,h,_=>by simp[pur] at h
 | .ty _,q,h,_=>by simp[pur] at h
theorem eqDs_pur:∀(ps:List PV) {qs:List PV},purs ps=true->purs qs=true->(eqDs ps qs=true↔ps=qs)
 | [],qs,_,_=>by cases qs<;>simp[eqDs]
 | p::ps,qs,h,hq=>by
  unfold purs at h
  rw[Yd] at h
  cases qs with
  | nil=>simp[eqDs]
  | cons q qs=>
   unfold purs at hq
   rw[Yd] at hq
   unfold eqDs;rw[Yd,Zbp p h.1 hq.1,eqDs_pur ps h.2 hq.2,List.cons.injEq]
end
theorem Zb7 {p:PV}(h:pur p=true):eqD p p=true:=(Zbp p h h).mpr rfl
theorem str_tri {a b:Str}(h1:¬a.cps.toList < b.cps.toList)(h2:¬b.cps.toList < a.cps.toList):a=b:=by
 obtain ⟨⟨x⟩⟩:=a
 obtain ⟨⟨y⟩⟩:=b
 have:x=y:=List.le_antisymm (List.not_lt.mp h2) (List.not_lt.mp h1)
 rw[this]
mutual
theorem lT_irr:∀(p:PV),pur p=true->lT p p=false
 | .int a,_=>by simp[lT]
 | .str a,_=>by simp[lT,List.lt_irrefl]
 | .tup ps,h=>by unfold pur at h;unfold lT;exact lTs_irr ps h
 | .non,_=>by simp[lT]
 | .bl _,_=>by simp[lT]
 | .lst _,_=>by simp[lT]
 | .dct _ _,_=>by simp[lT]
 | .dtt _ _,_=>by simp[lT]
 | .fn _,_=>by simp[lT]
 | .ty _,_=>by simp[lT]
theorem lTs_irr:∀(ps:List PV),purs ps=true->lTs ps ps=false
 | [],_=>by simp[lTs]
 | p::ps,h=>by
  unfold purs at h;rw[Yd] at h
  unfold lTs;rw[Zb7 h.1,if_pos rfl];exact lTs_irr ps h.2
end
mutual
theorem lT_tri:∀(p:PV) {q:PV},pur p=true->pur q=true->lT p q=false->lT q p=false->p=q
 | .int a,q,_,hq,h1,h2=>by
  cases q<;>simp[lT,pur] at h1 h2 hq ⊢
  lia
 | .str a,q,_,hq,h1,h2=>by
  cases q with
  | str b=>
   unfold lT at h1 h2
   have:a=b:=str_tri (of_decide_eq_false h1) (of_decide_eq_false h2)
   rw[this]
  | int _=>simp[lT] at h2
  | tup _=>simp[lT] at h1
  | _=>simp[pur] at hq
 | .tup ps,q,h,hq,h1,h2=>by
  unfold pur at h
  cases q with
  | tup qs=>unfold pur at hq;unfold lT at h1 h2;rw[lTs_tri ps h hq h1 h2]
  | int _=>simp[lT] at h2
  | str _=>simp[lT] at h2
  | _=>simp[pur] at hq
 | .non,q,h,_,_,_=>by simp[pur] at h
 | .bl _,q,h,_,_,_=>by simp[pur] at h
 | .lst _,q,h,_,_,_=>by simp[pur] at h
 | .dct _ _,q,h,_,_,_=>by simp[pur] at h
 | .dtt _ _,q,h,_,_,_=>by simp[pur] at h
 | .fn _,q,h,_,_,_=>by simp[pur] at h
 | .ty _,q,h,_,_,_=>by simp[pur] at h
theorem lTs_tri:∀(ps:List PV) {qs:List PV},purs ps=true->purs qs=true->lTs ps qs=false->lTs qs ps=false->ps=qs
 | [],qs,_,_,h1,h2=>by cases qs<;>simp[lTs] at h1 h2 ⊢
 | p::ps,qs,h,hq,h1,h2=>by
  unfold purs at h;rw[Yd] at h
  cases qs with
  | nil=>simp[lTs] at h2
  | cons q qs=>
   unfold purs at hq;rw[Yd] at hq
   unfold lTs at h1 h2
   by_cases e:p=q
   ·subst e
    rw[Zb7 h.1,if_pos rfl] at h1 h2
    rw[lTs_tri ps h.2 hq.2 h1 h2]
   ·rw[if_neg (fun z=>e ((Zbp p h.1 hq.1).mp z))] at h1
    rw[if_neg (fun z=>e ((Zbp q hq.1 h.1).mp z).symm)] at h2
    exact absurd (lT_tri p h.1 hq.1 h1 h2) e
end
mutual
theorem lT_tr:∀(p:PV) {q r:PV},pur p=true->pur q=true->pur r=true->lT p q=true->lT q r=true->lT p r=true
 | .int a,q,r,_,hq,hr,h1,h2=>by
  cases q<;>cases r<;>simp[lT,pur] at h1 h2 hq hr ⊢
  lia
 | .str a,q,r,_,hq,hr,h1,h2=>by
  cases q<;>cases r<;>simp[lT,pur] at h1 h2 hq hr ⊢
  exact List.lt_trans h1 h2
 | .tup ps,q,r,h,hq,hr,h1,h2=>by
  unfold pur at h
  cases q with
  | tup qs=>
   cases r with
   | tup rs=>unfold pur at hq hr;unfold lT at h1 h2 ⊢;exact lTs_tr ps h hq hr h1 h2
   | _=>simp[lT] at h2
  | _=>simp[lT] at h1
 | .non,q,r,h,_,_,_,_=>by simp[pur] at h
 | .bl _,q,r,h,_,_,_,_=>by simp[pur] at h
 | .lst _,q,r,h,_,_,_,_=>by simp[pur] at h
 | .dct _ _,q,r,h,_,_,_,_=>by simp[pur] at h
 | .dtt _ _,q,r,h,_,_,_,_=>by simp[pur] at h
 | .fn _,q,r,h,_,_,_,_=>by simp[pur] at h
 | .ty _,q,r,h,_,_,_,_=>by simp[pur] at h
theorem lTs_tr:∀(ps:List PV) {qs rs:List PV},purs ps=true->purs qs=true->purs rs=true->lTs ps qs=true->lTs qs rs=true->lTs ps rs=true
 | [],qs,rs,_,_,_,h1,h2=>by cases qs<;>cases rs<;>simp[lTs] at h1 h2 ⊢
 | p::ps,qs,rs,h,hq,hr,h1,h2=>by
  unfold purs at h;rw[Yd] at h
  cases qs with
  | nil=>simp[lTs] at h1
  | cons q qs=>
   cases rs with
   | nil=>simp[lTs] at h2
   | cons r rs=>
    unfold purs at hq hr;rw[Yd] at hq hr
    unfold lTs at h1 h2 ⊢
    by_cases e:p=q
    ·subst e
     rw[Zb7 h.1,if_pos rfl] at h1
     by_cases e2:p=r
     ·subst e2
      rw[Zb7 h.1,if_pos rfl] at h2 ⊢
      exact lTs_tr ps h.2 hq.2 hr.2 h1 h2
     ·have ne:=fun z=>e2 ((Zbp p h.1 hr.1).mp z)
      rw[if_neg ne] at h2 ⊢;exact h2
    ·rw[if_neg (fun z=>e ((Zbp p h.1 hq.1).mp z))] at h1
     by_cases e2:q=r
     ·subst e2
      rw[if_neg (fun z=>e ((Zbp p h.1 hq.1).mp z))];exact h1
     ·rw[if_neg (fun z=>e2 ((Zbp q hq.1 hr.1).mp z))] at h2
      have t:=lT_tr p h.1 hq.1 hr.1 h1 h2
      by_cases e3:p=r
      ·subst e3;rw[lT_irr p h.1] at t;cases t
      ·rw[if_neg (fun z=>e3 ((Zbp p h.1 hr.1).mp z))];exact t
end
mutual
theorem ltD_lT:∀(p:PV) {q:PV} {c:Bool},ltD p q=some c->c=lT p q
 | .int a,q,c,e=>by cases q<;>simp[ltD,lT] at e ⊢<;>exact e.symm
 | .str a,q,c,e=>by cases q<;>simp[ltD,lT] at e ⊢<;>exact e.symm
 | .tup ps,q,c,e=>by
  cases q with
  | tup qs=>unfold ltD at e;unfold lT;exact lexD_lT ps e
  | _=>simp[ltD] at e
 | .non,q,c,e=>by simp[ltD] at e
 | .bl _,q,c,e=>by simp[ltD] at e
 | .lst _,q,c,e=>by simp[ltD] at e
 | .dct _ _,q,c,e=>by simp[ltD] at e
 | .dtt _ _,q,c,e=>by simp[ltD] at e
 | .fn _,q,c,e=>by simp[ltD] at e
 | .ty _,q,c,e=>by simp[ltD] at e
theorem lexD_lT:∀(ps:List PV) {qs:List PV} {c:Bool},lexD ps qs=some c->c=lTs ps qs
 | [],qs,c,e=>by cases qs<;>simp[lexD,lTs] at e ⊢<;>simp[e]
 | p::ps,qs,c,e=>by
  cases qs with
  | nil=>simp[lexD,lTs] at e ⊢;simp[e]
  | cons q qs=>
   unfold lexD at e;unfold lTs
   split at e
   ·rename_i z;rw[if_pos z];exact lexD_lT ps e
   ·rename_i z;rw[if_neg z];exact ltD_lT p e
end
theorem purs_mem:∀{ps:List PV},purs ps=true->∀p∈ps,pur p=true
 | [],_,p,hp=>by cases hp
 | q::ps,h,p,hp=>by
  unfold purs at h;rw[Yd] at h
  rcases Yn.mp hp with rfl | hp
  ·exact h.1
  ·exact purs_mem h.2 p hp
theorem oP_eq {ps:List PV}(h1:1<=ps.length)(hc:cmpAll ps=true)(i j:Nat):oP ps i j=lT (ps.getD (min i (ps.length - 1)) .non) (ps.getD (min j (ps.length - 1)) .non):=by
 have mi:=Zb2 (ps:=ps) (i:=min i (ps.length - 1)) 1e3
 have mj:=Zb2 (ps:=ps) (i:=min j (ps.length - 1)) 1e3
 obtain ⟨c,e⟩:=WW.mp (Yt.mp (Yt.mp hc _ mi) _ mj)
 unfold oP;rw[e];exact ltD_lT _ e
theorem wk_of {ps:List PV}(h1:1<=ps.length)(hc:cmpAll ps=true)(hp:purs ps=true):Wk (oP ps):=by
 have P:∀i,pur (ps.getD (min i (ps.length - 1)) .non)=true:=fun i=>purs_mem hp _ (Zb2 1e3)
 have irr:∀a,oP ps a a=false:=fun a=>by rw[oP_eq h1 hc];exact lT_irr _ (P a)
 have asy:∀a b,oP ps a b=true->oP ps b a=false:=fun a b h=>by
  rw[oP_eq h1 hc] at h ⊢
  cases e:lT (ps.getD (min b (ps.length - 1)) .non) (ps.getD (min a (ps.length - 1)) .non) with
  | false=>rfl
  | true=>
   have t:=lT_tr _ (P a) (P b) (P a) h e
   rw[lT_irr _ (P a)] at t;cases t
 refine ⟨irr,asy,fun a b c h2 h3=>?_⟩
 rw[oP_eq h1 hc] at h2 h3 ⊢
 cases e:lT (ps.getD (min c (ps.length - 1)) .non) (ps.getD (min a (ps.length - 1)) .non) with
 | false=>rfl
 | true=>
  cases e2:lT (ps.getD (min a (ps.length - 1)) .non) (ps.getD (min b (ps.length - 1)) .non) with
  | true=>rw[lT_tr _ (P c) (P a) (P b) e e2] at h3;cases h3
  | false=>rw[lT_tri _ (P a) (P b) e2 h2] at e;rw[e] at h3;cases h3
theorem ZbI (ps:List PV):(Yg ps.length).map (fun i=>ps.getD i .non)=ps:=by
 apply WI
 intro i
 rw[YK]
 by_cases hi:i < ps.length
 ·rw[List.getElem?_range hi];simp[hi]
 ·rw[X7 (by simp;lia),X7 1e3];rfl
theorem sortL_perm {ps:List PV}(hc:cmpAll ps=true)(hp:purs ps=true):(sortL ps).Perm ps:=by
 unfold sortL perm
 split
 ·rw[ZbI]
 ·rename_i h2
  have S:=(sort_ok (wk_of 1e3 hc hp) (n:=ps.length) 1e3).1
  have:=(WJ.mp S).map fun i=>ps.getD i .non
  rw[show (WE (Yg ps.length)).toList=Yg ps.length by simp,ZbI] at this
  exact this
end Pu
namespace Pu
open PySem PySem.W PySem.Calls
open PyProof.Rows hiding St Fr
def RawD (h:Heap)(d:Addr)(es:Array WB)(ep:Nat):Prop:=∃o,h.get? d=some o/\o.ExactDict/\o.data=.dict es ep
section
variable {prog:Yq}{w:World}{A:Around}{E:1e4}{s:Shared}{d it:Addr}{es:Array WB}{ep i:Nat}
theorem RawD.at {h h':Heap}(x:RawD h d es ep)(e:∀o,h.get? d=some o->h'.get? d=some o):RawD h' d es ep:=let ⟨o,ho,r⟩:=x;⟨o,e _ ho,r⟩
theorem RawD.ty (x:RawD s.heap d es ep):s.TypeIs (.ref d) "dict":=let ⟨o,ho,hc,_⟩:=x;⟨o,ho,hc.1⟩
theorem RawD.lt {h:Heap}(x:RawD h d es ep):d < h.objs.size:=let ⟨_,ho,_⟩:=x;Ys ho
theorem raw_iter {Q:1e4}(lo:(d==XH)=false)(hm:RawD s.heap d es ep)
  (q:Q (.ref s.heap.objs.size) { s with heap:=s.heap.push { cls:=.type "dict_keyiterator",data:=.fields #[.ref d,.int 0 0,.int es.size 0,.int ep 0] } }):wpAny (model prog w) A (pyIter (.ref d)) Q E s:=by
 obtain ⟨o1,b1,b2,b3⟩:=id hm
 have shows:Builtin.Dict.showsAll d=pure ():=by delta Builtin.Dict.showsAll;simp only[lo];rfl
 have own:∀{P:1e4} {B:1e4} {A':Around},P (.ref d) s->wpAny 3e9 A' (Builtin.Dict.dictSlotNone "__iter__" ⟨[.ref d],[]⟩) P B s:=fun z=>by
  delta Builtin.Dict.dictSlotNone
  exact Yb (wpAny_notOrdered_dict hm.ty (Ye z))
 apply wpAny_pyIter_slot hm.ty F.slot_dict_iter
 apply XO F.slot_dict_iter hm.ty F.entry_dict_iter _ (F.args_dict_iter_1 _)
 delta V5.«dict.__iter__»
 apply Yb
 apply own
 repeat first
  | refine wpAny_of_eq shows ?_
  | refine wpAny_dictEntries b1 b3 ?_
  | refine wpAny_dictEpoch b1 b3 ?_
  | refine XA ?_
  | apply Yb
  | apply Ye
 exact ⟨_,rfl,"dict_keyiterator",_,⟨_,Yp _ rfl,rfl⟩,Wy.lookup,by simpa[rawInt] using q⟩
theorem raw_next {Q:Option Value->Shared->Prop}(hh:es[i]? = none->A.handled=none)(hit:s.heap.IsKeyIter it d i es.size ep)(hm:RawD s.heap d es ep)
  (q1:∀e,es[i]? = some e->∀h',h'.IsKeyIter it d (i + 1) es.size ep->XF it s.heap h'->Q (some e.key) { s with heap:=h' })
  (q2:es[i]? = none->∀h',Heap.ExtBut it s.heap h'->Q none { s with heap:=h' }):wpAny (model prog w) A (pyNext (.ref it)) Q E s:=by
 obtain ⟨o1,a1,a2,a3⟩:=id hit
 obtain ⟨o2,b1,b2,b3⟩:=hm
 have one:Builtin.Dict_items.ownsTuple "dict_keyiterator"=false:=by decide
 have there:(Yy d==Xj)=false:=rfl
 delta pyNext
 apply Yb
 apply wpAny_attempt
 apply XU (name:=Vn "__next__") hit.typeIs Wy
 apply XO Wy hit.typeIs F.entry_dict_keyiterator_next _ (F.args_dict_keyiterator_next_1 _)
 repeat first
  | refine Wt hit.typeIs ?_
  | refine wpAny_fieldsOf a1 a3 ?_
  | refine wpAny_dictEntries b1 b3 ?_
  | refine wpAny_dictEpoch b1 b3 ?_
  | simp only[one,there,bne_self_eq_false,YY,if_false]
  | apply Yb
  | apply Ye
 have up:¬(i:Int) < 0:=by lia
 simp only[up,if_false,XY]
 cases hx:es[i]? with
 | some e=>
  have on:(s.heap.update it (Obj.mapFields (·.setIfInBounds 1 (rawInt ((i:Int) + 1))))).IsKeyIter it d (i + 1) es.size ep:=⟨_,WA _ a1 (Obj.isFreed_of_fields (Vb a3 _)),(Obj.cls_mapFields ..).trans a2,by rw[Vb a3];simp[rawInt]⟩
  have ty:({ s with heap:=s.heap.update it (Obj.mapFields (·.setIfInBounds 1 (rawInt ((i:Int) + 1)))) }:Shared).TypeIs (.ref it) "dict_keyiterator":=Heap.IsKeyIter.typeIs on
  dsimp only
  repeat first
   | refine Wt hit.typeIs ?_
   | refine wpAny_isOneOf_keyiter hit.typeIs ?_
   | refine wpAny_isOneOf_keyiter ty ?_
   | simp only[one,YY,if_false,X5]
   | refine VX a1 a3 (by simp) ?_
   | apply Xh
   | apply Yb
   | apply Ye
  exact ⟨_,rfl,Ye (q1 e hx _ on (XD ..))⟩
 | none=>
  have calm:A.in1.handled=none:=hh hx
  dsimp only
  repeat first
   | refine Wt hit.typeIs ?_
   | simp only[one,YY,if_false,X5]
   | refine VX a1 a3 (by simp) ?_
   | refine wpAny_alloc' ?_
   | refine wpAny_raiseNew_none calm ?_
   | apply Yb
   | apply Ye
  refine wpAny_loadPart (Yp _ rfl) (Ye ?_)
  have stop:isSubtype (.type "StopIteration") (.type "StopIteration")=pure true:=isSubtype_stop
  dsimp only
  rw[stop]
  exact Ye (Ye (q2 hx _ (((XD ..).extBut.push _).push _)))
theorem raw_item {e:WB}{Q:Option Value->Shared->Prop}(hit:s.heap.IsKeyIter it d i es.size ep)(hm:RawD s.heap d es ep)(hx:es[i]? = some e)
  (q:∀h',h'.IsKeyIter it d (i + 1) es.size ep->XF it s.heap h'->Q (some e.key) { s with heap:=h' }):wpAny (model prog w) A (pyNext (.ref it)) Q E s:=
 raw_next (fun z=>by rw[hx] at z;cases z) hit hm (fun e' z=>by rw[hx] at z;cases z;exact q) fun z=>by rw[hx] at z;cases z
theorem raw_end {Q:Option Value->Shared->Prop}(hh:A.handled=none)(hit:s.heap.IsKeyIter it d i es.size ep)(hm:RawD s.heap d es ep)(hx:es.size<=i)
  (q:∀h',Heap.ExtBut it s.heap h'->Q none { s with heap:=h' }):wpAny (model prog w) A (pyNext (.ref it)) Q E s:=
 raw_next (fun _=>hh) hit hm (fun e' z=>by rw[Y2 hx] at z;cases z) fun _=>q
theorem raw_walks (hh:A.handled=none)(I:Addr)(hne:d≠I):
  Walks prog w A I [I,d] [I] es.size (fun i v=>∃e,es[i]? = some e/\v=e.key) (fun i h=>h.IsKeyIter I d i es.size ep/\RawD h d es ep) where
 sub:=fun b hb=>by rw[YD.mp hb];exact Xr
 frame:=fun _ _ _ st hk=>⟨st.1.at (hk I (.head _)),st.2.at (hk d (.tail _ (.head _)))⟩
 item:=fun i s Q E hi st hQ=>by
  have hx:es[i]? = some es[i]:=Yx hi
  exact raw_item st.1 st.2 hx fun h' k2 sb=>hQ _ h' s.toks ⟨_,hx,rfl⟩ ⟨k2,st.2.at fun o e=>sb.extBut d o hne e⟩ fun b o hb e=>sb.extBut b o (fun z=>hb (YD.mpr z)) e
 done:=fun s Q E st hQ=>raw_end hh st.1 st.2 (Yk _) fun h' x=>hQ h' s.toks fun b o hb e=>x b o (fun z=>hb (YD.mpr z)) e
 self:=fun _ _ _ _ st hQ=>wpAny_pyIter_keyiter st.1 hQ
theorem raw_src (lo:(d==XH)=false):KdlSrc prog w "dict" d d es.size (fun i v=>∃e,es[i]? = some e/\v=e.key) (fun h=>RawD h d es ep) where
 type:=fun _ hm=>hm.ty
 there:=fun _ hm=>⟨hm.lt,hm.lt⟩
 keep:=fun _ _ hm hk=>hm.at (hk d (.inl rfl))
 notList:=by decide
 notTuple:=by decide
 hint:=fun _ _ _ _ hm hq=>kdl_hint_dict hm.ty hq
 iter:=fun _ _ hh hm=>⟨_,_,fun _ _ hq=>raw_iter lo hm hq,raw_walks hh _ (Yo hm.lt),⟨_,Yp _ rfl,rfl,rfl⟩,hm.at fun o e=>Yc _ e⟩
end
section
variable {prog:Yq}{w:World}{A:Around}{E:1e4}{s:Shared}{T:String}{r d:Addr}{n:Nat}{P:Nat->Value->Prop}{OK:Heap->Prop}
theorem ext_src {R:Result->Shared->Prop}(K:KdlSrc prog w T r d n P OK)(hh:A.handled=none)(hok:OK s.heap)(S:Addr)(hSr:S≠r)(hSd:S≠d)(c₀:Nat)(hS:s.heap.get? S=some { cls:=.type "list",data:=.seq #[] c₀ })(hn:n<=Yu)
  (hR:∀h' tk acc c,(∀b o,b≠S->s.heap.get? b=some o->h'.get? b=some o)->h'.get? S=some { cls:=.type "list",dict:=none,data:=.seq acc c,slots:=#[] }->ItemsOf P acc n->R (.ok (.ret (.ref S))) { s with heap:=h',toks:=tk }):
  Uf 3e9 A (.builtin "list.__iadd__" ⟨[.ref S,.ref r],[]⟩) R s:=by
 refine Wg entry_list_iadd' ?_
 rw[Vt (show plainId "list.__iadd__"=true by decide +kernel) _]
 exact kdl_extend K hh hok S hSr hSd (.ref S) c₀ hS hR hn
theorem Zc6 {Q:List Value->Shared->Prop}(K:KdlSrc prog w T r d n P OK)(hh:A.handled=none)(hok:OK s.heap)(hn:n<=Yu)
  (h:∀h' tk acc,(∀b o,s.heap.get? b=some o->h'.get? b=some o)->s.heap.objs.size<=h'.objs.size->ItemsOf P acc n->Q acc.toList { s with heap:=h',toks:=tk }):wpAny (model prog w) A (collect (.ref r)) Q E s:=by
 unfold collect
 refine Yb (VW (Wg entry_proto_collect' ?_))
 refine Yb (Vd (Ye ⟨VR _ (by decide +kernel),?_⟩))
 have hS:(s.heap.push (seqObj "list" #[] 0)).get? s.heap.objs.size=some { cls:=.type "list",data:=.seq #[] 0 }:=Yp _ rfl
 have hlt:=K.there _ hok
 refine ext_src (s:={ s with heap:=s.heap.push (seqObj "list" #[] 0) }) K hh (K.keep _ _ hok fun b _ o e=>Yc _ e) s.heap.objs.size (X3 hlt.1) (X3 hlt.2) 0 hS hn fun h' tk acc c k e ai=>?_
 refine Yb (wpAny_load e ?_)
 exact Ye (h h' tk acc (fun b o z=>k b o (Yo (Ys z)) (Yc _ z)) (Wi (Ys e)) ai)
end
section
variable {prog:Yq}{w:World}{A:Around}{E:1e4}{s:Shared}{vs:3e5}{κ:V7}{o:Nat->Nat->Bool}
theorem Zca {v:Value}{Q:1e4}(hcol:∀(Q':List Value->Shared->Prop),(∀h1 tk,(∀b u,s.heap.get? b=some u->h1.get? b=some u)->s.heap.objs.size<=h1.objs.size->Q' vs { s with heap:=h1,toks:=tk })->wpAny (model prog w) A.in1 (collect v) Q' E s)(h64:vs.length < 64)
  (hk:2<=vs.length->∀h' tk,(∀b u,s.heap.get? b=some u->h'.get? b=some u)->∀Q:V7->Shared->Prop,Q κ { s with heap:=h',toks:=tk }->wpAny (model prog w) A.in1.in1 (keyKind' vs.toArray) Q (fun _ _=>False) { s with heap:=h',toks:=tk })
  (hc:2<=vs.length->∀h' tk,(∀b u,s.heap.get? b=some u->h'.get? b=some u)->∀i j (C:Bool->Shared->Prop),i < vs.length->j < vs.length->C (o i j) { s with heap:=h',toks:=tk }->kas_ask prog w A.in1.in1 κ vs i j C { s with heap:=h',toks:=tk })
  (h:∀D h' tk c,s.heap.objs.size<=D->(∀b u,s.heap.get? b=some u->h'.get? b=some u)->h'.get? D=some (seqObj "list" (outs2 o vs).toArray c)->Q (.ref D) { s with heap:=h',toks:=tk }):
  wpAny 3e9 A (call (.builtin "sorted") [v]) Q E s:=by
 refine Calls.call_function_entry kind_sorted plain_sorted entry_sorted (args_sorted1 _) ?_
 unfold V5.«sorted»
 refine Yb (m:=checkCount "sorted" 1 1 _) (Ye ?_);refine Yb (hcol _ fun h1 tk kp hle=>?_)
 refine Yb (Vd ?_ (by rw[YS];lia))
 have hoL:(h1.push (seqObj "list" vs.toArray 0)).get? h1.objs.size=some (seqObj "list" vs.toArray 0):=Yp _ rfl
 have keep:∀b u,s.heap.get? b=some u->(h1.push (seqObj "list" vs.toArray 0)).get? b=some u:=fun b u e=>Yc _ (kp b u e)
 have kb:∀h',KeepBut h1.objs.size (h1.push (seqObj "list" vs.toArray 0)) h'->∀b u,s.heap.get? b=some u->h'.get? b=some u:=fun h' k b u e=>
  k b u (Yo (Yv (Ys e) hle)) (keep b u e)
 show wpAny _ _ _ _ _ { s with heap:=h1.push (seqObj "list" vs.toArray 0),toks:=tk }
 refine Yb (Xh (XO slot_list_sort ⟨_,hoL,rfl⟩ entry_list_sort ?body (args_list_sort _)))
 case body=>
  by_cases h2:vs.length < 2
  ·refine lsort_few (s:={ s with heap:=h1.push (seqObj "list" vs.toArray 0),toks:=tk }) hoL h2 fun h' c k e=>⟨_,rfl,Ye ⟨_,rfl,h _ h' tk c hle (kb h' k) ?_⟩⟩
   unfold outs2;rw[if_pos h2];exact e
  ·refine lsort_at (s:={ s with heap:=h1.push (seqObj "list" vs.toArray 0),toks:=tk }) (κ:=κ) (o:=o) hoL (by lia) h64 (fun h' k=>hk (by lia) h' tk (kb h' k)) (fun h' k=>hc (by lia) h' tk (kb h' k)) fun h' c k e=>⟨_,rfl,Ye ⟨_,rfl,h _ h' tk c hle (kb h' k) ?_⟩⟩
   unfold outs2;rw[if_neg h2];exact e
end
end Pu
namespace Pu
open PySem PySem.Spec PySem.W PySem.Calls L2 PySem.SeqAt
open PyProof.Rows hiding St Fr
def tupK (k:List Key):PV:=.tup (k.map kP)
noncomputable def keyOk:Key->Bool
 | .inl _=>true
 | .inr x=>decide (x.length<=1000)
def keysOk (ks:List (List Key)):Bool:=ks.all fun k=>k.all keyOk
theorem rep_kP {K:W.Frag}{ι:3e1}{H:Hp}:∀{k:Key},keyOk k=true->Rep K ι H (kP k) (kV k)
 | .inl i,_=>repI
 | .inr x,h=>repS (k1000 (of_decide_eq_true h))
theorem reps_kP {K:W.Frag}{ι:3e1}{H:Hp}:∀{k:List Key},k.all keyOk=true->Reps K ι H (k.map kP) (k.map kV)
 | [],_=>.nil
 | x::k,h=>by
  rw[Y9,Yd] at h
  exact .cons (rep_kP h.1) (reps_kP h.2)
theorem rep_tupK {K:W.Frag}{ι:3e1}{H:Hp}{k:List Key}{b:Addr}(h:k.all keyOk=true)(e:H b=some (.tup (k.map kV))):Rep K ι H (tupK k) (.ref b):=by
 unfold tupK Rep;exact ⟨b,_,rfl,e,reps_kP h⟩
theorem kt_reps {K:W.Frag}{ι:3e1}{H:Hp}{kvs:List (List Key×V)}{xs:List (List Key×Addr×Value)}(r:KT H kvs xs)(h:keysOk (kvs.map (·.1))=true):Reps K ι H (kvs.map fun q=>tupK q.1) (xs.map fun x=>V.ref x.2.1):=by
 induction r with
 | nil=>exact .nil
 | @cons p q ps qs a t ih=>
  rw[YO] at h
  unfold keysOk at h
  rw[Y9,Yd] at h
  exact .cons (rep_tupK h.1 a.2.1) (ih h.2)
theorem ZcE:∀(xs:List (List Key×Addr×Value)),Vals (xs.map fun x=>V.ref x.2.1) (xs.map fun x=>Yy x.2.1)
 | []=>.nil
 | x::xs=>.cons rfl (ZcE xs)
theorem items_raw {xs:List (List Key×Addr×Value)}{es:Array WB}{prog:Yq}{w:World}{acc:Array Value}(he:es.toList=xs.map (entryOfKey (WK (mixKind prog w))))(h:ItemsOf (fun i v=>∃e,es[i]? = some e/\v=e.key) acc es.size):acc.toList=xs.map fun x=>Yy x.2.1:=by
 have hl:es.size=xs.length:=size_of_entries he
 apply WI
 intro i
 rw[Xl,YK]
 by_cases hi:i < acc.size
 ·obtain ⟨e,e1,e2⟩:=h.2 i _ (Yx hi)
  rw[Yx hi,e2]
  rw[entry_at he] at e1
  cases hx:xs[i]? with
  | none=>rw[hx] at e1;cases e1
  | some x=>rw[hx] at e1;cases e1;rfl
 ·rw[Y2 1e3,X7 (by have:=h.1;lia)];rfl
section
variable {X:Cx}
def rSortedD (K:W.Frag):List V->Hp->VK->Prop:=fun xs H Q=>∃p kvs,xs=[.ref p]/\Rd H p (.dT kvs)/\keysOk (kvs.map (·.1))=true/\(sortP (kvs.map fun q=>tupK q.1)).isSome=true/\
 ∀ys:List V,(∀ι,Reps K ι H (kvs.map fun q=>tupK q.1) ys)->∀l,H l=none->Q (.ref l) (upd H l (.lst (sortV (kvs.map fun q=>tupK q.1) ys)))
theorem call_sortedD (hcm:X.calm=true)(hu:X.A.units + 64 < cLine):CallR X (.builtin "sorted") (rSortedD X.K):=by
 intro pins s σ H xs us Q I r h
 obtain ⟨p,kvs,rfl,hq,hko,hs,q⟩:=h
 obtain ⟨u,rfl,rx⟩:=vals1 r
 cases rx
 obtain ⟨hz,lo,xs,kt,o,es,ep,ho,hex,hda,he,his,hnd⟩:=dt_rd I.hok hq
 have hl:es.size=xs.length:=size_of_entries he
 have hkl:kvs.length=xs.length:=Vv kt
 generalize hps:(kvs.map fun q=>tupK q.1)=ps at hs q
 have hpl:ps.length=kvs.length:=by rw[←hps,Yr]
 have rs:∀ι,Reps X.K ι H ps (xs.map fun x=>V.ref x.2.1):=fun ι=>by rw[←hps];exact kt_reps kt hko
 unfold sortP at hs
 split at hs
 ·rename_i hh
  simp only[Yd,decide_eq_true_eq] at hh
  obtain ⟨⟨⟨⟨hd,hde⟩,h64⟩,hso⟩,hcm'⟩:=hh
  have hr:=Reps.heap I ps (rs []) (ZcE xs) hd
  have hvl:(xs.map fun x=>Yy x.2.1).length=ps.length:=by rw[Yr];lia
  refine Zca (vs:=xs.map fun x=>Yy x.2.1) (κ:=kindP ps) (o:=oP ps) (fun Q' q'=>?_) 1e3 (fun h2 h' tk k Q' q'=>?_) (fun h2 h' tk k i j C hi hj hC=>?_) (fun D h' tk c hD k e=>?_)
  ·refine Zc6 (raw_src (es:=es) (ep:=ep) lo) (I.ok.hd hcm) ⟨o,ho,hex,hda⟩ (by rw[YS];lia) fun h' tk acc k hle ai=>?_
   rw[items_raw he ai]
   exact q' h' tk k hle
  ·exact kind_of (s:={ s with heap:=h',toks:=tk }) (hr.keep k) h2 hso q'
  ·exact ask_of (s:={ s with heap:=h',toks:=tk }) (hr.keep k) hso hcm' (by rw[YU,YU];lia) hi hj hC
  ·rw[Zcw hvl.symm] at e
   refine ⟨.ref D,_,I.laid (t':=tk) k hD (show ObjOk X.prog X.w _ h' _ (.lst (sortV ps (xs.map fun x=>V.ref x.2.1))) from ⟨?_,sortU ps (xs.map fun x=>Yy x.2.1),c,?_,e⟩),rfl,q _ rs _ (I.hok.fresh hD)⟩
   ·unfold sortV
    rw[Yr]
    have:(perm ps).length<=64:=by
     unfold perm
     split
     ·rw[Vj];lia
     ·rw[YH,(Zdb (o:=oP ps) (Wp ps.length) (Zcb 1e3)).2.1];lia
    exact YG this (by rw[YS];decide)
   ·exact ZbQ (ZcE xs) fun i hi=>by have:=Zbz i hi;lia
 ·cases hs
theorem collect_tup {prog:Yq}{w:World}{A:Around}{E:1e4}{s:Shared}{l:Addr}{vs:3e5}{Q:List Value->Shared->Prop}(ht:s.heap.IsTuple l vs.toArray)(hsz:vs.length<=Yu)
  (h:∀h',(∀b o,s.heap.get? b=some o->h'.get? b=some o)->s.heap.objs.size<=h'.objs.size->Q vs { s with heap:=h' }):wpAny (model prog w) A (collect (.ref l)) Q E s:=by
 obtain ⟨o,ho,hc,n,hd⟩:=ht
 have new:(s.heap.push (seqObj "list" #[] 0)).get? s.heap.objs.size=some (seqObj "list" #[] 0):=Yp _ rfl
 have hk:=Yc (seqObj "list" #[] 0) ho
 unfold collect
 refine Yb (VW (Wg entry_proto_collect' (Yb (Vd (Ye ⟨VR _ (by decide +kernel),Wg entry_list_iadd' ?_⟩)))))
 show wpAny _ _ (VC (.ref s.heap.objs.size) (.ref l) (.ref s.heap.objs.size)) _ _ { s with heap:=s.heap.push (seqObj "list" #[] 0) }
 unfold VC
 refine Yb (VM (T:="tuple") ⟨o,hk,hc⟩ ?_)
 have yes:(Builtin.List.listSameRef (.ref s.heap.objs.size) (.ref l)||X1 "tuple"==X1 "list"||X1 "tuple"==X1 "tuple")=true:=by rw[show (X1 "tuple"==X1 "tuple")=true by rfl,Bool.or_true]
 rw[if_pos yes]
 refine Yb (Uq hk hd (Yb (Uq new rfl ?_)))
 rw[if_neg 3e4];refine Yb (Vx new rfl ?_ (YT _) (by show (#[]++vs.toArray).size<=Yu + 1;simp;lia))
 have e2:=Vc new (fun a=>a++vs.toArray)
 refine Ye (Yb (wpAny_load e2 ?_))
 show wpAny _ _ (pure ((#[]:Array Value)++vs.toArray).toList) Q E _
 rw[show ((#[]:Array Value)++vs.toArray).toList=vs by simp]
 refine Ye (h _ (fun b u e=>?_) ?_)
 ·rw[XZ _ _ _ _ (Yo (Ys e))];exact Yc _ e
 ·rw[Heap.size_update,size_push'];lia
def rSortedT (K:W.Frag):List V->Hp->VK->Prop:=fun xs H Q=>∃p ys ι ps,xs=[.ref p]/\SqT K H p ys/\Reps K ι H ps ys/\(sortP ps).isSome=true/\∀l,H l=none->Q (.ref l) (upd H l (.lst (sortV ps ys)))
theorem call_sortedT (hu:X.A.units + 64 < cLine):CallR X (.builtin "sorted") (rSortedT X.K):=by
 intro pins s σ H xs us Q I r h
 obtain ⟨p,ys,ι,ps,rfl,hq,rs,hs,q⟩:=h
 obtain ⟨u,rfl,rx⟩:=vals1 r
 cases rx
 obtain ⟨its,r',pl,hz⟩:=I.tuple hq
 unfold sortP at hs
 split at hs
 ·rename_i hh
  simp only[Yd,decide_eq_true_eq] at hh
  obtain ⟨⟨⟨⟨hd,hde⟩,h64⟩,hso⟩,hcm⟩:=hh
  have hr:=Reps.heap I ps rs r' hd
  have hl:=hr.length
  have hyl:=r'.length
  refine Zca (vs:=its) (κ:=kindP ps) (o:=oP ps) (fun Q' q'=>collect_tup pl (by rw[YS];lia) fun h' k hle=>q' h' s.toks k hle) 1e3 (fun h2 h' tk k Q' q'=>?_) (fun h2 h' tk k i j C hi hj hC=>?_) (fun D h' tk c hD k e=>?_)
  ·exact kind_of (s:={ s with heap:=h',toks:=tk }) (hr.keep k) h2 hso q'
  ·exact ask_of (s:={ s with heap:=h',toks:=tk }) (hr.keep k) hso hcm (by rw[YU,YU];lia) hi hj hC
  ·rw[Zcw hl] at e
   refine ⟨.ref D,_,I.laid (t':=tk) k hD (show ObjOk X.prog X.w _ h' _ (.lst (sortV ps ys)) from ⟨?_,sortU ps its,c,?_,e⟩),rfl,q _ (I.hok.fresh hD)⟩
   ·unfold sortV
    rw[Yr]
    have:(perm ps).length<=64:=by
     unfold perm
     split
     ·rw[Vj];lia
     ·rw[YH,(Zdb (o:=oP ps) (Wp ps.length) (Zcb 1e3)).2.1];lia
    exact YG this (by rw[YS];decide)
   ·exact ZbQ r' fun i hi=>by have:=Zbz i hi;lia
 ·cases hs
def sortedH2 (C:Cs):List SV->Option 6e2
 | [x]=>match deref C x with
  | some (.lst xs)=>sortP xs
  | some (.tup xs)=>sortP xs
  | some (.dtt ks _)=>if keysOk ks then sortP (ks.map tupK) else none
  | _=>none
 | _=>none
def mSorted2 (fs:2e8):PSt->M 6e2:=fun ρ=>bnd (fs ρ) fun xs=>opM fun C=>sortedH2 C xs
theorem fm_sorted2 {e:Expr}{es:4e8}{fs:2e8}{p pos:Pos}(hcm:X.calm=true)(hu:X.A.units + 64 < cLine)(hgl:Gl X "sorted")(hm:X.mg "sorted"=none)(hv:Xe "sorted"=some (.builtin "sorted"))(ha:AM X 5e1 fs)
  (he:1e9:=by rfl) (hpl:4e5:=by rfl):FM X (.Call (.Name "sorted" p) 5e1 [] pos) (mSorted2 fs):=
 PE.imp (pe_callB ((call_sorted hu).or ((call_sortedT hu).or (call_sortedD hcm hu))) hgl hm hv ha 2e4 2e4 he hpl) fun σ H Q h_=>by
  obtain ⟨ι,ρ,C,z,C',sr,e,q⟩:=h_
  obtain ⟨xs,C1,e1,e⟩:=Zai e
  obtain ⟨e2,rfl⟩:=ZaJ e
  refine ⟨ι,ρ,C,xs,_,sr,e1,fun vs H1 f1 c1 r1=>?_⟩
  unfold sortedH2 at e2
  split at e2
  ·rename_i x
   obtain ⟨v,w,rfl,r1,hw⟩:=r1
   cases (show w=[] from hw)
   split at e2
   ·rename_i ps hd
    obtain ⟨a,ws,rfl,h1,r2⟩:=liesL (r1.lies c1 hd)
    refine .inl ⟨a,ws,ι,ps,rfl,h1,r2,by rw[e2];rfl,fun l hl=>?_⟩
    refine q l _ H1 f1 c1 hl ?_
    rw[Zcv e2]
    exact ZbW r2 fun i hi=>Zbz i hi
   ·rename_i ps hd
    obtain ⟨a,ws,rfl,h1,r2⟩:=liesT (r1.lies c1 hd)
    refine .inr (.inl ⟨a,ws,ι,ps,rfl,h1.sq,r2,by rw[e2];rfl,fun l hl=>?_⟩)
    refine q l _ H1 f1 c1 hl ?_
    rw[Zcv e2]
    exact ZbW r2 fun i hi=>Zbz i hi
   ·rename_i ks ps hd
    have li:=r1.lies c1 hd
    cases li with
    | @dtt a _ _ ws h1 hl r2=>
     by_cases hk:keysOk ks=true
     ·rw[if_pos hk] at e2
      have ek:((ks.zip ws).map fun q=>tupK q.1)=ks.map tupK:=by
       have:(ks.zip ws).map UC=ks:=WT 1e3
       exact (Xb (f:=UC) (g:=tupK) (l:=ks.zip ws)).symm.trans (by rw[this])
      have ef:(ks.zip ws).map (·.1)=ks:=WT 1e3
      refine .inr (.inr ⟨a,ks.zip ws,rfl,h1,by rw[ef];exact hk,by rw[ek,e2];rfl,fun ys ry l hl=>?_⟩)
      refine q l _ H1 f1 c1 hl ?_
      rw[Zcv e2,ek]
      have ry':=ry ι
      rw[ek] at ry'
      exact ZbW ry' fun i hi=>Zbz i hi
     ·rw[if_neg hk] at e2;cases e2
   ·cases e2
  ·cases e2
end
noncomputable def inK {κ:Type} [DecidableEq κ](k:κ)(ks:List κ):Bool:=ks.any fun a=>decide (a=k)
def putKs {κ:Type} [DecidableEq κ](ks:List κ)(k:κ):List κ:=if inK k ks then ks else ks++[k]
def putVs {κ:Type} [DecidableEq κ]{α:Type}(ks:List κ)(xs:List α)(k:κ)(x:α):List α:=if inK k ks then (ks.zip xs).map (fun q=>if q.1=k then x else q.2) else xs++[x]
theorem inK_iff {κ:Type} [DecidableEq κ]{k:κ}{ks:List κ}:inK k ks=true↔k∈ks:=by
 unfold inK;rw[List.any_eq_true]
 constructor
 ·rintro ⟨a,h,e⟩;rw[←of_decide_eq_true e];exact h
 ·intro h;exact ⟨k,h,decide_eq_true rfl⟩
theorem ZcD {κ:Type} [DecidableEq κ]{k:κ}{v:V}:∀{ks:List κ} {vs:List V},ks.length=vs.length->((ks.zip vs).map fun kv=>if kv.1=k then (kv.1,v) else kv)=ks.zip ((ks.zip vs).map fun q=>if q.1=k then v else q.2)
 | [],vs,_=>by simp
 | a::ks,[],h=>by simp at h
 | a::ks,b::vs,h=>by
  rw[Xn,YO,YO,Xn,ZcD (by simpa using h)]
  by_cases e:a=k
  ·simp[e]
  ·simp[e]
theorem zip_any {κ:Type} [DecidableEq κ]{k:κ}:∀{ks:List κ} {vs:List V},ks.length=vs.length->((ks.zip vs).any fun kv=>decide (kv.1=k))=inK k ks
 | [],vs,_=>by simp[inK]
 | a::ks,[],h=>by simp at h
 | a::ks,b::vs,h=>by
  rw[Xn,XE,zip_any (by simpa using h)]
  unfold inK;rw[XE]
theorem put_zip {κ:Type} [DecidableEq κ]{k:κ}{v:V}{ks:List κ}{vs:List V}(h:ks.length=vs.length):putK (ks.zip vs) k v=(putKs ks k).zip (putVs ks vs k v)/\(putKs ks k).length=(putVs ks vs k v).length:=by
 unfold putK putKs putVs
 rw[zip_any h]
 cases e:inK k ks with
 | true=>
  simp only[if_true]
  refine ⟨ZcD h,?_⟩
  rw[Yr,Us];lia
 | false=>
  simp only[YY,if_false]
  refine ⟨?_,by simp[h]⟩
  rw[List.zip_append h];rfl
theorem reps_put {κ:Type} [DecidableEq κ]{K:W.Frag}{ι:3e1}{H:Hp}{k:κ}{p:PV}{v:V}(hp:Rep K ι H p v){ks:List κ}{ps:List PV}{vs:List V}(r:Reps K ι H ps vs):Reps K ι H (putVs ks ps k p) (putVs ks vs k v):=by
 unfold putVs
 by_cases e:inK k ks=true
 ·rw[if_pos e,if_pos e]
  clear e
  induction ks generalizing ps vs with
  | nil=>simp;exact .nil
  | cons a ks ih=>
   cases ps with
   | nil=>rw[r.inv0];simp;exact .nil
   | cons q ps=>
    obtain ⟨w,ws,rfl,h1,h2⟩:=r.inv
    rw[Xn,Xn,YO,YO]
    refine .cons ?_ (ih h2)
    by_cases z:a=k
    ·simp only[z,if_true];exact hp
    ·simp only[z,if_false];exact h1
 ·rw[if_neg e,if_neg e];exact r.append (.cons hp .nil)
def keysP:List PV->Option (List Key)
 | []=>some []
 | p::r=>match keyP p,keysP r with
  | some k,some ks=>some (k::ks)
  | _,_=>none
section
variable {K:W.Frag}{ι:3e1}{H:Hp}
theorem rep_key {x:PV}{v:V}{q:Key}(l:Rep K ι H x v)(h:keyP x=some q):v=kV q:=lies_key (Rep.lies l) h
theorem ZcM:∀{qs:List PV} {ws:List V} {k:List Key},Reps K ι H qs ws->keysP qs=some k->ws=k.map kV
 | [],ws,k,r,e=>by cases e;exact r.inv0
 | p::qs,ws,k,r,e=>by
  obtain ⟨v,w,rfl,h1,h2⟩:=r.inv
  unfold keysP at e
  split at e
  ·rename_i a b e1 e2
   cases e
   rw[rep_key h1 e1,ZcM h2 e2];rfl
  ·cases e
theorem rep_tupKeys {qs:List PV}{k:List Key}{v:V}(r:Rep K ι H (.tup qs) v)(e:keysP qs=some k):∃b,v=.ref b/\H b=some (.tup (k.map kV)):=by
 unfold Rep at r
 obtain ⟨b,ws,rfl,h,rs⟩:=r
 rw[ZcM rs e] at h
 exact ⟨b,rfl,h⟩
end
noncomputable def lookT:List (List Key)->List PV->List Key->Option PV
 | k::ks,v::vs,q=>if k=q then some v else lookT ks vs q
 | _,_,_=>none
def inTP (neg:Bool)(x y:PV):Option PV:=match x,y with
 | .tup qs,.dtt ks _=>match keysP qs with
  | some k=>some (.bl (if neg then !inK k ks else inK k ks))
  | none=>none
 | _,_=>none
section
variable {X:Cx}{a b:Expr}{fa fb:4e0}{pos:Pos}
def ixT (x y:PV):Option PV:=match x with
 | .dtt ks vs=>match y with
  | .tup qs=>match keysP qs with
   | some q=>lookT ks vs q
   | none=>none
  | _=>none
 | x=>ixQ x y
end
end Pu
namespace Se
open PySem PySem.Spec L2
noncomputable def ins {α:Type} [DecidableEq α](acc:List α)(x:α):List α:=if x∈acc then acc else acc++[x]
def fm {α:Type} [DecidableEq α](l:List α):List α:=l.foldl ins []
section
variable {α:Type} [DecidableEq α]
noncomputable def isIn (x:α)(l:List α):Bool:=decide (x∈l)
theorem isIn_ins (y x:α)(l:List α):isIn y (ins l x)=(isIn y l||decide (y=x)):=by
 unfold isIn ins
 by_cases q:x∈l
 ·rw[if_pos q]
  by_cases z:y=x
  ·subst z;simp[q]
  ·simp[z]
 ·rw[if_neg q];simp[YX,Bool.decide_or]
theorem ins_len (l:List α)(x:α):(ins l x).length=if isIn x l then l.length else l.length + 1:=by
 unfold isIn ins
 by_cases q:x∈l<;>simp[q]
theorem fm_snoc (l:List α)(x:α):fm (l++[x])=ins (fm l) x:=by unfold fm;rw[List.foldl_append];rfl
theorem fm_take {l:List α}{i:Nat}{x:α}(h:l[i]? = some x):fm (l.take (i + 1))=ins (fm (l.take i)) x:=by
 rw[←fm_snoc]
 congr 1
 rw[List.take_succ,h];rfl
theorem ins_length (acc:List α)(x:α):(ins acc x).length<=acc.length + 1:=by unfold ins;split<;>simp
theorem Zbx:∀(l acc:List α),(l.foldl ins acc).length<=acc.length + l.length
 | [],acc=>Yk _
 | x::l,acc=>by
  have h1:=Zbx l (ins acc x)
  have h2:=ins_length acc x
  simp only[Ul,YL];lia
theorem fm_length (l:List α):(fm l).length<=l.length:=by have:=Zbx l [];unfold fm;simpa using this
theorem ZbJ (l:List α)(i:Nat):(fm (l.take i)).length<=l.length:=YG (fm_length _) (by rw[Y7];exact Nat.min_le_right _ _)
end
section
variable {prog:Yq}{w:World}{A:Around}{E:1e4}{s:Shared}
def JS (prog:Yq)(w:World)(D:Addr)(ks:List Key)(i:Nat)(h:Heap):Prop:=h.SetOf (mixKind prog w) D (fun k=>isIn k (fm (ks.take i))) (fm (ks.take i)).length
def JT (prog:Yq)(w:World)(D:Addr)(ks:List (List Key))(as:3e1)(i:Nat)(h:Heap):Prop:=SetT (mixKind prog w) h D (fm (ks.take i))/\∀(j:Nat) (k:List Key) (a:Addr),ks[j]? = some k->as[j]? = some a->a < D/\Xo (mixKind prog w) h k a
theorem TI.fresh (led:Bool):TI (.fresh 0 0 led) #[]:=⟨⟨.inl rfl,rfl,fun a b x y _ h=>by simp[SetTable.fresh] at h,rfl,fun i j h=>by simp[SetTable.fresh] at h,fun i j e h=>by simp[SetTable.fresh] at h⟩,by show 0 * 5 < 7 * 3;decide⟩
theorem key_at {h h':Heap}{ks:List Key}{a:Addr}(x:Xo (mixKind prog w) h ks a)(g:∀o,h.get? a=some o->h'.get? a=some o):Xo (mixKind prog w) h' ks a:=by
 obtain ⟨o,items,n,e,r⟩:=x
 exact ⟨o,items,n,g o e,r⟩
theorem SetT.at {h h':Heap}{a:Addr}{ks:List (List Key)}(x:SetT (mixKind prog w) h a ks)(g:∀b o,b<=a->h.get? b=some o->h'.get? b=some o):SetT (mixKind prog w) h' a ks:=by
 obtain ⟨o,es,ep,t,ho,hex,hd,T,nd,bs,h1,h2,h3⟩:=x
 exact ⟨o,es,ep,t,g _ _ (Yk _) ho,hex,hd,T,nd,bs,h1,fun p hp=>⟨(h2 p hp).1,key_at (h2 p hp).2 fun o e=>g _ _ (Wi (h2 p hp).1) e⟩,h3⟩
theorem set_scalars {l:Addr}{its:3e5}{ks:List Key}{Q:1e4}(hh:A.handled=none)(src:s.heap.IsList l its.toArray\/s.heap.IsTuple l its.toArray)(hk:ks.length=its.length)(hi:∀(i:Nat) (v:Value) (k:Key),its[i]? = some v->ks[i]? = some k->(mixKind prog w).is k v=true/\v.scannable=true)(hb:ks.length < 76)
  (h:∀h' tk,h'.SetOf (mixKind prog w) s.heap.objs.size (fun k=>isIn k (fm ks)) (fm ks).length->(∀b o,b < s.heap.objs.size->s.heap.get? b=some o->h'.get? b=some o)->Q (.ref s.heap.objs.size) { s with heap:=h',toks:=tk }):
  wpAny 3e9 A (call (.type "set") [.ref l]) Q E s:=by
 have hsz:its.toArray.size=ks.length:=by rw[Yh,hk]
 refine call_ (J:=JS prog w s.heap.objs.size ks) hh src (fun led h' _ g=>?_) (fun A' i v s' Q E hu hlt hv j k=>?_) (fun i h1 h2 j k=>?_) fun h' tk j k=>?_
 ·exact ⟨_,#[],0,_,g,⟨rfl,rfl,rfl⟩,rfl,fun e he=>by simp at he,fun k=>by simp[fm,isIn],by decide,by rfl,rfl⟩
 ·have hik:i < ks.length:=by rw[←hsz];exact hlt
  obtain ⟨kk,ek⟩:∃kk,ks[i]? = some kk:=⟨_,Ya hik⟩
  obtain ⟨h1,h2⟩:=hi i v kk (by rw[WD] at hv;exact hv) ek
  unfold setAdd
  refine Xh (Yb ((mixKind prog w).pyHash h1 ?_))
  have hl:=ZbJ ks i
  refine wpAny_setAddHashed_of (s:={ s' with toks:=s'.toks + 1 }) h1 h2 j (by unfold scanBound;lia) fun h' sb S'=>k _ h' _ sb ?_ (Nat.le_succ _)
  unfold JS
  rw[fm_take ek]
  have e1:(fun k'=>isIn k' (ins (fm (ks.take i)) kk))=fun k'=>isIn k' (fm (ks.take i))||decide (k'=kk):=funext fun k'=>isIn_ins _ _ _
  rw[e1,ins_len];exact S'
 ·obtain ⟨o,es,ep,t,ho,r⟩:=j
  exact ⟨o,es,ep,t,k _ _ (Yo (Vr _)) ho,r⟩
 ·refine h h' tk ?_ k
  unfold JS at j
  rw[hsz,List.take_length] at j;exact j
theorem set_tuples {l:Addr}{as:3e1}{ks:List (List Key)}{Q:1e4}(hh:A.handled=none)(hu:A.units + 16 < cLine)(src:s.heap.IsList l (as.map Yy).toArray\/s.heap.IsTuple l (as.map Yy).toArray)(hk:ks.length=as.length)(hi:∀(i:Nat) (a:Addr) (k:List Key),as[i]? = some a->ks[i]? = some k->Xo (mixKind prog w) s.heap k a)(hb:ks.length < 76)
  (h:∀h' tk,SetT (mixKind prog w) h' s.heap.objs.size (fm ks)->(∀b o,b < s.heap.objs.size->s.heap.get? b=some o->h'.get? b=some o)->Q (.ref s.heap.objs.size) { s with heap:=h',toks:=tk }):
  wpAny 3e9 A (call (.type "set") [.ref l]) Q E s:=by
 have hsz:(as.map Yy).toArray.size=ks.length:=by rw[Yh,Yr,hk]
 have lt:∀{k:List Key} {a:Addr},Xo (mixKind prog w) s.heap k a->a < s.heap.objs.size:=fun ⟨o,_,_,g,_⟩=>Ys g
 refine call_ (J:=JT prog w s.heap.objs.size ks as) hh src (fun led h' old g=>⟨?_,fun j k a ek ea=>?_⟩) (fun A' i v s' Q E hu' hlt hv j k=>?_) (fun i h1 h2 j k=>⟨j.1.at fun b o hb e=>k b o (Yo (Nat.lt_succ_of_le hb)) e,fun n kk a ek ea=>?_⟩) fun h' tk j k=>?_
 ·exact ⟨_,#[],0,_,g,⟨rfl,rfl,rfl⟩,rfl,TI.fresh led,by simp[fm],[],rfl,fun _ m=>(nomatch m),.nil⟩
 ·have z:=hi j a k ea ek
  exact ⟨lt z,key_at z fun o e=>old _ _ (lt z) e⟩
 ·have hik:i < ks.length:=by rw[←hsz];exact hlt
  obtain ⟨kk,ek⟩:∃kk,ks[i]? = some kk:=⟨_,Ya hik⟩
  rw[WD,YK] at hv
  obtain ⟨a,ea,rfl⟩:=Xg.mp hv
  obtain ⟨h1,h2⟩:=j.2 i kk a ek ea
  unfold setAdd
  have room:A'.units < cLine:=by lia
  refine Xh (Yb ((WK (mixKind prog w)).pyHash room h2 ?_))
  have hl:=ZbJ ks i
  refine add_ (s:={ s' with toks:=s'.toks + (WK (mixKind prog w)).draws kk }) room j.1 h2 h1 (by lia) fun h' sb S'=>k _ h' _ sb ⟨?_,fun n k2 a2 ek2 ea2=>?_⟩ (Nat.le_add_right _ _)
  ·rw[fm_take ek]
   by_cases q:kk∈fm (ks.take i)
   ·rw[if_pos q] at S'
    unfold ins;rw[if_pos q];exact S'
   ·rw[if_neg q] at S'
    unfold ins;rw[if_neg q];exact S'
  ·obtain ⟨z1,z2⟩:=j.2 n k2 a2 ek2 ea2
   exact ⟨z1,key_at z2 fun o e=>(sb.2 a2 (Yo z1)).trans e⟩
 ·obtain ⟨z1,z2⟩:=j.2 n kk a ek ea
  exact ⟨z1,key_at z2 fun o e=>k _ _ (Yo (Wd z1)) e⟩
 ·refine h h' tk ?_ k
  have j1:=j.1
  rw[hsz,List.take_length] at j1;exact j1
end
end Se
namespace Se
open PySem PySem.SetTable PySem.W
open PyProof.Rows hiding St Fr
section
variable {prog:Yq}{w:World}{A:Around}{E:1e4}{s:Shared}{I a T:Addr}{es:Array (Int×Value)}{ep i:Nat}{t:Xy}
abbrev PA (arr:Array (Int×Value)):Nat->Value->Prop:=fun i v=>∃e,arr[i]? = some e/\v=e.2
end
end Se
namespace L2
open PySem PySem.Spec PyProof.Rows Se
abbrev BS:=List (List Key×Addr)
end L2
namespace Pu
open PySem PySem.Spec PySem.W PySem.Calls L2 Se
open PyProof.Rows hiding St Fr
theorem boot_set_:Xe "set"=some (.type "set"):=by decide +kernel
def Cnt (H:Hp)(ws:List V)(n:Int):Prop:=
 (∃ks:List Key,ws=ks.map kV/\ks.length < 76/\n=((fm ks).length:Int))\/
 ∃(ks:List (List Key)) (as:3e1),ws=as.map V.ref/\ks.length=as.length/\(∀(i:Nat) (a:Addr) (k:List Key),as[i]? = some a->ks[i]? = some k->H a=some (.tup (k.map kV)))/\ks.length < 76/\n=((fm ks).length:Int)
def rLS (X:Cx):List V->Hp->VK->Prop:=fun xs H Q=>∃a ws n,xs=[.ref a]/\(SqL X.K H a ws\/SqT X.K H a ws)/\Cnt H ws n/\Q (.int n) H
theorem scalar_is {prog:Yq}{w:World}{k:Key}{v:Value}(r:RelV (kV k) v):(mixKind prog w).is k v=true/\v.scannable=true:=by
 have h:=ZcW (P:=prog) (w:=w) (ks:=[k]) (us:=[v]) (.cons r .nil)
 cases h with
 | cons h _=>
  refine ⟨h,?_⟩
  cases k with
  | inl i=>obtain ⟨t,rfl⟩:=(show ∃t,v=.int i t from r);rfl
  | inr x=>obtain ⟨t,rfl⟩:=(show ∃t,v=.str x t from r);rfl
theorem Zda:∀{as:3e1} {us:3e5},Vals (as.map V.ref) us->us=as.map Yy
 | [],_,.nil=>rfl
 | a::as,_,.cons r t=>by cases (show _=Yy a from r);rw[Zda t];rfl
section
variable {X:Cx}{e:Expr}{t:TA}{fs:2e8}{p p2 pos pos2:Pos}
theorem lenset_at (hcm:X.calm=true)(hu:X.A.units + 64 < cLine){pins:2e0}{s:Shared}{σ:St}{H:Hp}{xs:List V}{us:3e5}{Q:VK}(I:2e3)(r:Vals xs us)(h:rLS X xs H Q):
  wpAny 3e0 X.A (call (.type "set") us) (fun v s1=>wpAny 3e0 X.A (call (.builtin "len") [v]) (EP X pins σ Q) X.xe s1) X.xe s:=by
 obtain ⟨a,ws,n,rfl,sq,cnt,q⟩:=h
 obtain ⟨u,rfl,ru⟩:=Vals.one r
 cases (show u=Yy a from ru)
 obtain ⟨its,vi,src⟩:∃its:List Value,Vals ws its/\(s.heap.IsList a its.toArray\/s.heap.IsTuple a its.toArray):=by
  rcases sq with sq | sq
  ·obtain ⟨its,vi,⟨o,n,h1,h2,h3,h4⟩,_⟩:=I.list sq
   exact ⟨its,vi,.inl ⟨o,h1,h2,n,h4⟩⟩
  ·obtain ⟨its,vi,⟨o,h1,h2,n,h3⟩,_⟩:=I.tuple sq
   exact ⟨its,vi,.inr ⟨o,h1,h2,n,h3⟩⟩
 have hh:=I.ok.hd hcm
 have fin:∀(h':Heap) (tk:Nat) (m:Nat),(m:Int)=n->(∀b o,b < s.heap.objs.size->s.heap.get? b=some o->h'.get? b=some o)->EP X pins σ Q (.int m tk) { s with heap:=h',toks:=tk + 1 }:=fun h' tk m e k=>
  ⟨.int n,H,I.kept fun b o g=>k b o (Ys g) g,⟨_,by rw[←e]⟩,q⟩
 rcases cnt with ⟨ks,rfl,hl,rfl⟩ | ⟨ks,as,rfl,hka,hk,hl,rfl⟩
 ·refine set_scalars hh src (by rw[←vi.length,Yr]) (fun i v k ev ek=>?_) hl fun h' tk S k=>?_
  ·obtain ⟨v',e',r'⟩:=vi.get (i:=i) (x:=kV k) (by rw[YK,ek];rfl)
   rw[ev] at e';cases e'
   exact scalar_is r'
  ·obtain ⟨o,es,ep,t,ho,hex,hd,_,_,hb,hf,hn⟩:=S
   refine call_len_set ho hex hd hf (by unfold scanBound at hb;lia) ?_
   rw[hn];exact fin h' _ _ rfl k
 ·cases Zda vi
  refine set_tuples hh 1e3 src hka (fun i b k eb ek=>key_of I.hok (hk i b k eb ek)) hl fun h' tk S k=>?_
  obtain ⟨o,es,ep,t,ho,hex,hd,T,_,bs,h1,_,hp⟩:=S
  have hn:es.size=(fm ks).length:=by rw[←YH,hp.length_eq,Yr,←h1,Yr]
  have hm:=T.mm.pos
  have hf:=T.few
  refine call_len_set ho hex hd (T.fits (Wi hf)) 1e3 ?_
  rw[hn];exact fin h' _ _ rfl k
theorem pe_lenset (hcm:X.calm=true)(hu:X.A.units + 64 < cLine)(hgl:Gl X "len")(hml:X.mg "len"=none)(hgs:Gl X "set")(hms:X.mg "set"=none)(ha:PA X [e] t)(he:Yj [e] X.env=(false,eval e X.env)::Yj [] X.env:=by rfl):
  PE X (.Call (.Name "len" p) [.Call (.Name "set" p2) [e] [] pos2] [] pos) (tCB (rLS X) t):=by
 intro pins s σ H Q I h
 refine X4 (Zcn I hgl hml PySem.boot_len ?_ 2e4 2e4)
 refine Vm ?_ rfl rfl
 show wpAny _ _ (spliced ((false,eval (.Call (.Name "set" p2) [e] [] pos2) X.env)::backTo pos (Yj [] X.env))) _ _ s
 refine Calls.spliced_cons ?_
 refine X4 (Zcn I hgs hms boot_set_ ?_ 2e4 2e4)
 refine Xs (thn (ha pos2 pins s σ H _ I h) fun us s1 ⟨vs,H1,I1,r1,q1⟩=>?_) he rfl
 refine thn (lenset_at hcm hu I1 r1 q1) fun v s2 q2=>?_
 exact Calls.spliced_nil q2
end
def tupKeysP:List PV->Option (List (List Key))
 | []=>some []
 | .tup qs::r=>match keysP qs,tupKeysP r with
  | some k,some ks=>some (k::ks)
  | _,_=>none
 | _::_=>none
theorem Zck {K:W.Frag}{ι:3e1}{H:Hp}:∀{ps:List PV} {ws:List V} {ks:List (List Key)},Reps K ι H ps ws->tupKeysP ps=some ks->
  ∃as:List Addr,ws=as.map V.ref/\ks.length=as.length/\∀(i:Nat) (a:Addr) (k:List Key),as[i]? = some a->ks[i]? = some k->H a=some (.tup (k.map kV))
 | [],ws,ks,r,e=>by cases e;rw[r.inv0];exact ⟨[],rfl,rfl,fun i a k h=>by simp at h⟩
 | p::ps,ws,ks,r,e=>by
  obtain ⟨v,w,rfl,h1,h2⟩:=r.inv
  unfold tupKeysP at e
  cases p with
  | tup qs=>
   dsimp only at e
   split at e
   ·rename_i k ks' e1 e2
    cases e
    obtain ⟨as,rfl,hl,h⟩:=Zck h2 e2
    obtain ⟨b,rfl,hb⟩:=rep_tupKeys h1 e1
    refine ⟨b::as,rfl,by simp[hl],fun i a k' ea ek=>?_⟩
    cases i with
    | zero=>cases ea;cases ek;exact hb
    | succ i=>exact h i a k' ea ek
   ·cases e
  | _=>cases e
def lenSetL (ps:List PV):Option PV:=if ps.length < 76 then match keysP ps with
  | some ks=>some (.int (fm ks).length)
  | none=>match tupKeysP ps with
   | some ks=>some (.int (fm ks).length)
   | none=>none
 else none
def lenSetH:List PV->Option PV
 | [.lst ps]=>lenSetL ps
 | [.tup ps]=>lenSetL ps
 | _=>none
theorem Zco:∀{ps:List PV} {ks:List Key},keysP ps=some ks->ks.length=ps.length
 | [],ks,e=>by cases e;rfl
 | p::ps,ks,e=>by
  unfold keysP at e
  split at e
  ·rename_i a b e1 e2;cases e;simp[Zco e2]
  ·cases e
theorem Zbi:∀{ps:List PV} {ks:List (List Key)},tupKeysP ps=some ks->ks.length=ps.length
 | [],ks,e=>by cases e;rfl
 | p::ps,ks,e=>by
  unfold tupKeysP at e
  cases p with
  | tup qs=>
   dsimp only at e
   split at e
   ·rename_i a b e1 e2;cases e;simp[Zbi e2]
   ·cases e
  | _=>cases e
section
variable {X:Cx}{e:Expr}{fs:2e8}{p p2 pos pos2:Pos}
theorem ZcV {K:W.Frag}{ι:3e1}{H:Hp}{ps:List PV}{ws:List V}{z:PV}(r:Reps K ι H ps ws)(e:lenSetL ps=some z):∃n,z=.int n/\Cnt H ws n:=by
 unfold lenSetL at e
 split at e
 ·rename_i hl
  split at e
  ·rename_i ks hk
   cases e
   exact ⟨_,rfl,.inl ⟨ks,ZcM r hk,by rw[Zco hk];exact hl,rfl⟩⟩
  ·split at e
   ·rename_i ks hk
    cases e
    obtain ⟨as,h1,h2,h3⟩:=Zck r hk
    exact ⟨_,rfl,.inr ⟨ks,as,h1,h2,h3,by rw[Zbi hk];exact hl,rfl⟩⟩
   ·cases e
 ·cases e
theorem lenSet_ok:L1ok X.K (rLS X) lenSetH:=by
 intro ι H C ps vs z Q cr ls e k
 unfold lenSetH at e
 split at e
 ·cases ls with
  | cons l t=>
   cases t
   obtain ⟨a,ws,rfl,h1,r1⟩:=liesL l
   obtain ⟨n,rfl,c⟩:=ZcV r1 e
   exact ⟨a,ws,n,rfl,.inl h1,c,k _ H .refl cr repI⟩
 ·cases ls with
  | cons l t=>
   cases t
   obtain ⟨a,ws,rfl,h1,r1⟩:=liesT l
   obtain ⟨n,rfl,c⟩:=ZcV r1 e
   exact ⟨a,ws,n,rfl,.inr h1.sq,c,k _ H .refl cr repI⟩
 ·cases e
end
end Pu
namespace Pu
open PySem PySem.Spec PySem.W PySem.Calls L2 PySem.SeqAt
open PyProof.Rows hiding St Fr
theorem Zbf:∀(qs:List Key),keysP (qs.map kP)=some qs
 | []=>rfl
 | q::qs=>by rw[YO];unfold keysP;rw[keyP_kP,Zbf qs]
section
variable {X:Cx}{e o i a:Expr}{es:4e8}{p pos pos' cpos apos:Pos}{x:Str}{fv fo fi fa:4e0}{fs:2e8}
noncomputable def mNewK (i:Nat):PSt->M PF:=fun ρ C=>some (.nx (ρ.set i (some (.c C.length))),C++[.dct [] []])
def setK (v o i:SV)(ρ:PSt):M PF:=fun C=>match o,i,v with
 | .c k,.v ip,.v p=>match C[k]?,keyP ip with
  | some (.dct ks ps),some key=>match keysP ks with
   | some qs=>if ks.length < 1000 then some (.nx ρ,C.set k (.dct ((putKs qs key).map kP) (putVs qs ps key p))) else none
   | none=>none
  | _,_=>none
 | _,_,_=>none
def mSetIxK (fv fo fi:4e0):PSt->M PF:=fun ρ=>bnd (fv ρ) fun v=>bnd (fo ρ) fun o=>bnd (fi ρ) fun i=>setK v o i ρ
theorem setK_some {v o i:SV}{ρ:PSt}{C C2:Cs}{fl:PF}(h:setK v o i ρ C=some (fl,C2)):∃k ip p ks ps qs key,o=.c k/\i=.v ip/\v=.v p/\C[k]? = some (.dct ks ps)/\keyP ip=some key/\keysP ks=some qs/\ks.length < 1000/\fl=.nx ρ/\C2=C.set k (.dct ((putKs qs key).map kP) (putVs qs ps key p)):=by
 unfold setK at h
 split at h
 ·split at h
  ·split at h
   ·split at h
    ·cases h;exact ⟨_,_,_,_,_,_,_,rfl,rfl,rfl,by assumption,by assumption,by assumption,by assumption,rfl,rfl⟩
    ·cases h
   ·cases h
  ·cases h
 ·cases h
end
theorem keyIs_rel {k:Key}{u:Value}(h:keyIs k u=true):RelV (kV k) u:=by
 rcases ZaR h with ⟨i,t,rfl,rfl⟩ | ⟨x,t,rfl,rfl⟩
 ·exact ⟨t,rfl⟩
 ·exact ⟨t,rfl⟩
theorem pairs_vals {P:Yq}{w:World}{es:List WB}{vs:List (Key×Value)}(h:Pairs (mixKind P w) es vs):Vals (vs.map fun q=>kV q.1) (es.map (·.key)):=by
 induction h with
 | nil=>exact .nil
 | cons h1 h2 h3 ih=>exact .cons (keyIs_rel h1) ih
theorem items_keys {es:Array WB}{acc:Array Value}(h:ItemsOf (fun i v=>∃e,es[i]? = some e/\v=e.key) acc es.size):acc.toList=es.toList.map (·.key):=by
 apply WI
 intro i
 rw[Xl,YK,Xl]
 by_cases hi:i < acc.size
 ·obtain ⟨e,e1,e2⟩:=h.2 i _ (Yx hi)
  rw[Yx hi,e2,e1];rfl
 ·have:=h.1
  rw[Y2 1e3,Y2 1e3];rfl
section
variable {X:Cx}
def rSortedK (K:W.Frag):List V->Hp->VK->Prop:=fun xs H Q=>∃p kvs,xs=[.ref p]/\H p=some (.dK kvs)/\(kvs.map (·.1)).all keyOk=true/\(sortP (kvs.map fun q=>kP q.1)).isSome=true/\
 ∀l,H l=none->Q (.ref l) (upd H l (.lst (sortV (kvs.map fun q=>kP q.1) (kvs.map fun q=>kV q.1))))
theorem call_sortedK (hcm:X.calm=true)(hu:X.A.units + 64 < cLine):CallR X (.builtin "sorted") (rSortedK X.K):=by
 intro pins s σ H xs us Q I r h
 obtain ⟨p,kvs,rfl,hq,hko,hs,q⟩:=h
 obtain ⟨u,rfl,rx⟩:=vals1 r
 cases rx
 obtain ⟨hz,lo,vs,kv,o,es,ep,ho,hex,hda,hke,hpa,hnd⟩:=dk_of I.hok hq
 have hkv:(kvs.map fun q=>kV q.1)=vs.map fun q=>kV q.1:=by
  have:=kv.keys
  have e1:(kvs.map fun q=>kV q.1)=(kvs.map (·.1)).map kV:=by rw[Xb];rfl
  have e2:(vs.map fun q=>kV q.1)=(vs.map (·.1)).map kV:=by rw[Xb];rfl
  rw[e1,e2,this]
 have hv:=pairs_vals hpa
 rw[←hkv] at hv
 have hl:es.size=kvs.length:=by
  have:=hv.length
  simpa using this.symm
 generalize hps:(kvs.map fun q=>kP q.1)=ps at hs q
 have hpl:ps.length=kvs.length:=by rw[←hps,Yr]
 have rs:∀ι,Reps X.K ι H ps (kvs.map fun q=>kV q.1):=fun ι=>by
  rw[←hps,show (kvs.map fun q=>kP q.1)=(kvs.map (·.1)).map kP by rw[Xb];rfl,show (kvs.map fun q=>kV q.1)=(kvs.map (·.1)).map kV by rw[Xb];rfl]
  exact reps_kP hko
 unfold sortP at hs
 split at hs
 ·rename_i hh
  simp only[Yd,decide_eq_true_eq] at hh
  obtain ⟨⟨⟨⟨hd,hde⟩,h64⟩,hso⟩,hcm'⟩:=hh
  have hr:=Reps.heap I ps (rs []) hv hd
  have hvl:(es.toList.map (·.key)).length=ps.length:=by rw[Yr,YH];lia
  refine Zca (vs:=es.toList.map (·.key)) (κ:=kindP ps) (o:=oP ps) (fun Q' q'=>?_) 1e3 (fun h2 h' tk k Q' q'=>?_) (fun h2 h' tk k i j C hi hj hC=>?_) (fun D h' tk c hD k e=>?_)
  ·refine Zc6 (raw_src (es:=es) (ep:=ep) lo) (I.ok.hd hcm) ⟨o,ho,hex,hda⟩ (by rw[YS];lia) fun h' tk acc k hle ai=>?_
   rw[items_keys ai]
   exact q' h' tk k hle
  ·exact kind_of (s:={ s with heap:=h',toks:=tk }) (hr.keep k) h2 hso q'
  ·exact ask_of (s:={ s with heap:=h',toks:=tk }) (hr.keep k) hso hcm' (by rw[YU,YU];lia) hi hj hC
  ·rw[Zcw hvl.symm] at e
   refine ⟨.ref D,_,I.laid (t':=tk) k hD (show ObjOk X.prog X.w _ h' _ (.lst (sortV ps (kvs.map fun q=>kV q.1))) from ⟨?_,sortU ps (es.toList.map (·.key)),c,?_,e⟩),rfl,q _ (I.hok.fresh hD)⟩
   ·unfold sortV
    rw[Yr]
    have:(perm ps).length<=64:=by
     unfold perm
     split
     ·rw[Vj];lia
     ·rw[YH,(Zdb (o:=oP ps) (Wp ps.length) (Zcb 1e3)).2.1];lia
    exact YG this (by rw[YS];decide)
   ·exact ZbQ hv fun i hi=>by have:=Zbz i hi;simp only[Yr,YH] at hvl ⊢;lia
 ·cases hs
def sortedH3 (C:Cs):List SV->Option 6e2
 | [x]=>match deref C x with
  | some (.dct ks _)=>match keysP ks with
   | some qs=>if qs.all keyOk then sortP ks else none
   | none=>none
  | _=>sortedH2 C [x]
 | _=>none
def mSorted3 (fs:2e8):PSt->M 6e2:=fun ρ=>bnd (fs ρ) fun xs=>opM fun C=>sortedH3 C xs
theorem PE.or {e:Expr}{t t':TE}(h:PE X e t)(k:PE X e t'):PE X e fun σ H Q=>t σ H Q\/t' σ H Q:=fun pins s σ H Q I q=>by
 rcases q with q | q
 ·exact h pins s σ H Q I q
 ·exact k pins s σ H Q I q
end
end Pu
namespace Pu
open PySem PySem.Spec L2
open PyProof.Rows hiding St Fr
def Je (K:W.Frag)(a:Addr):It:=⟨fun i H=>∃xs v,SqL K H a xs/\xs[i]? = some v,fun i H x H'=>∃b v,H b=none/\x=.ref b/\H'=upd H b (.tup [.int i,v])/\∀xs,SqL K H a xs->xs[i]? = some v,
 fun i H=>∃xs,SqL K H a xs/\xs.length<=i⟩
theorem turn_enum {P:Yq}{w:World}{K:W.Frag}{elts:4e8}{x1:Nat}{pos:Pos}{a e it:Addr}(hne:e≠it):Turn P w K (.Tuple elts x1 pos) (Je K a) [e,it] e
  (fun i h=>(∃old,IsEnum h e it i old)/\h.IsListIter it a i) where
 mem:=by simp
 obj:=fun i h st b hb=>by
  obtain ⟨⟨old,he⟩,o,hi,hc,hd⟩:=st
  simp only[Yn,Y3,or_false] at hb
  rcases hb with rfl | rfl
  ·exact ⟨_,he,fun v q=>by cases q⟩
  ·exact ⟨o,hi,fun v q=>by rw[hd] at q;cases q⟩
 keep:=fun i h h' st k=>by
  obtain ⟨⟨old,he⟩,hi⟩:=st
  exact ⟨⟨old,k e 3e4 _ he⟩,hi.at fun o z=>k it 3e4 o z⟩
 item:=by
  intro X hP hw hK hc i pins s σ H E I hf st hg
  subst hP hw hK
  obtain ⟨⟨old,he⟩,hi⟩:=st
  obtain ⟨xs,v,hq,hx⟩:=hg
  obtain ⟨its,rv,p,hz⟩:=I.list hq
  obtain ⟨u,hu,ru⟩:=rv.get hx
  refine wpAny_pyNext_enum_item he hi p.isList (x:=u) (by simpa using hu) hne fun h' ho hi' hT hsz hk=>⟨_,rfl,?_⟩
  refine VH (s:={ s with heap:=h',toks:=s.toks + 1 }) ho fun h3 he3 sb=>?_
  have J1:Inv X pins σ H { s with heap:=h3,toks:=s.toks + 1 }:=turnedL (ch:=[e,it]) I (fun b o hb z=>by
   simp only[Yn,Y3,or_false,not_or] at hb
   exact sb.extBut _ _ hb.1 (hk b o hb.1 hb.2 z)) hf
  have hlt:∀{b o},s.heap.get? b=some o->b≠s.heap.objs.size:=fun e=>Yo (Ys e)
  have hn:H s.heap.objs.size=none:=I.hok.fresh (Yk _)
  have hT3:=sb.extBut _ _ (hlt he).symm hT
  have J2:=track (ob:=.tup [.int i,v]) J1 hn I.sz (X3 I.lt) (fun x c e=>by obtain ⟨v,q⟩:=I.cell x c e;exact Yo q.lt) (fun p hp=>hlt (I.pin p hp).1)
   ⟨by show 2<=Yu;rw[YS];decide,[.int i s.toks,u],.cons ⟨_,rfl⟩ (.cons ru .nil),⟨_,hT3,rfl,_,rfl⟩⟩
  refine ⟨.ref s.heap.objs.size,_,J2,rfl,⟨_,v,hn,rfl,rfl,fun ys hy=>by rw[I.list_inj hy hq];exact hx⟩,⟨⟨_,he3⟩,hi'.at fun o z=>sb.extBut _ _ hne.symm z⟩,fun b hb=>?_⟩
  have hb':b≠s.heap.objs.size:=by
   simp only[Yn,Y3,or_false] at hb
   rcases hb with rfl | rfl
   ·exact hlt he
   ·obtain ⟨o,z,_⟩:=hi;exact hlt z
  rw[Zax hb'];exact (hf b hb).1
 done:=by
  intro X hP hw hK hc i pins s σ H E I hf st hg
  subst hP hw hK
  obtain ⟨⟨old,he⟩,hi⟩:=st
  obtain ⟨xs,hq,hx⟩:=hg
  obtain ⟨its,rv,p,hz⟩:=I.list hq
  have hl:=rv.length
  refine wpAny_pyNext_enum_end (I.ok.hd hc) he hi p.isList (by simp;lia) fun h' eb=>⟨rfl,turnedL (t':=s.toks) (ch:=[e,it]) I (fun b o hb z=>?_) hf⟩
  simp only[Yn,Y3,or_false,not_or] at hb
  exact eb b o hb.2 z
 self:=fun _ _ _ _ _ st h=>by obtain ⟨⟨old,he⟩,_⟩:=st;exact Vk he h
section
variable {X:Cx}{l:Expr}{elts:4e8}{x1:Nat}{tpos p pos:Pos}
def iEnum (K:W.Frag)(tl:TA):TI:=fun σ H R=>tl σ H fun xs H1=>∃a,xs=[.ref a]/\(∃vs,SqL K H1 a vs)/\R (Je K a) H1
theorem pi_enum {tl:TA}(hg:Gl X "enumerate")(hm:X.mg "enumerate"=none)(ha:PA X [l] tl)(hs:Yj [l] X.env=[(false,eval l X.env)]:=by rfl):PI X (.Tuple elts x1 tpos) (.Call (.Name "enumerate" p) [l] [] pos) (iEnum X.K tl):=by
 intro pins s σ H R I h
 refine Call_ (Zcn I hg hm 1e0 (Xs (thn (ha pos pins s σ H _ I h) fun us s1 ⟨vs,H1,I1,r1,q1⟩=>?_) hs rfl))
 obtain ⟨a,rfl,⟨ws,hq⟩,q⟩:=q1
 obtain ⟨u,rfl,ru⟩:=vals1 r1
 cases ru
 obtain ⟨its,rv,pl,hz⟩:=I1.list hq
 refine call_enumerate_list pl.isList fun h' he hi hsz k=>?_
 have J:Inv X pins σ H1 { s1 with heap:=h' }:=I1.kept (t':=s1.toks) k
 refine Vk (s:={ s1 with heap:=h' }) he ⟨s1.heap.objs.size + 1,[s1.heap.objs.size + 1,s1.heap.objs.size],_,_,H1,rfl,J,turn_enum (Nat.succ_ne_self _),⟨⟨_,he⟩,hi⟩,fun b hb=>?_,q⟩
 have hb':s1.heap.objs.size<=b:=by
  simp only[Yn,Y3,or_false] at hb
  rcases hb with rfl | rfl<;>lia
 exact I1.fpOk hb' (I1.hok.fresh hb')
noncomputable def enumL (xs:List PV):List PV:=(Yg xs.length).map fun i=>.tup [.int (i:Nat),xs.getD i .non]
def enumP:List SV->Option 6e2
 | [.v (.lst xs)]=>some (enumL xs)
 | _=>none
def mEnum (fs:2e8):PSt->M 6e2:=fun ρ=>bnd (fs ρ) fun xs=>opM fun _=>enumP xs
theorem Zba (xs:List PV):(enumL xs).length=xs.length:=by unfold enumL;simp
theorem iter_enum {K:W.Frag}{ι:3e1}{H:Hp}{C:Cs}{a:Addr}{xs:List PV}{vs:List V}(cr:CR K ι H C)(h:LsR K ι H a vs)(r:Reps K ι H xs vs):Iter K ι H (enumL xs) (Je K a):=by
 have keep:∀ι2 H2,Ex ι ι2 H H2->SqL K H2 a vs:=fun ι2 H2 x=>by
  rcases h with ⟨n,q | ⟨o,q⟩⟩ | q
  ·exact .inl (.inl (x.out _ _ n q).2)
  ·exact .inl (.inr ⟨o,(x.out _ _ n q).2⟩)
  ·exact .inr q
 refine ⟨fun ι2 H2 C2 x c i hi=>?_,fun ι2 H2 C2 x c i v H3 hi y=>?_,fun ι2 H2 C2 x c=>⟨vs,keep ι2 H2 x,by rw[Zba,r.length];exact Yk _⟩⟩
 ·rw[Zba] at hi
  obtain ⟨v,e,_⟩:=r.get (Ya hi)
  exact ⟨vs,v,keep ι2 H2 x,e⟩
 ·rw[Zba] at hi
  obtain ⟨b,w,hn,rfl,rfl,y⟩:=y
  obtain ⟨p,hp,rp⟩:=r.get' (y vs (keep ι2 _ x))
  refine ⟨fun c o e=>by rw[Zax (Zaq e hn)];exact e,.tup [.int (i:Nat),p],?_,Zcf hn (.cons repI (.cons (Rep.tr cr x.out p w rp) .nil))⟩
  unfold enumL
  simp[hi]
  rw[Ya hi] at hp
  exact YA hp
def loopE (g:5e4)(f:PSt->M PF)(k:Nat):Nat->Nat->PSt->M PF
 | 0,_,_=>fun _=>none
 | n + 1,j,ρ=>fun C=>match C[k]? with
  | some (.lst qs)=>match qs[j]? with
   | some x=>match g (.tup [.int (j:Nat),x]) ρ with
    | none=>none
    | some ρ1=>bnd (f ρ1) (fun fl=>match fl with
     | .nx ρ2=>loopE g f k n (j + 1) ρ2
     | .ct ρ2=>loopE g f k n (j + 1) ρ2
     | .bk ρ2=>Pu.ret (.nx ρ2)
     | .rt r=>Pu.ret (.rt r)
     | .rf ps=>Pu.ret (.rf ps)
     | .rq ps=>Pu.ret (.rq ps)) C
   | none=>some (.nx ρ,C)
  | _=>none
def mForE (fs:2e8)(g:5e4)(f:PSt->M PF):PSt->M PF:=fun ρ=>bnd (fs ρ) fun x=>match x with
 | [.c k]=>loopE g f k 1000 0 ρ
 | _=>fun _=>none
end
end Pu
namespace Pu
open PySem PySem.Spec L2
open PyProof.Rows hiding St Fr
section
variable {X:Cx}{e o:Expr}{es:4e8}{fo:4e0}{fs:2e8}{apos cpos:Pos}
def getH2:PV->List PV->Option PV
 | .dct ks vs,[p,.int i]=>match keyP p with
  | some q=>some ((lookP ks vs q).getD (.int i))
  | none=>none
 | _,_=>none
def rGet2:V->List V->Hp->VK->Prop:=fun x vs H Q=>∃a y o d,x=.ref a/\vs=[y,d]/\(∃kvs k,H a=some (.dK kvs)/\y=kV k/\o=valV kvs k)/\Q (o.getD d) H
theorem mt_get2:MtR X "dict.get" rGet2:=by
 intro pins s σ H x vs v us Q I rx rv h
 obtain ⟨a,y,o,d,rfl,rfl,⟨kvs,k,e,rfl,rfl⟩,q⟩:=h
 cases rx
 obtain ⟨u,u2,rfl,ru,ru2⟩:=vals2 rv
 obtain ⟨z,hd,ws,rel,dd⟩:=dk_of I.hok e
 refine call_meetsIn PySem.F.slot_dict_get dd.typeIs PySem.F.entry_dict_get (PySem.F.args_dict_get_3 _ _ _) (meets_dict_get_default (mixKind X.prog X.w) a (kV_is ru) hd u2) ⟨_,dd.mapOf,?_⟩
 have rr:=rel.val k
 refine ⟨(valV kvs k).getD d,H,I.tok _,?_,q⟩
 cases h1:valV kvs k with
 | none=>
  rw[h1] at rr
  cases h2:Ui ws k with
  | none=>exact ru2
  | some w=>rw[h2] at rr;exact rr.elim
 | some w=>
  rw[h1] at rr
  cases h2:Ui ws k with
  | none=>rw[h2] at rr;exact rr.elim
  | some w'=>rw[h2] at rr;exact rr
theorem get2_ok:Mtok X.K rGet2 getH2:=by
 intro ι H C q v ps vs z Q cr lq ls e k
 unfold getH2 at e
 split at e
 ·rename_i ks ws p i
  split at e
  ·rename_i key hk
   cases e
   cases ls with
   | cons l t=>cases t with
    | cons l2 t=>cases t with
     | nil=>
      cases l2
      obtain ⟨a,qs,us,rfl,rfl,hd,hl,r⟩:=liesD lq
      refine ⟨a,_,_,_,rfl,rfl,⟨_,key,hd,lies_key l hk,rfl⟩,?_⟩
      cases h1:lookP (qs.map kP) ws key with
      | none=>rw[(Zcz hl r).2 h1];rw[h1] at k;exact k _ H .refl cr repI
      | some w=>
       obtain ⟨v',hv',rv'⟩:=(Zcz hl r).1 w h1
       rw[hv'];rw[h1] at k;exact k _ H .refl cr rv'
  ·cases e
 ·cases e
noncomputable def rBI:R2:=fun x y H Q=>∃b j,x=.bl b/\y=.int j/\Q (.int ((if b=true then (1:Int) else 0) + j)) H
theorem op_addBI:OpR X (Wx .Add) rBI:=by
 intro pins s σ H x y v u Q I rx ry h
 obtain ⟨b,j,rfl,rfl,q⟩:=h
 cases (show v=.bool b from rx)
 obtain ⟨t,rfl⟩:=ry
 exact IntBool.add_bool_int ⟨.int _,H,I.tok _,⟨_,rfl⟩,q⟩
def addBP:PV->PV->Option PV
 | .bl b,.int j=>some (.int ((if b=true then (1:Int) else 0) + j))
 | p,q=>addP p q
theorem addB_ok:L2ok X.K (fun x y H Q=>((rI0 fun i j=>.int (i + j)) x y H Q\/(∃i j,x=.str i/\y=.str j/\i.length + j.length<=Yu/\Q (.str (i++j)) H)\/rCatL X.K x y H Q\/rCatT' X.K x y H Q)\/rBI x y H Q) addBP:=by
 intro ι H C p q vx vy z Q cr lx ly e k
 unfold addBP at e
 split at e
 ·cases e;cases lx;cases ly
  exact .inr ⟨_,_,rfl,rfl,k _ H .refl cr repI⟩
 ·exact .inl (add_ok ι H C p q vx vy z Q cr lx ly e k)
variable {a b:Expr}{fa fb:4e0}{pos:Pos}
theorem fn_none {P:Yq}{w:World}{K:W.Frag}{mg:2e2}{base:Heap}{k:Nat}{f:Addr}{fd:Yw}{ps:4e6}:FnOk P w K mg base CX0 k f fd ps (liftSp K fun _ _=>none):=
 ⟨fun vs H Q E h=>(by obtain ⟨_,_,_,_,_,_,_,e,_⟩:=h;cases e),fun A outer s H args us vs Q E _ _ _ _ h=>by obtain ⟨_,_,_,_,_,_,_,e,_⟩:=h;cases e⟩
end
section
variable {X:Cx}
noncomputable def rEmp (K:W.Frag)(g:Bool->Bool):R2:=fun x y H Q=>∃a b xs,x=.ref a/\y=.ref b/\SqT K H a xs/\SqT K H b []/\Q (.bl (g xs.isEmpty)) H
theorem eqDs_emp:∀(us:3e5),eqDs (us.map fun _=>PV.non) []=us.isEmpty
 | []=>rfl
 | _::_=>rfl
theorem op_eqE (hu:X.A.units + 64 < cLine):OpR X (Y6 .Eq) (rEmp X.K id):=by
 intro pins s σ H x y v u Q I rx ry h
 obtain ⟨a,b,xs,rfl,rfl,ha,hb,k⟩:=h
 cases rx;cases ry
 obtain ⟨us,r1,p1,_⟩:=I.tuple ha
 obtain ⟨vs,r2,p2,_⟩:=I.tuple hb
 have hv:vs=[]:=XQ r2.length.symm
 subst hv
 have q:=RcAt.tupD (A:=X.A) (ps:=us.map fun _=>PV.non) (qs:=[]) p1 p2 3e4 rfl 1e3 (fun j h1 h2=>absurd h2 (XG _))
 rw[eqDs_emp] at q
 refine q X.prog X.w X.xe _ ⟨.bl _,H,I,rfl,?_⟩
 have e:us.isEmpty=xs.isEmpty:=by
  have:=r1.length
  cases us<;>cases xs<;>simp at this ⊢
 rw[e];exact k
theorem op_neE (hu:X.A.units + 64 < cLine):OpR X (Y6 .NotEq) (rEmp X.K not):=by
 intro pins s σ H x y v u Q I rx ry h
 obtain ⟨a,b,xs,rfl,rfl,ha,hb,k⟩:=h
 cases rx;cases ry
 obtain ⟨us,r1,p1,_⟩:=I.tuple ha
 obtain ⟨vs,r2,p2,_⟩:=I.tuple hb
 have hv:vs=[]:=XQ r2.length.symm
 subst hv
 have q:=RcNeAt.tupD (A:=X.A) (ps:=us.map fun _=>PV.non) (qs:=[]) p1 p2 3e4 rfl 1e3 (fun j h1 h2=>absurd h2 (XG _))
 rw[eqDs_emp] at q
 refine q X.prog X.w X.xe _ ⟨.bl _,H,I,rfl,?_⟩
 have e:us.isEmpty=xs.isEmpty:=by
  have:=r1.length
  cases us<;>cases xs<;>simp at this ⊢
 rw[e];exact k
noncomputable def empP (g:Bool->Bool):PV->PV->Option PV
 | .tup xs,.tup []=>some (.bl (g xs.isEmpty))
 | _,_=>none
theorem emp_ok {g:Bool->Bool}:L2ok X.K (rEmp X.K g) (empP g):=by
 intro ι H C p q vx vy z Q cr lx ly e k
 unfold empP at e
 split at e
 ·cases e
  obtain ⟨a,vs,rfl,h1,r1⟩:=liesT lx
  obtain ⟨b,ws,rfl,h2,r2⟩:=liesT ly
  have hw:ws=[]:=r2.inv0
  subst hw
  rename_i xs
  refine ⟨a,b,vs,rfl,rfl,h1.sq,h2.sq,?_⟩
  have e:vs.isEmpty=xs.isEmpty:=by
   have:=r1.length
   cases vs<;>cases xs<;>simp at this ⊢
  rw[e];exact k _ H .refl cr repBl
 ·cases e
end
noncomputable abbrev tiO (l:Addr):Obj:={ cls:=.type "tuple_iterator",data:=.fields #[.ref l,.int 0 0] }
abbrev enO0 (it:Addr):Obj:={ cls:=.type "enumerate",data:=.fields #[.none,.bool false,.ref it,rawInt 0,.none,.none] }
theorem enum_newT (l:Addr)(items:Array Value)(n:Nat)(dct:Option Addr)(sl:Array (Option Value)):
  Meets (V5.«enumerate.__new__» ⟨[.type "enumerate",.ref l],[]⟩) (fun _ R s=>s.heap.get? l=some { cls:=.type "tuple",dict:=dct,data:=.seq items n,slots:=sl }/\
   R (.ok (.ret (.ref (s.heap.push (tiO l)).objs.size))) { s with heap:=(s.heap.push (tiO l)).push (enO0 s.heap.objs.size) }):=
 .of_wp fun prog w A R ⟨hp,g,d,tk,os⟩ ⟨hl,h⟩=>by
  have below:=sub_enumerate
  have L:Heap.IsTuple (Shared.heap ⟨hp,g,d,tk,os⟩) l items:=⟨_,hl,rfl,n,rfl⟩
  wp_walk using Vq hl
  apply wpAny_stack_any
  intro st
  apply Ye
  split
  case' h_1=>rename_i c _ _ _ _ _;cases (c==X1 "enumerate")
  all_goals
   wp_walk using Vq hl,VQ L
   exact ⟨_,rfl,h⟩
section
variable {prog:Yq}{w:World}{A:Around}{E:1e4}{s:Shared}
theorem call_enumT {l:Addr}{items:Array Value}{Q:1e4}(hL:s.heap.IsTuple l items)
  (h:∀h',IsEnum h' (s.heap.objs.size + 1) s.heap.objs.size 0 .none->h'.IsTupleIter s.heap.objs.size l 0->(∀b o,s.heap.get? b=some o->h'.get? b=some o)->Q (.ref (s.heap.objs.size + 1)) { s with heap:=h' }):
  wpAny 3e9 A (call (.type "enumerate") [.ref l]) Q E s:=by
 obtain ⟨⟨c,dct,dt,sl⟩,hl,hc,n,hd⟩:=hL
 cases (show c=.type "tuple" from hc)
 cases (show dt=.seq items n from hd)
 refine callType_new F.called_enumerate 2e4 (F.typeCall_enumerate_1 _) (F.newCall_enumerate_1 _) (fun obj=>F.args_object_init_2 obj _) F.entry_enumerate_new (enum_newT l items n dct sl) ⟨hl,?_⟩
 have hz:(s.heap.push (tiO l)).objs.size=s.heap.objs.size + 1:=Heap.size_push ..
 have he:IsEnum ((s.heap.push (tiO l)).push (enO0 s.heap.objs.size)) (s.heap.objs.size + 1) s.heap.objs.size 0 .none:=by
  have q:=Yp (s.heap.push (tiO l)) (o:=enO0 s.heap.objs.size) rfl
  rw[hz] at q;exact q
 show _/\_
 rw[hz]
 exact ⟨⟨_,he,rfl⟩,h _ he ⟨_,Yc _ (Yp _ rfl),rfl,rfl⟩ fun b o x=>Yc _ (Yc _ x)⟩
theorem draws_tup (hh:A.handled=none)(it l:Addr)(hne:l≠it)(items:Array Value):
  Draws prog w A it [it,l] items.size (fun i v=>items[i]? = some v) (fun i h=>h.IsTupleIter it l i/\h.IsTuple l items) where
 live:=fun _ _ st=>by obtain ⟨⟨o,ho,_⟩,_⟩:=st;exact ⟨o,ho⟩
 frame:=fun _ _ _ st k=>⟨st.1.at fun o e=>k it 3e4 o e,st.2.at fun o e=>k l 3e4 o e⟩
 item:=fun i s Q E hi st hQ=>tup_nextOf st.1 st.2 (x:=items[i]) (by simp[hi]) fun h' a b=>hQ _ h' s.toks (by simp[hi]) ⟨a,st.2.extBut b.extBut hne⟩ b
 done:=fun s Q E st hE=>ZcF hh st.1 st.2 3e4 hE
end
def JeT (K:W.Frag)(a:Addr):It:=⟨fun i H=>∃xs v,SqT K H a xs/\xs[i]? = some v,fun i H x H'=>∃b v,H b=none/\x=.ref b/\H'=upd H b (.tup [.int ((i:Nat):Int),v])/\∀xs,SqT K H a xs->xs[i]? = some v,
 fun i H=>∃xs,SqT K H a xs/\xs.length<=i⟩
theorem turn_enumT {P:Yq}{w:World}{K:W.Frag}{elts:4e8}{x1:Nat}{pos:Pos}{a e it:Addr}(hne:e≠it)(hai:a≠it)(hea:e≠a):Turn P w K (.Tuple elts x1 pos) (JeT K a) [e,it] e
  (fun i h=>(∃old,IsEnum h e it ((i:Nat):Int) old)/\h.IsTupleIter it a i) where
 mem:=by simp
 obj:=fun i h st b hb=>by
  obtain ⟨⟨old,he⟩,o,hi,hc,hd⟩:=st
  simp only[Yn,Y3,or_false] at hb
  rcases hb with rfl | rfl
  ·exact ⟨_,he,fun v q=>by cases q⟩
  ·exact ⟨o,hi,fun v q=>by rw[hd] at q;cases q⟩
 keep:=fun i h h' st k=>by
  obtain ⟨⟨old,he⟩,hi⟩:=st
  exact ⟨⟨old,k e 3e4 _ he⟩,hi.at fun o z=>k it 3e4 o z⟩
 item:=by
  intro X hP hw hK hc i pins s σ H E I hf st hg
  subst hP hw hK
  obtain ⟨⟨old,he⟩,hi⟩:=st
  obtain ⟨xs,v,hq,hx⟩:=hg
  obtain ⟨its,rv,p,hz⟩:=I.tuple hq
  obtain ⟨u,hu,ru⟩:=rv.get hx
  have D:=draws_tup (prog:=X.prog) (w:=X.w) (A:=X.A.in1) (I.ok.hd hc) it a hai its.toArray
  refine wpAny_pyNext_enum_itemD D he ⟨hi,p⟩ (by have:=rv.length;have:=(YN.mp hu).1;simp;lia) hne (by simp[hne,hea]) fun x h' tk hx' ho hi' hT hsz hk=>⟨_,rfl,?_⟩
  have ex:x=u:=by
   have q:its.toArray[i]? = some x:=hx'
   simp at q hu
   rw[q] at hu;exact YA hu
  subst ex
  refine VH (s:={ s with heap:=h',toks:=tk + 1 }) ho fun h3 he3 sb=>?_
  have J1:Inv X pins σ H { s with heap:=h3,toks:=tk + 1 }:=turnedL (ch:=[e,it]) I (fun b o hb z=>by
   simp only[Yn,Y3,or_false,not_or] at hb
   exact sb.extBut _ _ hb.1 (hk b o hb.1 hb.2 z)) hf
  have hlt:∀{b o},s.heap.get? b=some o->b≠s.heap.objs.size:=fun e=>Yo (Ys e)
  have hn:H s.heap.objs.size=none:=I.hok.fresh (Yk _)
  have hT3:=sb.extBut _ _ (hlt he).symm hT
  have J2:=track (ob:=.tup [.int ((i:Nat):Int),v]) J1 hn I.sz (X3 I.lt) (fun x c e=>by obtain ⟨v,q⟩:=I.cell x c e;exact Yo q.lt) (fun p hp=>hlt (I.pin p hp).1)
   ⟨by show 2<=Yu;rw[YS];decide,[.int ((i:Nat):Int) tk,x],.cons ⟨_,rfl⟩ (.cons ru .nil),⟨_,hT3,rfl,_,rfl⟩⟩
  refine ⟨.ref s.heap.objs.size,_,J2,rfl,⟨_,v,hn,rfl,rfl,fun ys hy=>by rw[I.tuple_inj hy hq];exact hx⟩,⟨⟨_,he3⟩,hi'.1.at fun o z=>sb.extBut _ _ hne.symm z⟩,fun b hb=>?_⟩
  have hb':b≠s.heap.objs.size:=by
   simp only[Yn,Y3,or_false] at hb
   rcases hb with rfl | rfl
   ·exact hlt he
   ·obtain ⟨o,z,_⟩:=hi;exact hlt z
  rw[Zax hb'];exact (hf b hb).1
 done:=by
  intro X hP hw hK hc i pins s σ H E I hf st hg
  subst hP hw hK
  obtain ⟨⟨old,he⟩,hi⟩:=st
  obtain ⟨xs,hq,hx⟩:=hg
  obtain ⟨its,rv,p,hz⟩:=I.tuple hq
  have hl:=rv.length
  have D:Draws X.prog X.w X.A.in1 it [it,a] i (fun _ _=>False) (fun k h=>k=i/\h.IsTupleIter it a i/\h.IsTuple a its.toArray):=
   ⟨fun _ _ q=>by obtain ⟨_,⟨o,ho,_⟩,_⟩:=q;exact ⟨o,ho⟩,fun _ _ _ q k=>⟨q.1,q.2.1.at fun o e=>k it 3e4 o e,q.2.2.at fun o e=>k a 3e4 o e⟩,fun k _ _ _ hk q _=>absurd q.1 (Yo hk),
    fun s Q E q hE=>ZcF (show X.A.in1.handled=none from I.ok.hd hc) q.2.1 q.2.2 (by simp;lia) hE⟩
  refine wpAny_pyNext_enum_endD D he ⟨rfl,hi,p⟩ fun h' eb=>⟨rfl,turnedL (t':=s.toks) (ch:=[e,it]) I (fun b o hb z=>?_) hf⟩
  simp only[Yn,Y3,or_false,not_or] at hb
  exact eb b o hb.2 z
 self:=fun _ _ _ _ _ st h=>by obtain ⟨⟨old,he⟩,_⟩:=st;exact Vk he h
section
variable {X:Cx}{l:Expr}{elts:4e8}{x1:Nat}{tpos p pos:Pos}
def iEnumT (K:W.Frag)(tl:TA):TI:=fun σ H R=>tl σ H fun xs H1=>∃a,xs=[.ref a]/\(∃vs,SqT K H1 a vs)/\R (JeT K a) H1
theorem pi_enumT {tl:TA}(hg:Gl X "enumerate")(hm:X.mg "enumerate"=none)(ha:PA X [l] tl)(hs:Yj [l] X.env=[(false,eval l X.env)]:=by rfl):PI X (.Tuple elts x1 tpos) (.Call (.Name "enumerate" p) [l] [] pos) (iEnumT X.K tl):=by
 intro pins s σ H R I h
 refine Call_ (Zcn I hg hm 1e0 (Xs (thn (ha pos pins s σ H _ I h) fun us s1 ⟨vs,H1,I1,r1,q1⟩=>?_) hs rfl))
 obtain ⟨a,rfl,⟨ws,hq⟩,q⟩:=q1
 obtain ⟨u,rfl,ru⟩:=vals1 r1
 cases ru
 obtain ⟨its,rv,pl,hz⟩:=I1.tuple hq
 refine call_enumT pl fun h' he hi k=>?_
 have J:Inv X pins σ H1 { s1 with heap:=h' }:=I1.kept (t':=s1.toks) k
 have la:a < s1.heap.objs.size:=by obtain ⟨o,z,_⟩:=pl;exact Ys z
 refine Vk (s:={ s1 with heap:=h' }) he ⟨s1.heap.objs.size + 1,[s1.heap.objs.size + 1,s1.heap.objs.size],_,_,H1,rfl,J,turn_enumT (Nat.succ_ne_self _) (Yo la) (X3 (Wd la)),⟨⟨_,he⟩,hi⟩,fun b hb=>?_,q⟩
 have hb':s1.heap.objs.size<=b:=by
  simp only[Yn,Y3,or_false] at hb
  rcases hb with rfl | rfl<;>lia
 exact I1.fpOk hb' (I1.hok.fresh hb')
def enumPT:List SV->Option 6e2
 | [.v (.tup xs)]=>some (enumL xs)
 | _=>none
def mEnumT (fs:2e8):PSt->M 6e2:=fun ρ=>bnd (fs ρ) fun xs=>opM fun _=>enumPT xs
theorem iter_enumT {K:W.Frag}{ι:3e1}{H:Hp}{C:Cs}{a:Addr}{xs:List PV}{vs:List V}(cr:CR K ι H C)(h:TpR H a vs)(r:Reps K ι H xs vs):Iter K ι H (enumL xs) (JeT K a):=by
 have keep:∀ι2 H2,Ex ι ι2 H H2->SqT K H2 a vs:=fun ι2 H2 x=>by
  exact .inl (.inl (x.out _ _ (cr.notup h (fun _ e=>nomatch e) fun _ e=>nomatch e) h).2)
 refine ⟨fun ι2 H2 C2 x c i hi=>?_,fun ι2 H2 C2 x c i v H3 hi y=>?_,fun ι2 H2 C2 x c=>⟨vs,keep ι2 H2 x,by rw[Zba,r.length];exact Yk _⟩⟩
 ·rw[Zba] at hi
  obtain ⟨v,e,_⟩:=r.get (Ya hi)
  exact ⟨vs,v,keep ι2 H2 x,e⟩
 ·rw[Zba] at hi
  obtain ⟨b,w,hn,rfl,rfl,y⟩:=y
  obtain ⟨p,hp,rp⟩:=r.get' (y vs (keep ι2 _ x))
  refine ⟨fun c o e=>by rw[Zax (Zaq e hn)];exact e,.tup [.int ((i:Nat):Int),p],?_,Zcf hn (.cons repI (.cons (Rep.tr cr x.out p w rp) .nil))⟩
  unfold enumL
  simp[hi]
  rw[Ya hi] at hp
  exact YA hp
end
end Pu
namespace Hd
open PySem PySem.W PySem.Spec PySem.Calls L2 Pu
open PyProof.Rows hiding St Fr
noncomputable def kf (h:Heap)(as:3e1):Frag:=as.filterMap fun a=>(h.get? a).map fun o=>(a,o)
theorem kf_get {h:Heap}:∀{as:3e1} {a:Addr} {o:Obj},(kf h as).lookup a=some o->h.get? a=some o
 | [],_,_,e=>by cases e
 | b::as,a,o,e=>by
  unfold kf at e
  rw[Wl] at e
  cases g:h.get? b with
  | none=>rw[g] at e;exact kf_get e
  | some p=>
   rw[g] at e
   simp only[Vz,YJ] at e
   by_cases q:a=b
   ·subst q;rw[beq_self_eq_true] at e;cases e;exact g
   ·rw[beq_eq_false_iff_ne.mpr q] at e;exact kf_get e
theorem kf_in (h:Heap)(as:3e1):(kf h as).In h:=fun _ _ e=>kf_get e
theorem kf_at {h:Heap}{a:Addr}{o:Obj}(g:h.get? a=some o):∀{as:3e1},a∈as->(kf h as).lookup a=some o
 | [],m=>by cases m
 | b::as,m=>by
  unfold kf
  rw[Wl]
  by_cases q:a=b
  ·subst q;rw[g];simp
  ·have m':a∈as:=(Yn.mp m).resolve_left q
   cases g':h.get? b with
   | none=>exact kf_at g m'
   | some p=>
    simp only[Vz,YJ]
    rw[beq_eq_false_iff_ne.mpr q]
    exact kf_at g m'
def At (mg:2e2)(h:Heap)(as:3e1)(d:DefRec):Prop:=∃(a c:Addr) (o:Obj) (pm doc:Value),mg d.name=some (.ref a)/\h.get? a=some o/\o.data=.func (docDef d.name d.params d.body d.scope pm (.ref c) doc)/\h.CodeRec (.ref c) d.name/\a∈as/\c∈as
theorem at_all {mg:2e2}{h:Heap}(as0:3e1):∀ds:List DefRec,(∀d∈ds,∃a o pm code doc,mg d.name=some (.ref a)/\h.get? a=some o/\o.data=.func (docDef d.name d.params d.body d.scope pm code doc)/\h.CodeRec code d.name)->
  ∃as:List Addr,(∀a∈as0,a∈as)/\∀d∈ds,At mg h as d
 | [],_=>⟨as0,fun _ m=>m,fun _ m=>nomatch m⟩
 | d::ds,T=>by
  obtain ⟨as,h0,ih⟩:=at_all as0 ds fun e m=>T e (.tail _ m)
  obtain ⟨a,o,pm,cd,doc,h1,h2,h3,h4⟩:=T d (.head _)
  obtain ⟨c,oc,vs,t,rfl,r⟩:=h4
  refine ⟨a::c::as,fun b m=>.tail _ (.tail _ (h0 b m)),fun e m=>?_⟩
  rcases Yn.mp m with rfl | m
  ·exact ⟨a,c,o,pm,doc,h1,h2,h3,⟨c,oc,vs,t,rfl,r⟩,.head _,.tail _ (.head _)⟩
  ·obtain ⟨a',c',o',pm',doc',q1,q2,q3,q4,q5,q6⟩:=ih e m
   exact ⟨a',c',o',pm',doc',q1,q2,q3,q4,.tail _ (.tail _ q5),.tail _ (.tail _ q6)⟩
def FnAt (K:Frag)(mg:2e2)(x:Str)(st:Stmt):Prop:=∃f fd,mg x=some (.ref f)/\Fun K x x st f fd
noncomputable def four (d:DefRec):Str×Arguments×List Stmt×Scope:=(d.name,d.params,d.body,d.scope)
def fourS (p:Str×Stmt):Str×Arguments×List Stmt×Scope:=(p.1,defArgs p.2,defBody p.2,defScope p.2)
theorem fn_at {mg:2e2}{h:Heap}{as:3e1}{ds:List DefRec}{sts:List (Str×Stmt)}(A:∀d∈ds,At mg h as d)(es:ds.map four=sts.map fourS)(i:Nat){x:Str}{st:Stmt}(e:sts[i]? = some (x,st)):FnAt (kf h as) mg x st:=by
 have q:(ds.map four)[i]? = some (fourS (x,st)):=by rw[es,YK,e];rfl
 obtain ⟨d,e',q⟩:=Xg.mp ((YK ..).symm.trans q)
 obtain ⟨n,ps,b,sc,p⟩:=d
 obtain ⟨rfl,q⟩:=UA q
 obtain ⟨q1,q⟩:=UA q
 obtain ⟨q2,q3⟩:=UA q
 dsimp only at q1 q2 q3
 subst q1 q2 q3
 obtain ⟨a,c,o,pm,doc,h1,h2,h3,h4,h5,h6⟩:=A _ (Xc e')
 obtain ⟨c',oc,vs,t,e1,g,hd,hv⟩:=h4
 cases e1
 obtain ⟨cl,dd,dt,sl⟩:=o
 cases (show dt=_ from h3)
 have k1:=kf_at h2 h5
 have k2:=kf_at g h6
 refine ⟨a,_,h1,fun_mk (oc:=cl) (od:=dd) (osl:=sl) (kV:=.none) (doc:=doc) (pm:=pm) (an:=none) (ct:=.none) (cdv:=.ref c) k1 ?_ ?_⟩
 ·obtain ⟨ocl,odd,odt,osl⟩:=oc
  cases (show odt=_ from hd)
  unfold codeIn
  dsimp only
  rw[k2]
  obtain ⟨l⟩:=vs
  match l,hv with
  | _::v::r,hv=>
   cases (show v=_ by simpa using hv)
   simp
 ·unfold keepIn
  dsimp only
  rw[k1]
theorem int_of {mg:2e2}{x:Str}{i:Int}(h:∃v,mg x=some v/\∀h':Heap,Reads h' v (.int i) []):∃t,mg x=some (.int i t):=by
 obtain ⟨v,e,r⟩:=h
 cases r default
 exact ⟨_,e⟩
theorem str_of {mg:2e2}{x y:Str}(h:∃v,mg x=some v/\∀h':Heap,Reads h' v (.str y) []):∃t,mg x=some (.str y t):=by
 obtain ⟨v,e,r⟩:=h
 cases r default
 exact ⟨_,e⟩
noncomputable def seenTab (names:4e6)(tas:3e1)(h:Heap):Option (List (Option (Option Value)))×List (Option Obj):=
 ((h.get? Xk).map fun om=>names.map (nsIn [(Xk,om)] Xk),tas.map h.get?)
def tabHook (names:4e6)(vals:List (Option (Option Value)))(tas:3e1)(tos:Params->List Obj):Hook where
 α:=Option (List (Option (Option Value)))×List (Option Obj)
 obs:=fun s=>seenTab names tas s.heap
 val:=fun w=>(some vals,(tos w.params).map some)
 says:=fun w h=>(∃om,h.get? Xk=some om/\names.map (nsIn [(Xk,om)] Xk)=vals)/\tas.map h.get? = (tos w.params).map some
 of:=fun w s e=>by
  obtain ⟨e1,e2⟩:=UA e
  obtain ⟨om,g,e⟩:=Xg.mp e1
  exact ⟨⟨om,g,e⟩,e2⟩
 keeps:=fun w h h' ⟨⟨om,g,e⟩,e2⟩ k=>by
  refine ⟨⟨om,k _ _ g,e⟩,?_⟩
  rw[←e2]
  refine VD fun a m=>?_
  have:∃o,h.get? a=some o:=by
   have m2:h.get? a∈tas.map h.get?:=VA m
   rw[e2] at m2
   obtain ⟨o,_,q⟩:=YM.mp m2
   exact ⟨o,q.symm⟩
  obtain ⟨o,q⟩:=this
  rw[q,k _ _ q]
theorem tab_mg {h:Heap}{mg:2e2}(G:h.Ns Xk mg){names:4e6}{vals:List (Option (Option Value))}(Y:∃om,h.get? Xk=some om/\names.map (nsIn [(Xk,om)] Xk)=vals)(i:Nat){x:Str}{v:Value}
  (e1:names[i]? = some x) (e2:vals[i]? = some (some (some v))):mg x=some v:=by
 obtain ⟨om,g,e⟩:=Y
 refine mg_of (K:=[(Xk,om)]) (fun a o q=>?_) G ?_
 ·rw[YJ] at q
  by_cases z:a=Xk
  ·subst z;rw[beq_self_eq_true] at q;cases q;exact g
  ·rw[beq_eq_false_iff_ne.mpr z] at q;cases q
 ·rw[←e,YK,e1] at e2
  simpa using e2
theorem tab_at {h:Heap}{tas:3e1}{tos:List Obj}(e:tas.map h.get? = tos.map some)(i:Nat){a:Addr}{o:Obj}(e1:tas[i]? = some a)(e2:tos[i]? = some o):h.get? a=some o:=by
 have q:=congrArg (fun l:List (Option Obj)=>l[i]?) e
 simp only[YK,e1,e2,Vz] at q
 exact YA q
noncomputable def defPos (s:Stmt):Pos:=match s with
 | .FunctionDef _ _ _ _ _ _ _ _ _ p=>p
 | _=>⟨0,0,0,0⟩
noncomputable def isHere (p:Yq)(loose:4e6)(x:Str):Bool:=startupNames.contains x||loose.contains x||((recsOf p).map (·.name)).contains x||((litsOf p).map (·.1)).contains x||((clssOf p loose).map (·.name)).contains x
theorem nones {p:Yq}{loose:4e6}{mean:ExcName->Option Value}{mg mb:2e2}{h:Heap}(T:Top p loose mean mg mb h){xs:4e6}(e:xs.all (fun x=>!isHere p loose x)=true)(i:Nat){x:Str}(hx:xs[i]? = some x):mg x=none:=by
 have q:=Yt.mp e x (Xc hx)
 unfold isHere at q
 simp only[Bool.not_or,Yd,Bool.not_eq_true',List.contains_eq_mem,decide_eq_false_iff_not] at q
 exact T.free x q.1.1.1.1 q.1.1.1.2 q.1.1.2 q.1.2 q.2
noncomputable def spLaw (K:Frag):Sp:=fun vs H Q _=>∃(a:Addr) (ns:List Int),vs=[.ref a]/\SqL K H a (ns.map V.int)/\ns.length<=63/\∀H',Q (.bl true) H'
theorem reps_ints {K:Frag}{ι:3e1}{H:Hp}:∀ns:List Int,Reps K ι H (ns.map PV.int) (ns.map V.int)
 | []=>by unfold Reps;rfl
 | n::ns=>by
  rw[YO,YO];unfold Reps
  exact ⟨_,_,rfl,by unfold Rep;rfl,reps_ints ns⟩
theorem spLaw_lift {K:Frag}{F:List SV->M SV}(hF:∀ns:List Int,ns.length<=63->F [.v (.lst (ns.map .int))] []=some (.v (.bl true),[]))(vs:List V)(H:Hp)(Q:VK)(E:XK)(h:spLaw K vs H Q E):liftSp K F vs H Q E:=by
 obtain ⟨a,ns,rfl,hS,hl,hQ⟩:=h
 refine ⟨[],[.v (.lst (ns.map .int))],[],.v (.bl true),[],⟨rfl,List.nodup_nil,fun k a c e=>by cases e⟩,?_,hF ns hl,fun v H' _ _ r=>?_⟩
 ·unfold RepSs
  refine ⟨_,_,rfl,?_,by unfold RepSs;rfl⟩
  unfold RepS Rep
  refine ⟨a,_,rfl,?_,reps_ints ns⟩
  rcases hS with h | h
  ·exact .inl ⟨Y3,h⟩
  ·exact .inr h
 ·have e:v=.bl true:=by unfold RepS Rep at r;exact r
  subst e;exact hQ H'
theorem walk {l:OpenLaw}{k:Nat}{q:Yq}{loose:4e6}{XP:(Str->Option Value)->Heap->Prop}{YP:World->Heap->Prop}{d:DefRec}(hn:l.most=some 63)(hdf:d.params.defaults=[])(hr:Room k UE)(as0:3e1)
  (F:∀(w:World) (s₀:Shared) (mg mb:2e2) (h:Heap) (as:3e1),Ground q loose [] XP w s₀ mg mb h->YP w h->(∀a∈as0,a∈as)->(∀d∈recsOf q,At mg h as d)->∀fa:Addr,mg d.name=some (.ref fa)->
   ∃fd:Yw,(∀(s:Shared) (u:Value),BindsTo s fd ⟨[u],[]⟩ [("_law_script",u)])/\∀base:Heap,FnOk l.prog w (kf h as) mg base CX0 k fa fd ["_law_script"] (spLaw (kf h as))):
  WalkO q loose XP YP l.row.toRowW d [] (fun f vs=>PySem.call f vs):=by
 refine Att.attach_call hn hdf fun w s₀ s₁ mg mb fa o pm cd doc a vs ns G Y ho hd hcd hmg hobj hints hlen hg=>?_
 obtain ⟨as,h0,A⟩:=at_all as0 (recsOf q) G.T.fn
 obtain ⟨fd,hb,hF⟩:=F w s₀ mg mb _ as G Y h0 A fa hmg
 exact law_call (kf_in s₁.heap as) G.T.g G.T.b G.T.builtins G.T.nolimit hg hobj hints (YG hlen 2e4) hr (fun base _ _=>hF base) hb (fun H hO hS=>⟨a,ns,rfl,hS,hlen,fun _=>rfl⟩) fun H e s' z=>z
end Hd
namespace L2
open PySem PySem.Spec PyProof.Rows
abbrev GT:=TI×TG×TT
end L2
namespace Pu
open PySem PySem.Spec PySem.W PySem.Calls L2
open PyProof.Rows hiding St Fr
abbrev MG:=(PSt->M 6e2)×(PV->PSt->Option PSt)×(PSt->M Bool)
end Pu
namespace Pu
open PySem PySem.Spec L2
open PyProof.Rows hiding St Fr
@[irreducible] def QEM (X:Cx) (e:Expr) (f:4e0):Prop:=EM X e f
theorem QEM_eq:@QEM=@EM:=by unfold QEM;rfl
@[irreducible] def QAM (X:Cx) (es:4e8) (f:2e8):Prop:=AM X es f
theorem QAM_eq:@QAM=@AM:=by unfold QAM;rfl
@[irreducible] def QTMt (X:Cx) (e:Expr) (f:PSt->M Bool):Prop:=TMt X e f
theorem QTMt_eq:@QTMt=@TMt:=by unfold QTMt;rfl
@[irreducible] def QWM (X:Cx) (e:Expr) (f:PSt->M Bool):Prop:=WM X e f
theorem QWM_eq:@QWM=@WM:=by unfold QWM;rfl
@[irreducible] def QFM (X:Cx) (e:Expr) (f:PSt->M 6e2):Prop:=FM X e f
theorem QFM_eq:@QFM=@FM:=by unfold QFM;rfl
@[irreducible] def QSM (X:Cx) (st:Stmt) (f:PSt->M PF):Prop:=SM X st f
theorem QSM_eq:@QSM=@SM:=by unfold QSM;rfl
@[irreducible] def QBM (X:Cx) (sts:List Stmt) (f:PSt->M PF):Prop:=BM X sts f
theorem QBM_eq:@QBM=@BM:=by unfold QBM;rfl
@[irreducible] def QGM (X:Cx) (tg:Expr) (g:5e4):Prop:=GM X tg g
theorem QGM_eq:@QGM=@GM:=by unfold QGM;rfl
@[irreducible] def QGMs (X:Cx) (ts:4e8) (g:List PV->PSt->Option PSt):Prop:=GMs X ts g
theorem QGMs_eq:@QGMs=@GMs:=by unfold QGMs;rfl
@[irreducible] def QIM (X:Cx) (tg iter:Expr) (f:PSt->M 6e2):Prop:=IM X tg iter f
theorem QIM_eq:@QIM=@IM:=by unfold QIM;rfl
@[irreducible] def QTsM (X:Cx) (ifs:4e8) (t:PSt->M Bool):Prop:=TsM X ifs t
theorem QTsM_eq:@QTsM=@TsM:=by unfold QTsM;rfl
@[irreducible] def QOM (X:Cx) (e:Option Expr) (f:PSt->M (Option Int)):Prop:=OM X e f
theorem QOM_eq:@QOM=@OM:=by unfold QOM;rfl
@[irreducible] def QDM (X:Cx) (ks:List (Option Expr)) (es:4e8) (keys:4e6) (f:2e8):Prop:=DM X ks es keys f
theorem QDM_eq:@QDM=@DM:=by unfold QDM;rfl
end Pu
local macro_rules
 | `(tactic| subst_eqs)=>`(tactic| simp only[Pu.QEM_eq,Pu.QAM_eq,Pu.QTMt_eq,Pu.QWM_eq,Pu.QFM_eq,Pu.QSM_eq,Pu.QBM_eq,Pu.QGM_eq,Pu.QGMs_eq,Pu.QIM_eq,Pu.QTsM_eq,Pu.QOM_eq,Pu.QDM_eq] at *)
namespace Pu
open PySem PySem.Spec L2
open PyProof.Rows hiding St
theorem ZaY {X:Cx}{e:Expr}{f:PSt->M Bool}(h:QWM X e f):QTMt X e f:=by
 subst_eqs
 exact h _
section
variable {X:Cx}{a b e c:Expr}{es:4e8}{fa fb fc:4e0}{pos p:Pos}{x:Str}
theorem Zab (i:Nat){x:Str}{pos:Pos}(hN:X.N[i]? = some x:=by rfl)(hv:Vis X.env.scope x:=by first | exact Or.inl rfl | exact Or.inr 2e5 | exact Or.inr (Or.inr rfl))(hd:5e0:=by decide)
  (hcd:(x==("__classdict__":Str))=false:=by decide):QEM X (.Name x pos) (mVar i):=by
 subst_eqs;apply @em_var<;>assumption
theorem Zac {i j pos}:QEM X (.Constant (.int i) j pos) (mC (.int i)):=by
 subst_eqs
 exact Zbn pe_int fun ι H=>by unfold Rep;rfl
theorem Zaz {i j pos}:QEM X (.Constant (.bool i) j pos) (mC (.bl i)):=by
 subst_eqs
 exact Zbn pe_bl fun ι H=>by unfold Rep;rfl
theorem q_em_non {j pos}:QEM X (.Constant .none j pos) (mC .non):=by
 subst_eqs
 exact Zbn pe_non fun ι H=>by unfold Rep;rfl
theorem ZaB {i j pos}(h:i.length<=sizeLine:=by decide +kernel):QEM X (.Constant (.str i) j pos) (mC (.str i)):=by
 subst_eqs
 exact Zbn pe_str fun ι H=>by unfold Rep;exact ⟨rfl,h⟩
theorem Za3 {i:Int}(hg:Gl X x)(hm:∃t,X.mg x=some (.int i t))(hd:5e0:=by decide):QEM X (.Name x pos) (mC (.int i)):=by
 subst_eqs
 obtain ⟨t,hm⟩:=hm
 exact Zbn (pe_glob (v:=.int i) hg hm ⟨_,rfl⟩ hd) fun ι H=>by unfold Rep;rfl
theorem Zde {i:Str}(hg:Gl X x)(hm:∃t,X.mg x=some (.str i t))(h:i.length<=sizeLine:=by decide +kernel)(hd:5e0:=by decide):QEM X (.Name x pos) (mC (.str i)):=by
 subst_eqs
 obtain ⟨t,hm⟩:=hm
 exact Zbn (pe_glob (v:=.str i) hg hm ⟨_,rfl⟩ hd) fun ι H=>by unfold Rep;exact ⟨rfl,h⟩
theorem ZaQ {n:String}(hg:Gl X x)(hm:X.mg x=none)(hv:Xe x=some (.type n))(hn:x≠"__name__":=by decide)(hd:5e0:=by decide):QEM X (.Name x pos) (mC (.ty n)):=by
 subst_eqs
 exact Zbn (pe_bltn (v:=.ty n) hg hm hv rfl hn hd) fun ι H=>by unfold Rep;rfl
theorem ZaP {op:CmpOp}{r:R2}{g:Cs->SV->SV->Option SV}(ho:OpR X (Y6 op) r)(hg:R2ok X.K r g)(ha:QEM X a fa)(hb:QEM X b fb)(hm:W3 op b=false):QEM X (.Compare a [op] [b] pos) (mOp g fa fb):=by
 subst_eqs
 exact PE.imp (pe_cmpR ho ha hb hm) fun _ _ _ h=>tM_op hg h
theorem q_em_chain {op op':CmpOp}{r r':R2}{g g':Cs->SV->SV->Option SV}(ho:OpR X (Y6 op) r)(ho':OpR X (Y6 op') r')(hg:R2ok X.K r g)(hg':R2ok X.K r' g')(ha:QEM X a fa)(hb:QEM X b fb)(hc:QEM X c fc)
  (hm:lastMarks [op,op'] [b,c]=false:=by with_unfolding_all rfl):QEM X (.Compare a [op,op'] [b,c] pos) (mChain g g' fa fb fc):=by
 subst_eqs
 exact PE.imp (pe_chain ho ho' ha hb hc hm) fun _ _ _ h=>tM_chain hg hg' h
theorem Zar {op:CmpOp}{r:R2}{g:Cs->SV->SV->Option SV}(ho:OpR X (Y6 op) r)(hg:R2ok X.K r g)(ha:QEM X a fa)(hb:QEM X b fb)(hm:W3 op b=false):QTMt X (.Compare a [op] [b] pos) (mTest (mOp g fa fb)):=by
 subst_eqs
 exact PT.imp (pt_cmpR ho ha hb hm) fun σ H Q h=>by
    obtain ⟨ι,ρ,C,x,C',sr,e,q⟩:=tM_test h
    exact tM_op hg ⟨ι,ρ,C,x,C',sr,e,q⟩
theorem Zcd {op op':CmpOp}{r r':R2}{g g':Cs->SV->SV->Option SV}(ho:OpR X (Y6 op) r)(ho':OpR X (Y6 op') r')(hg:R2ok X.K r g)(hg':R2ok X.K r' g')(ha:QEM X a fa)(hb:QEM X b fb)(hc:QEM X c fc)
  (hm:lastMarks [op,op'] [b,c]=false:=by with_unfolding_all rfl):QTMt X (.Compare a [op,op'] [b,c] pos) (mTest (mChain g g' fa fb fc)):=by
 subst_eqs
 exact PT.imp (pt_chain ho ho' ha hb hc hm) fun σ H Q h=>by
    obtain ⟨ι,ρ,C,x,C',sr,e,q⟩:=tM_test h
    exact tM_chain hg hg' ⟨ι,ρ,C,x,C',sr,e,q⟩
theorem Zan (ha:QEM X a fa)(he:∀whole,isTrue a X.env whole=(do let v ←whole;standAt a.pos;V3 [v] (truthy v)):=by intro _;rfl):QTMt X a (mTru fa):=by
 subst_eqs
 exact PT.imp (pt_truth ha he) fun σ H Q h=>by
    obtain ⟨ι,ρ,C,z,C',sr,e,q⟩:=h
    obtain ⟨x,C1,e1,e⟩:=Zai e
    obtain ⟨e2,rfl⟩:=ZaJ e
    refine ⟨ι,ρ,C,x,C',sr,e1,fun v H1 f1 c1 r1=>⟨z,?_,q H1 f1 c1⟩⟩
    cases hd:deref C' x with
    | none=>rw[hd] at e2;cases e2
    | some p=>rw[hd] at e2;exact (r1.lies c1 hd).tru e2
theorem Zao {f:PSt->M Bool}(h:QTMt X a f):QTMt X (.UnaryOp .Not a pos) (mNotT f):=by
 subst_eqs
 exact PT.imp (pt_not h) fun σ H Q h=>by
   obtain ⟨ι,ρ,C,z,C',sr,e,q⟩:=h
   obtain ⟨x,C1,e1,e⟩:=Zai e
   cases e
   exact ⟨ι,ρ,C,x,_,sr,e1,fun H1 f1 c1=>q H1 f1 c1⟩
theorem ZbX {f:PSt->M Bool}(h:QTMt X a f):QWM X (.BoolOp .And [a] pos) f:=by
 subst_eqs
 exact pw_and1 h
theorem ZaK {f:PSt->M Bool}(h:QTMt X a f):QWM X (.BoolOp .Or [a] pos) f:=by
 subst_eqs
 exact pw_or1 h
theorem ZbY {rest:4e8}{f g:PSt->M Bool}(h:QTMt X a f)(k:QWM X (.BoolOp .And (b::rest) pos) g):QWM X (.BoolOp .And (a::b::rest) pos) (mAndT f g):=by
 subst_eqs
 exact PW.imp (pw_and h k) fun σ H Q h=>by
   obtain ⟨ι,ρ,C,z,C',sr,e,q⟩:=h
   obtain ⟨x,C1,e1,e⟩:=Zai e
   refine ⟨ι,ρ,C,x,C1,sr,e1,fun H1 f1 c1=>?_⟩
   cases x with
   | true=>rw[if_pos rfl] at e ⊢;exact ⟨ι,ρ,C1,z,C',sr.step f1 c1,e,fun H2 f2 c2=>q H2 (f1.trans f2) c2⟩
   | false=>rw[if_neg Yi] at e ⊢;cases e;exact q H1 f1 c1
theorem ZaA {rest:4e8}{f g:PSt->M Bool}(h:QTMt X a f)(k:QWM X (.BoolOp .Or (b::rest) pos) g):QWM X (.BoolOp .Or (a::b::rest) pos) (mOrT f g):=by
 subst_eqs
 exact PW.imp (pw_or h k) fun σ H Q h=>by
   obtain ⟨ι,ρ,C,z,C',sr,e,q⟩:=h
   obtain ⟨x,C1,e1,e⟩:=Zai e
   refine ⟨ι,ρ,C,x,C1,sr,e1,fun H1 f1 c1=>?_⟩
   cases x with
   | true=>rw[if_pos rfl] at e ⊢;cases e;exact q H1 f1 c1
   | false=>rw[if_neg Yi] at e ⊢;exact ⟨ι,ρ,C1,z,C',sr.step f1 c1,e,fun H2 f2 c2=>q H2 (f1.trans f2) c2⟩
theorem ZaL {op}{f:4e0}(h:QEM X a f):QEM X (.BoolOp op [a] pos) f:=by
 subst_eqs
 exact pe_one h
theorem ZaG {rest:4e8}{f g:4e0}(h:QEM X a f)(k:QEM X (.BoolOp .And (b::rest) pos) g):QEM X (.BoolOp .And (a::b::rest) pos) (mAndV f g):=by
 subst_eqs
 exact PE.imp (pe_and h k) fun σ H Q h=>by
   obtain ⟨ι,ρ,C,z,C',sr,e,q⟩:=h
   obtain ⟨x,C1,e1,e⟩:=Zai e
   obtain ⟨k,C2,e2,e3⟩:=Zai e
   obtain ⟨hx,hC⟩:=ZcT e2
   subst hx hC
   clear e e2
   have e:=e3
   refine ⟨ι,ρ,C,_,C2,sr,e1,fun v H1 f1 c1 r1=>⟨k,repB r1,?_⟩⟩
   cases k with
   | true=>rw[if_pos rfl] at e ⊢;exact ⟨ι,ρ,C2,z,C',sr.step f1 c1,e,fun v' H2 f2 c2 r2=>q v' H2 (f1.trans f2) c2 r2⟩
   | false=>rw[if_neg Yi] at e ⊢;cases e;exact q _ H1 f1 c1 repB'
theorem q_em_or {rest:4e8}{f g:4e0}(h:QEM X a f)(k:QEM X (.BoolOp .Or (b::rest) pos) g):QEM X (.BoolOp .Or (a::b::rest) pos) (mOrV f g):=by
 subst_eqs
 exact PE.imp (pe_or h k) fun σ H Q h=>by
   obtain ⟨ι,ρ,C,z,C',sr,e,q⟩:=h
   obtain ⟨x,C1,e1,e⟩:=Zai e
   obtain ⟨k,C2,e2,e3⟩:=Zai e
   obtain ⟨hx,hC⟩:=ZcT e2
   subst hx hC
   clear e e2
   have e:=e3
   refine ⟨ι,ρ,C,_,C2,sr,e1,fun v H1 f1 c1 r1=>⟨k,repB r1,?_⟩⟩
   cases k with
   | false=>rw[if_neg Yi] at e ⊢;exact ⟨ι,ρ,C2,z,C',sr.step f1 c1,e,fun v' H2 f2 c2 r2=>q v' H2 (f1.trans f2) c2 r2⟩
   | true=>rw[if_pos rfl] at e ⊢;cases e;exact q _ H1 f1 c1 repB'
theorem q_em_not {f:4e0}(h:QEM X a f):QEM X (.UnaryOp .Not a pos) (mNotV f):=by
 subst_eqs
 exact PE.imp (pe_not h) fun σ H Q h=>by
   obtain ⟨ι,ρ,C,z,C',sr,e,q⟩:=h
   obtain ⟨x,C1,e1,e⟩:=Zai e
   obtain ⟨k,C2,e2,e3⟩:=Zai e
   obtain ⟨hx,hC⟩:=ZcT e2
   subst hx hC
   clear e e2
   have e:=e3
   refine ⟨ι,ρ,C,_,C2,sr,e1,fun v H1 f1 c1 r1=>⟨k,repB r1,?_⟩⟩
   cases e
   exact q _ H1 f1 c1 repB'
theorem Zad:QAM X [] aNil:=by
 subst_eqs
 exact PA.imp pa_nil fun σ H Q h_=>by obtain ⟨ι,ρ,C,z,C',sr,e,q⟩:=h_;cases e;exact q [] H .refl sr.cr rfl
theorem Zaa {f:4e0}{g:2e8}(h:QEM X e f)(k:QAM X es g)(hs:1e9:=by rfl):QAM X 5e1 (aCons f g):=by
 subst_eqs
 exact PA.imp (pa_cons h k hs) fun σ H Q h=>by
   obtain ⟨ι,ρ,C,z,C',sr,e,q⟩:=h
   obtain ⟨x,C1,e1,e⟩:=Zai e
   obtain ⟨xs,C2,e2,e⟩:=Zai e
   cases e
   exact ⟨ι,ρ,C,x,C1,sr,e1,fun v H1 f1 c1 r1=>⟨ι,ρ,C1,xs,C',sr.step f1 c1,e2,fun vs H2 f2 c2 r2=>q (v::vs) H2 (f1.trans f2) c2 ⟨v,vs,rfl,r1.mono c1 f2,r2⟩⟩⟩
theorem Zaf {k:Nat}{f:Addr}{fd:Yw}{ps:4e6}{F:List SV->M SV}{fs:2e8}(G:FnOk X.prog X.w X.K X.mg X.base CX0 k f fd ps (liftSp X.K F))(hr:Room k X.A)(hg:Gl X x)(hm:X.mg x=some (.ref f))(hk:YC X.K (.ref f)=true)(hb:Binds X.K fd ps [])
  (ha:QAM X 5e1 fs) (hdb:5e0:=by decide) (he:1e9:=by rfl) (hpl:4e5:=by rfl):
  QEM X (.Call (.Name x p) 5e1 [] pos) (mFn F fs):=by
 subst_eqs
 exact PE.imp (pe_call G hr hg hm hk hb .nil pass0 ha hdb he hpl) fun σ H Q h=>by
   obtain ⟨ι,ρ,C,z,C',sr,e,q⟩:=h
   obtain ⟨xs,C1,e1,e⟩:=Zai e
   refine ⟨ι,ρ,C,xs,C1,sr,e1,fun vs H1 f1 c1 r1=>?_⟩
   show liftSp X.K F (vs++[]) H1 Q E0
   rw[YV]
   exact ⟨ι,xs,C1,z,C',c1,r1,e,fun v H2 f2 c2 r2=>q v H2 (f1.trans f2) c2 r2⟩
end
section
variable {X:Cx}{a b e c tg:Expr}{es:4e8}{st:Stmt}{rest sts sts':List Stmt}{f g:PSt->M PF}{pos p pos':Pos}{x:Str}
theorem Zam:QBM X [] mSkip:=by
 subst_eqs
 exact PSs.imp pss_nil fun D σ H h_=>by obtain ⟨ι,ρ,C,fl,C',sr,e,d⟩:=h_;cases e;exact d.nx0 sr
theorem Zag (h:QSM X st f):QBM X [st] f:=by
 subst_eqs
 exact pss_one h
theorem Zae (h:QSM X st f)(k:QBM X rest g):QBM X (st::rest) (mSeq f g):=by
 subst_eqs
 exact PSs.imp (pss_cons h k) fun D σ H h_=>by
   obtain ⟨ι,ρ,C,fl,C',sr,e,d⟩:=h_
   obtain ⟨fl1,C1,e1,e⟩:=Zai e
   refine ⟨ι,ρ,C,fl1,C1,sr,e1,?_⟩
   cases fl1 with
   | nx ρ1=>exact fun ι2 σ' H' x sr'=>⟨ι++ι2,ρ1,C1,fl,C',sr',e,d.tr sr'.cr x⟩
   | rt r=>cases e;exact d
   | bk ρ1=>cases e;exact d
   | ct ρ1=>cases e;exact d
   | rf ps=>cases e;exact d
   | rq ps=>cases e;exact d
theorem Zas {t:PSt->M Bool}(hc:QTMt X c t)(h:QBM X sts f)(k:QBM X sts' g):QSM X (.If c sts sts' pos) (mIfS t f g):=by
 subst_eqs
 exact PS.imp (ps_if hc h k) fun D σ H h_=>by
   obtain ⟨ι,ρ,C,fl,C',sr,e,d⟩:=h_
   obtain ⟨z,C1,e1,e⟩:=Zai e
   refine ⟨ι,ρ,C,z,C1,sr,e1,fun H1 f1 c1=>?_⟩
   cases z with
   | true=>rw[if_pos rfl] at e ⊢;exact ⟨ι,ρ,C1,fl,C',sr.step f1 c1,e,d.fr c1 f1⟩
   | false=>rw[if_neg Yi] at e ⊢;exact ⟨ι,ρ,C1,fl,C',sr.step f1 c1,e,d.fr c1 f1⟩
theorem Zak {f:4e0}(h:QEM X e f):QSM X (.Return (some e) pos) (mRet f):=by
 subst_eqs
 exact PS.imp (ps_ret h) fun D σ H h_=>by
   obtain ⟨ι,ρ,C,fl,C',sr,e,d⟩:=h_
   obtain ⟨z,C1,e1,e⟩:=Zai e
   cases e
   exact ⟨ι,ρ,C,z,_,sr,e1,fun v H1 f1 c1 r1=>d [] v H1 (Ex.fr f1) (by rw[YV];exact c1) (by rw[YV];exact r1)⟩
theorem ZcN {f:PSt->M 6e2}(h:QFM X e f):QSM X (.Return (some e) pos) (mRetF f):=by
 subst_eqs
 exact PS.imp (ps_ret h) fun D σ H h_=>by
   obtain ⟨ι,ρ,C,fl,C',sr,e,d⟩:=h_
   obtain ⟨ps,C1,e1,g1⟩:=Zai e
   cases g1
   exact ⟨ι,ρ,C,ps,_,sr,e1,fun q vs H1 f1 c1 hq rs=>d [] q vs H1 (Ex.fr f1) (by rw[YV];exact c1) hq (by rw[YV];exact rs)⟩
theorem q_sm_retQ {x1}{pt:Pos}{fs:2e8}(h:QAM X es fs):QSM X (.Return (some (.Tuple es x1 pt)) pos) (mRetQ fs):=by
 subst_eqs
 exact PS.imp (ps_ret (pe_tup h)) fun D σ H h_=>by
   obtain ⟨ι,ρ,C,fl,C',sr,e,d⟩:=h_
   obtain ⟨xs,C1,e1,g1⟩:=Zai e
   by_cases hl:xs.length<=1000
   case neg=>rw[if_neg hl] at g1;cases g1
   rw[if_pos hl] at g1
   cases g1
   exact ⟨ι,ρ,C,xs,_,sr,e1,fun vs H1 f1 c1 r1=>⟨by rw[←RepSs.length r1];exact YG hl (by rw[YS];decide),fun q hq=>d [] q vs H1 (Ex.fr f1) (by rw[YV];exact c1) hq (by rw[YV];exact r1)⟩⟩
theorem ZcO {f:4e0}(h:QEM X e f)(hs:WZ e none pos.line X.env=pure false:=by rfl):QSM X (.Expr e pos) (mDrop f):=by
 subst_eqs
 exact PS.imp (ps_expr h hs) fun D σ H h_=>by
   obtain ⟨ι,ρ,C,fl,C',sr,e,d⟩:=h_
   obtain ⟨z,C1,e1,e⟩:=Zai e
   cases e
   exact ⟨ι,ρ,C,z,_,sr,e1,fun v H1 f1 c1 r1=>Done.nx0 (sr.step f1 c1) (d.fr c1 f1)⟩
theorem Zap {i:Nat}{f:4e0}(hN:X.N.Nodup)(hi:X.N[i]? = some x)(hx:Loc X.env.scope x)(h:QEM X e f)(hs:WZ e (some (.Name x pos')) pos.line X.env=pure false:=by rfl)
  (hf:X.fn x=true\/X.env.scope.names.lookup x=some .local:=by first | exact .inl rfl | exact .inr rfl | assumption):QSM X (.Assign [.Name x pos'] e pos) (mSet i f):=by
 subst_eqs
 exact PS.imp (ps_set hN hi hx h hs hf) fun D σ H h_=>by
   obtain ⟨ι,ρ,C,fl,C',sr,e,d⟩:=h_
   obtain ⟨z,C1,e1,e⟩:=Zai e
   cases e
   exact ⟨ι,ρ,C,z,_,sr,e1,fun v H1 f1 c1 r1=>Done.nx0 ((sr.step f1 c1).set i r1) (d.fr c1 f1)⟩
theorem Zbu {i:Nat}{f:PSt->M 6e2}(hN:X.N.Nodup)(hi:X.N[i]? = some x)(hx:Loc X.env.scope x)(h:QFM X e f)(hs:WZ e (some (.Name x pos')) pos.line X.env=pure false:=by rfl)
  (hf:X.fn x=true\/X.env.scope.names.lookup x=some .local:=by first | exact .inl rfl | exact .inr rfl | assumption):QSM X (.Assign [.Name x pos'] e pos) (mNew i f):=by
 subst_eqs
 exact PS.imp (ps_set hN hi hx h hs hf) fun D σ H h_=>by
   obtain ⟨ι,ρ,C,fl,C',sr,e,d⟩:=h_
   obtain ⟨ps,C1,e1,e⟩:=Zai e
   cases e
   exact ⟨ι,ρ,C,ps,C1,sr,e1,fun q vs H' f1 c1 hq rs=>new_cell sr d f1 c1 hq rs⟩
theorem ZaH {x1}{fs:2e8}(h:QAM X es fs):QEM X (.Tuple es x1 pos) (mTup fs):=by
 subst_eqs
 exact PE.imp (pe_tup h) fun σ H Q h_=>by
   obtain ⟨ι,ρ,C,z,C',sr,e,q⟩:=h_
   obtain ⟨xs,C1,e1,e⟩:=Zai e
   obtain ⟨e2,rfl⟩:=ZaJ e
   refine ⟨ι,ρ,C,xs,_,sr,e1,fun vs H1 f1 c1 r1=>?_⟩
   by_cases hl:xs.length<=1000
   ·rw[if_pos hl] at e2
    cases hp:plain xs with
    | none=>rw[hp] at e2;cases e2
    | some ps=>
     rw[hp] at e2;cases e2
     obtain ⟨rs,hv⟩:=Zbs hp r1
     refine ⟨by rw[hv];exact k1000 hl,fun q' hq=>q _ _ (f1.trans (Fr.new hq)) (c1.new hq) ?_⟩
     show Rep _ _ _ 5e9 _
     unfold Rep
     exact ⟨q',vs,rfl,ZaU,Reps.stay (fun b o e=>by rw[Zax (Zaq e hq)];exact e) ps vs rs⟩
   ·rw[if_neg hl] at e2;cases e2
theorem ZaE {fs:2e8}(h:QAM X es fs):QFM X (.List es pos) (mLst fs):=by
 subst_eqs
 exact PE.imp (pe_lst h) fun σ H Q h_=>by
   obtain ⟨ι,ρ,C,z,C',sr,e,q⟩:=h_
   obtain ⟨xs,C1,e1,e⟩:=Zai e
   obtain ⟨e2,rfl⟩:=ZaJ e
   refine ⟨ι,ρ,C,xs,_,sr,e1,fun vs H1 f1 c1 r1=>?_⟩
   by_cases hl:xs.length<=1000
   ·rw[if_pos hl] at e2
    obtain ⟨rs,hv⟩:=Zbs e2 r1
    exact ⟨by rw[hv];exact k1000 hl,fun q' hq=>q q' vs H1 f1 c1 hq rs⟩
   ·rw[if_neg hl] at e2;cases e2
theorem Zaw {f:PSt->M 6e2}(h:QFM X e f):QEM X e (mVal f):=by
 subst_eqs
 exact PE.imp h fun σ H Q h_=>by
   obtain ⟨ι,ρ,C,z,C',sr,e,q⟩:=h_
   obtain ⟨ps,C1,e1,e⟩:=Zai e
   cases e
   exact ⟨ι,ρ,C,ps,_,sr,e1,fun q' vs H1 f1 c1 hq rs=>q _ _ (f1.trans (Fr.new hq)) (c1.new hq) (ZcR c1 hq rs)⟩
theorem Zaj {i:Nat}(hN:X.N.Nodup)(hi:X.N[i]? = some x)(hx:Loc X.env.scope x)(hf:X.fn x=true\/X.env.scope.names.lookup x=some .local:=by first | exact .inl rfl | exact .inr rfl | assumption):QGM X (.Name x pos) (hName i):=by
 subst_eqs
 exact PG.imp (pg_name hN hi hx hf) fun v σ H Q h_=>by obtain ⟨ι,ρ,C,p,ρ',sr,r,e,q⟩:=h_;cases e;exact q _ (sr.set i r)
theorem ZaX:QGMs X [] hNil:=by
 subst_eqs
 exact PGs.imp pgs_nil fun v σ H Q h_=>by
   obtain ⟨ι,ρ,C,p,ρ',sr,r,e,q⟩:=h_
   cases p with
   | nil=>cases e;exact ⟨r.inv0,q σ sr⟩
   | cons _ _=>cases e
theorem Zal {g:5e4}{gs:List PV->PSt->Option PSt}(h:QGM X e g)(k:QGMs X es gs)(hs:(Wa 5e1 X.env).map (·.2)=assign e X.env::(Wa es X.env).map (·.2):=by rfl):QGMs X 5e1 (hCons g gs):=by
 subst_eqs
 exact PGs.imp (pgs_cons h k hs) fun v σ H Q h_=>by
    obtain ⟨ι,ρ,C,p,ρ',sr,r,e,q⟩:=h_
    cases p with
    | nil=>cases e
    | cons p ps=>
     obtain ⟨w,ws,rfl,r1,r2⟩:=r.inv
     replace e:(g p ρ).bind (fun ρ'=>gs ps ρ')=some ρ':=e
     cases h1:g p ρ with
     | none=>rw[h1] at e;cases e
     | some ρ1=>
      rw[h1] at e
      exact ⟨w,ws,rfl,ι,ρ,C,p,ρ1,sr,r1,h1,fun σ1 sr1=>⟨ι,ρ1,C,ps,ρ',sr1,r2,e,q⟩⟩
theorem Za9 {gs:List PV->PSt->Option PSt}{k n:Nat}(hc:X.calm=true)(h:QGMs X es gs)(hn:(Wa es X.env).length=n:=by rfl)(hst:(Wa es X.env).findIdx? (·.1)=none:=by rfl):QGM X (.Tuple es k pos) (hTup gs n):=by
 subst_eqs
 exact PG.imp (pg_tup hc h hn hst) fun v σ H Q h_=>by
    obtain ⟨ι,ρ,C,p,ρ',sr,r,e,q⟩:=h_
    cases p with
    | tup ps=>
     unfold Rep at r
     obtain ⟨a,vs,rfl,sq,rs⟩:=r
     replace e:(if ps.length=n then gs ps ρ else none)=some ρ':=e
     by_cases hl:ps.length=n
     ·rw[if_pos hl] at e
      exact ⟨a,vs,rfl,sq.sq,by rw[←rs.length];exact hl,ι,ρ,C,ps,ρ',sr,rs,e,q⟩
     ·rw[if_neg hl] at e;cases e
    | _=>cases e
theorem Zbl {f:4e0}{g:5e4}(h:QEM X e f)(k:QGM X tg g)(hs:swapsWithSole [tg] e pos.line X.env=pure false:=by rfl)(hw:swappedStores [tg] e X.env=pure none:=by rfl)
  (h1:(Wa [tg] X.env).map (·.2)=[assign tg X.env]:=by rfl):QSM X (.Assign [tg] e pos) (mAsg f g):=by
 subst_eqs
 exact PS.imp (ps_asg h k hs hw h1) fun D σ H h_=>by
   obtain ⟨ι,ρ,C,fl,C',sr,e,d⟩:=h_
   obtain ⟨z,C1,e1,e⟩:=Zai e
   refine ⟨ι,ρ,C,z,C1,sr,e1,fun v H1 f1 c1 r1=>?_⟩
   cases z with
   | c k=>cases e
   | v p=>
    have e:(g p ρ).map (fun ρ'=>(PF.nx ρ',C1))=some (fl,C'):=e
    cases hg:g p ρ with
    | none=>rw[hg] at e;cases e
    | some ρ1=>
     rw[hg] at e
     cases e
     exact ⟨ι,ρ,_,p,ρ1,sr.step f1 c1,r1,hg,fun σ' sr'=>Done.nx0 sr' (d.fr c1 f1)⟩
end
section
variable {X:Cx}{e tg iter elt:Expr}{es:4e8}{body:List Stmt}{f:PSt->M PF}{pos p:Pos}{x:Str}
theorem ZbC {it:PSt->M 6e2}{g:5e4}(hp:PassesOwn 3e0 X.A X.env X.xe)(hc:X.calm=true)(hi:QIM X tg iter it)(hg:QGM X tg g)(hb:QBM X body f)
  (hs:∀x,XX iter X.env x=pure x:=by intro _;rfl):QSM X (.For tg iter body [] pos) (mFor it g f):=by
 subst_eqs
 exact PS.imp (ps_for hp hc hi hg hb hs) fun D σ H h_=>by
   obtain ⟨ι,ρ,C,fl,C',sr,e,d⟩:=h_
   obtain ⟨xs,C1,e1,e⟩:=Zai e
   refine ⟨ι,ρ,C,xs,C1,sr,e1,fun J H1 f1 c1 it1=>?_⟩
   have d1:=d.fr c1 f1
   have sr1:=sr.step f1 c1
   refine ⟨fun i m σ2 H2=>∃ι2 ρ2 C2,m=xs.length - i/\i<=xs.length/\Ex ι ι2 H1 H2/\SR X.K (ι++ι2) H2 ρ2 σ2 C2/\loop g f (xs.drop i) ρ2 C2=some (fl,C'),⟨xs.length,[],ρ,C1,rfl,YT _,Ex.fr .refl,by rw[YV];exact sr1,e⟩,?_⟩
   rintro i m σ2 H2 ⟨ι2,ρ2,C2,rfl,hi2,x2,sr2,e2⟩
   rcases YF i xs.length with hlt | hge
   ·right
    refine ⟨it1.go ι2 H2 C2 x2 sr2.cr i hlt,fun σ' H'=>∃ι2 ρ2 C2,Ex ι ι2 H1 H'/\SR X.K (ι++ι2) H' ρ2 σ' C2/\loop g f (xs.drop (i + 1)) ρ2 C2=some (fl,C'),?_,?_⟩
    ·rintro σ' H' ⟨ι3,ρ3,C3,x3,sr3,e3⟩
     exact ⟨xs.length - (i + 1),by lia,ι3,ρ3,C3,rfl,hlt,x3,sr3,e3⟩
    ·intro v H3 y
     obtain ⟨sm,q,hq,rq⟩:=it1.yld ι2 H2 C2 x2 sr2.cr i v H3 hlt y
     have hd:xs.drop i=q::xs.drop (i + 1):=by
      rw[WQ hlt]
      rw[Ya hlt] at hq
      rw[YA hq]
     rw[hd] at e2
     unfold loop at e2
     cases hg1:g q ρ2 with
     | none=>rw[hg1] at e2;cases e2
     | some ρ3=>
      rw[hg1] at e2
      obtain ⟨fl1,C3,e3,e4⟩:=Zai e2
      have fr3:Fr (ι++ι2) H2 H3:=fun b o _ z=>sm b o z
      have cr3:CR X.K (ι++ι2) H3 C2:=sr2.cr.same sm
      have x3:Ex ι ι2 H1 H3:=⟨fun b o n z=>sm b o (x2.1 b o n z),x2.2⟩
      refine ⟨ι++ι2,ρ2,C2,q,ρ3,sr2.step fr3 cr3,rq,hg1,fun σ4 sr4=>⟨ι++ι2,ρ3,C2,fl1,C3,sr4,e3,?_⟩⟩
      cases fl1 with
      | nx ρ5=>exact fun ι5 σ5 H5 x5 sr5=>⟨ι2++ι5,ρ5,C3,x3.trans cr3 x5,by rw[←Yz];exact sr5,e4⟩
      | ct ρ5=>exact fun ι5 σ5 H5 x5 sr5=>⟨ι2++ι5,ρ5,C3,x3.trans cr3 x5,by rw[←Yz];exact sr5,e4⟩
      | bk ρ5=>cases e4;exact fun ι5 σ5 H5 x5 sr5=>d1 (ι2++ι5) σ5 H5 (x3.trans cr3 x5) (by rw[←Yz];exact sr5)
      | rf ps=>cases e4;exact fun ι5 q5 vs5 H5 x5 c5 h5 r5=>d1 (ι2++ι5) q5 vs5 H5 (x3.trans cr3 x5) (by rw[←Yz];exact c5) h5 (by rw[←Yz];exact r5)
      | rq ps=>cases e4;exact fun ι5 q5 vs5 H5 x5 c5 h5 r5=>d1 (ι2++ι5) q5 vs5 H5 (x3.trans cr3 x5) (by rw[←Yz];exact c5) h5 (by rw[←Yz];exact r5)
      | rt r=>cases e4;exact fun ι5 v5 H5 x5 c5 r5=>d1 (ι2++ι5) v5 H5 (x3.trans cr3 x5) (by rw[←Yz];exact c5) (by rw[←Yz];exact r5)
   ·left
    have hi3:i=xs.length:=by lia
    subst hi3
    rw[Vs] at e2
    cases e2
    exact ⟨it1.stop ι2 H2 _ x2 sr2.cr,d1 ι2 σ2 H2 x2 sr2⟩
section
variable {ifs:4e8}{scope:Scope}{vs fs:4e6}{fr:List Nat}{it:PSt->M 6e2}{g:5e4}{tt:PSt->M Bool}{te:4e0}
theorem ZaS:QTsM X [] tOk:=by
 subst_eqs
 exact fun pins s σ H Q I h_=>by
   obtain ⟨ι,ρ,C,b,C',sr,e,q⟩:=h_
   cases e
   exact pts_nil pins s σ H Q I (q H .refl sr.cr)
theorem q_ts_one {c:Expr}{t:PSt->M Bool}(h:QTMt X c t):QTsM X [c] t:=by
 subst_eqs
 exact pts_one h
theorem ZaM (S:CSc X scope vs fs fr)(hc:X.calm=true)(hi:QIM X tg iter it)
  (bG:∀C s₀ H₀ ex pn,QGM 5e8 tg g) (bT:∀C s₀ H₀ ex pn,QTsM 5e8 ifs tt) (bE:∀C s₀ H₀ ex pn,QEM 5e8 elt te)
  (hs:∀x,XX iter X.env x=pure x:=by intro _;rfl):QFM X (.ListComp elt [⟨tg,iter,ifs,0⟩] scope pos) (mComp it vs fr g tt te):=by
 subst_eqs
 exact PE.imp (pe_comp (g:=tMG X.K g) (tt:=tMB X.K tt) (te:=tM X.K te) S hc hi bG bT bE hs) fun σ H Q ⟨ι,ρ,C,res,C',sr,e,q⟩=>comp_pure sr e q
theorem q_sm_comp {i:Nat}{px spos:Pos}(hN:X.N.Nodup)(hx:X.N[i]? = some x)(hl:X.env.scope.names.lookup x=some .local)(S:CSc X scope vs fs fr)(hc:X.calm=true)(hi:QIM X tg iter it)
  (bG:∀C s₀ H₀ ex pn,QGM 5e8 tg g) (bT:∀C s₀ H₀ ex pn,QTsM 5e8 ifs tt) (bE:∀C s₀ H₀ ex pn,QEM 5e8 elt te)
  (hsw:WZ (.ListComp elt [⟨tg,iter,ifs,0⟩] scope pos) (some (.Name x px)) spos.line X.env=pure true:=by rfl) (hs:∀x,XX iter X.env x=pure x:=by intro _;rfl):
  QSM X (.Assign [.Name x px] (.ListComp elt [⟨tg,iter,ifs,0⟩] scope pos) spos) (mSet i (mVal (mComp it vs fr g tt te))):=by
 subst_eqs
 exact PS.imp (ps_comp (g:=tMG X.K g) (tt:=tMB X.K tt) (te:=tM X.K te) hN hx hl S hc hi bG bT bE hsw hs) fun D σ H h_=>by
   obtain ⟨ι,ρ,C,fl,C',sr,e,d⟩:=h_
   obtain ⟨z,C1,e1,e⟩:=Zai e
   cases e
   obtain ⟨res,C2,e2,e3⟩:=Zai e1
   cases e3
   exact comp_pure sr e2 fun q vs H' f1 c1 hq rs=>Done.nx0 (((sr.step f1 c1).step (Fr.new hq) (c1.new hq)).set i (s:=.v (.lst _)) (ZcR c1 hq rs)) (d.fr (c1.new hq) (f1.trans (Fr.new hq)))
end
end
theorem ZbZ {X:Cx}{e:Expr}{es:4e8}{p pos:Pos}{x:Str}{k:Nat}{f:Addr}{fd:Yw}{ps:4e6}{F:List SV->M 6e2}{fs:2e8}(G:FnOk X.prog X.w X.K X.mg X.base CX0 k f fd ps (liftSpF X.K F))(hr:Room k X.A)(hg:Gl X x)(hm:X.mg x=some (.ref f))(hk:YC X.K (.ref f)=true)(hb:L2.Binds X.K fd ps [])
  (ha:QAM X 5e1 fs) (hdb:5e0:=by decide) (he:1e9:=by rfl) (hpl:4e5:=by rfl):
  QFM X (.Call (.Name x p) 5e1 [] pos) (mFnF F fs):=by
 subst_eqs
 exact PE.imp (pe_call G hr hg hm hk hb .nil pass0 ha hdb he hpl) fun σ H Q h_=>by
   obtain ⟨ι,ρ,C,z,C',sr,e,q⟩:=h_
   obtain ⟨xs,C1,e1,g1⟩:=Zai e
   refine ⟨ι,ρ,C,xs,C1,sr,e1,fun vs H1 f1 c1 r1=>?_⟩
   show liftSpF X.K F (vs++[]) H1 Q E0
   rw[YV]
   exact ⟨ι,xs,C1,z,C',c1,r1,g1,fun q' ws H2 f2 c2 h2 r2=>q q' ws H2 (f1.trans f2) c2 h2 r2⟩
section
variable {P:Yq}{w:World}{K:W.Frag}{mg:2e2}{base:Heap}
theorem ZaD {x qual:Str}{st:Stmt}{f:Addr}{fd:Yw}{N ps:4e6}{k:Nat}{body:PSt->M PF}(F:Fun K x qual st f fd)(S:FnScope N ps (defScope st))
  (hbody:∀(cdv:Value) (A:Around) (outer:List Env) (s:Shared) (H:Hp) (E:XK),Room k (A.deeper (envOfC qual (defScope st) s.heap.objs.size f cdv))->
   QBM (cxOf CX0 P w K mg base N qual (defScope st) f cdv A outer s H E).nox (defBody st) body):FnOk P w K mg base CX0 (k + 1) f fd ps (liftSp K (mDef ps.length (N.length - ps.length) body)):=by
 subst_eqs
 refine F.ok S (fun vs H Q E h_=>?_) (fun cdv A outer s H vs Q E hr h_=>?_)<;>obtain ⟨ι,ss,C,r,C',cr,rs,e,q⟩:=h_
 ·unfold mDef at e
  by_cases h:ss.length=ps.length
  ·rw[←RepSs.length rs];exact h
  ·rw[if_neg h] at e;cases e
 ·refine ⟨_,hbody cdv A outer s H E hr,?_⟩
  unfold mDef at e
  by_cases h:ss.length=ps.length
  case neg=>rw[if_neg h] at e;cases e
  rw[if_pos h] at e
  have sr:=sr_start (N:=N) cr rs
  rw[h] at sr
  cases hb:body (ss.map some++WL (N.length - ps.length) none) C with
  | none=>rw[hb] at e;cases e
  | some z=>
   obtain ⟨fl,C2⟩:=z
   rw[hb] at e
   refine ⟨ι,_,C,fl,C2,sr,hb,?_⟩
   cases fl with
   | rt r2=>
    intro ι2 v H' x c r3
    obtain ⟨c4,r4⟩:=fin_ok c cr.len r3 e
    exact q v H' x.1 c4 r4
   | nx ρ2=>
    intro ι2 σ' H' x sr'
    cases e
    refine q .non H' x.1 (sr'.cr.cut cr.len) ?_
    show Rep K ι H' .non .non
    unfold Rep;rfl
   | rf ps'=>
    intro ι2 p' vs' H' x c hp rs'
    cases e
    have hs:∀b o,H' b=some o->b∉ι++ι2->b∉ι:=fun b o _ z q=>z (Xm _ q)
    have c4:=c.cut cr.len
    exact q _ _ (x.1.trans (Fr.new hp)) (c4.new hp) (show Rep _ _ _ _ _ from ZcR c4 hp (Reps.cells hs _ _ rs'))
   | rq qs'=>
    intro ι2 p' vs' H' x c hp rs'
    replace e:(finQ C.length C2 qs').map (fun ps=>(SV.v 5e9,C2.take C.length))=some (r,C'):=e
    cases hq:finQ C.length C2 qs' with
    | none=>rw[hq] at e;cases e
    | some ps'=>
     rw[hq] at e;cases e
     have c4:=c.cut cr.len
     refine q _ _ (x.1.trans (Fr.new hp)) (c4.new hp) ?_
     show Rep _ _ _ (.tup ps') _
     unfold Rep
     exact ⟨p',vs',rfl,ZaU,Reps.stay (fun b o e=>by rw[Zax (Zaq e hp)];exact e) _ _ (finQ_ok c cr.len rs' hq)⟩
   | bk _=>cases e
   | ct _=>cases e
theorem q_fn_mkF {x qual:Str}{st:Stmt}{f:Addr}{fd:Yw}{N ps:4e6}{k:Nat}{body:PSt->M PF}(F:Fun K x qual st f fd)(S:FnScope N ps (defScope st))
  (hbody:∀(cdv:Value) (A:Around) (outer:List Env) (s:Shared) (H:Hp) (E:XK),Room k (A.deeper (envOfC qual (defScope st) s.heap.objs.size f cdv))->
   QBM (cxOf CX0 P w K mg base N qual (defScope st) f cdv A outer s H E).nox (defBody st) body):FnOk P w K mg base CX0 (k + 1) f fd ps (liftSpF K (mDefF ps.length (N.length - ps.length) body)):=by
 subst_eqs
 refine F.ok S (fun vs H Q E h_=>?_) (fun cdv A outer s H vs Q E hr h_=>?_)<;>obtain ⟨ι,ss,C,r,C',cr,rs,e,q⟩:=h_
 ·unfold mDefF at e
  by_cases h:ss.length=ps.length
  ·rw[←RepSs.length rs];exact h
  ·rw[if_neg h] at e;cases e
 ·refine ⟨_,hbody cdv A outer s H E hr,?_⟩
  unfold mDefF at e
  by_cases h:ss.length=ps.length
  case neg=>rw[if_neg h] at e;cases e
  rw[if_pos h] at e
  have sr:=sr_start (N:=N) cr rs
  rw[h] at sr
  cases hb:body (ss.map some++WL (N.length - ps.length) none) C with
  | none=>rw[hb] at e;cases e
  | some z=>
   obtain ⟨fl,C2⟩:=z
   rw[hb] at e
   refine ⟨ι,_,C,fl,C2,sr,hb,?_⟩
   cases fl with
   | rf ps'=>
    intro ι2 p' vs' H' x c hp rs'
    cases e
    have hs:∀b o,H' b=some o->b∉ι++ι2->b∉ι:=fun b o _ z q=>z (Xm _ q)
    exact q p' vs' H' x.1 (c.cut cr.len) hp (Reps.cells hs _ _ rs')
   | _=>cases e
end
end Pu
namespace Pu
open PySem PySem.Spec L2
open PyProof.Rows hiding St Fr
section
variable {X:Cx}
variable {a b e c:Expr}{es:4e8}{fa fb fc:4e0}{pos p:Pos}{x:Str}
theorem ZaC (ha:QEM X a fa)(hb:QEM X b fb):QEM X (.BinOp a .Add b pos) (mOp 6e7 fa fb):=by
 subst_eqs
 exact em_op op_addAll add_ok.r ha hb
theorem q_em_sub (ha:QEM X a fa)(hb:QEM X b fb):QEM X (.BinOp a .Sub b pos) (mOp (g2 subP) fa fb):=by
 subst_eqs
 exact em_op op_sub (ZcZ fun _ _ _ _=>repI).r ha hb
theorem Zbc (ha:QEM X a fa)(hb:QEM X b fb):QEM X (.BinOp a .Mult b pos) (mOp (g2 mulP) fa fb):=by
 subst_eqs
 exact em_op op_mul (int_ok fun i j h=>by
   rw[Ur] at h
   rcases h with h | h
   ·exact .inl (of_decide_eq_true h)
   ·exact .inr (of_decide_eq_true h)).r ha hb
theorem ZaO (ha:QEM X a fa)(hb:QEM X b fb):QEM X (.BinOp a .Mod b pos) (mOp (g2 modP) fa fb):=by
 subst_eqs
 exact em_op op_mod (int_ok fun i j h=>of_decide_eq_true h).r ha hb
theorem q_em_fdiv (ha:QEM X a fa)(hb:QEM X b fb):QEM X (.BinOp a .FloorDiv b pos) (mOp (g2 fdivP) fa fb):=by
 subst_eqs
 exact em_op op_fdiv (int_ok fun i j h=>(of_decide_eq_true h:0 < j/\j < 1073741824)).r ha hb
theorem q_em_pow (ha:QEM X a fa)(hb:QEM X b fb):QEM X (.BinOp a .Pow b pos) (mOp (g2 powP) fa fb):=by
 subst_eqs
 exact em_op op_pow (int_ok fun i j h=>by
   have h:=of_decide_eq_true h
   exact ⟨h.1,Int.le_trans h.2.1 (by decide),h.2.2⟩).r ha hb
theorem q_em_neg (ha:QEM X a fa):QEM X (.UnaryOp .USub a pos) (mNeg fa):=by
 subst_eqs
 refine PE.imp (pe_un un_neg ha) fun σ H Q h_=>?_
 obtain ⟨ι,ρ,C,z,C',sr,e,k⟩:=h_
 obtain ⟨x,C1,e1,e⟩:=Zai e
 obtain ⟨e2,rfl⟩:=ZaJ e
 refine ⟨ι,ρ,C,x,_,sr,e1,fun v H1 f1 c1 r1=>?_⟩
 unfold negP at e2
 split at e2
 ·rename_i i hd
  cases e2
  have l:=r1.lies c1 hd
  cases l
  exact ⟨i,rfl,k _ H1 f1 c1 (show Rep _ _ _ _ _ from repI)⟩
 ·cases e2
end
section
variable {X:Cx}{a b e c o:Expr}{es:4e8}{fa fb fc fo:4e0}{fs:2e8}{pos p apos cpos:Pos}{x:Str}
theorem ZaI (hgl:Gl X "isinstance")(hm:X.mg "isinstance"=none)(hv:Xe "isinstance"=some (.builtin "isinstance"))(ha:QAM X 5e1 fs)
  (he:1e9:=by rfl) (hpl:4e5:=by rfl):QEM X (.Call (.Name "isinstance" p) 5e1 [] pos) (mCB (g1 isiH) fs):=by
 subst_eqs
 exact Zb8 call_isi isi_ok.c hgl hm hv ha 2e4 2e4 he hpl
theorem Zat (hgl:Gl X "len")(hm:X.mg "len"=none)(ha:QAM X 5e1 fs)
  (he:1e9:=by rfl) (hpl:4e5:=by rfl):QEM X (.Call (.Name "len" p) 5e1 [] pos) (mCB 6e0 fs):=by
 subst_eqs
 exact Zb8 call_len len_ok.c hgl hm PySem.boot_len ha 2e4 2e4 he hpl
theorem q_em_max (hc:X.calm=true)(hgl:Gl X "max")(hm:X.mg "max"=none)(hv:Xe "max"=some (.builtin "max"))(ha:QAM X 5e1 fs)
  (he:1e9:=by rfl) (hpl:4e5:=by rfl):QEM X (.Call (.Name "max" p) 5e1 [] pos) (mCB (g1 maxH) fs):=by
 subst_eqs
 exact Zb8 (call_max2 hc) max_ok.c hgl hm hv ha 2e4 2e4 he hpl
theorem q_em_min (hc:X.calm=true)(hgl:Gl X "min")(hm:X.mg "min"=none)(hv:Xe "min"=some (.builtin "min"))(ha:QAM X 5e1 fs)
  (he:1e9:=by rfl) (hpl:4e5:=by rfl):QEM X (.Call (.Name "min" p) 5e1 [] pos) (mCB (g1 minH) fs):=by
 subst_eqs
 exact Zb8 (call_min2 hc) min_ok.c hgl hm hv ha 2e4 2e4 he hpl
theorem Zb0 (hgl:Gl X "tuple")(hm:X.mg "tuple"=none)(hv:Xe "tuple"=some (.type "tuple"))(ha:QAM X 5e1 fs)
  (he:1e9:=by rfl) (hpl:4e5:=by rfl):QEM X (.Call (.Name "tuple" p) 5e1 [] pos) (mCB (g1 tupH) fs):=by
 subst_eqs
 exact em_callTy call_tuple_of tup_ok.c hgl hm hv ha 2e4 2e4 he hpl
theorem Zbg (hgl:Gl X "list")(hm:X.mg "list"=none)(hv:Xe "list"=some (.type "list"))(ha:QAM X 5e1 fs)
  (he:1e9:=by rfl) (hpl:4e5:=by rfl):QFM X (.Call (.Name "list" p) 5e1 [] pos) (mList fs):=by
 subst_eqs
 exact PE.imp (pe_callTy call_list_of hgl hm hv ha 2e4 2e4 he hpl) fun σ H Q h_=>by
    obtain ⟨ι,ρ,C,z,C',sr,e,q⟩:=h_
    obtain ⟨xs,C1,e1,e⟩:=Zai e
    obtain ⟨e2,rfl⟩:=ZaJ e
    refine ⟨ι,ρ,C,xs,_,sr,e1,fun vs H1 f1 c1 r1=>?_⟩
    unfold listH at e2
    split at e2
    ·rename_i x
     obtain ⟨v,w,rfl,r1,hw⟩:=r1
     cases (show w=[] from hw)
     split at e2
     ·rename_i hd
      cases e2
      obtain ⟨a,ws,rfl,h1,r2⟩:=liesL (r1.lies c1 hd)
      exact ⟨a,ws,rfl,.inl h1,fun l hl=>q l ws H1 f1 c1 hl r2⟩
     ·rename_i hd
      cases e2
      obtain ⟨a,ws,rfl,h1,r2⟩:=liesT (r1.lies c1 hd)
      exact ⟨a,ws,rfl,.inr h1.sq,fun l hl=>q l ws H1 f1 c1 hl r2⟩
     ·cases e2
    ·cases e2
theorem Zbd (hc:X.calm=true)(hgl:Gl X "all")(hm:X.mg "all"=none)(hv:Xe "all"=some (.builtin "all"))(ha:QAM X 5e1 fs)
  (he:1e9:=by rfl) (hpl:4e5:=by rfl):QEM X (.Call (.Name "all" p) 5e1 [] pos) (mCB (g1 allH) fs):=by
 subst_eqs
 exact Zb8 (call_all_bl hc) all_ok.c hgl hm hv ha 2e4 2e4 he hpl
end
section
variable {X:Cx}{a b e c o i:Expr}{es:4e8}{fa fb fc fo fi fv:4e0}{fs:2e8}{pos p apos cpos:Pos}{x:Str}
theorem ZbM (ho:QEM X o fo)(ha:QAM X 5e1 fs)(hbase:WG o "append" X.env (eval o X.env)=eval o X.env:=by rfl)
  (hfew:((backTo cpos (Yj 5e1 X.env)).all (fun x=>!x.1)&&(Uu cpos (Vh [] X.env)).all (fun x=>x.1.isSome)
   &&decide ((e::es).length + ([]:List Vi).length + (if ([]:List Vi).isEmpty then 0 else 1) < 30))=true:=by rfl)
  (hline:(apos.endLine==cpos.line)=true:=by rfl) (hs:1e9:=by rfl) (hplain:(backTo cpos (Yj es X.env)).any (·.1)=false:=by rfl):
  QEM X (.Call (.Attribute o "append" apos) 5e1 [] cpos) (mApp fo fs):=by
 subst_eqs
 exact PE.imp (pe_bm PySem.F.plainAttrs_list PySem.F.slot_list_append PySem.F.type_list_append mt_append ho ha hbase hfew hline hs hplain) fun σ H Q h_=>by
    obtain ⟨ι,ρ,C,z,C',sr,e,q⟩:=h_
    obtain ⟨x,C1,e1,g1⟩:=Zai e
    obtain ⟨u,C2,e2,g2⟩:=Zai g1
    obtain ⟨ys,C3,e3,g3⟩:=Zai g2
    obtain ⟨hC,k,ps0,hx,hc0⟩:=isLst_some e2
    obtain ⟨k',p',ps,hx',hy,hc,hl,hr,hC'⟩:=appC_some g3
    clear e g1 g2 g3 e2
    subst hC hx hr hC' hy
    cases hx'
    refine ⟨ι,ρ,C,_,_,sr,e1,fun v H1 f1 c1 r1=>?_⟩
    obtain ⟨a,rfl,hk⟩:=r1
    obtain ⟨vs0,h0,_⟩:=cell_lst c1 hk hc0
    refine ⟨.inl ⟨rfl,_,.of h0⟩,ι,ρ,_,_,C3,sr.step f1 c1,e3,fun ws H2 f2 c2 r2=>?_⟩
    obtain ⟨w,wr,rfl,rw1,hw⟩:=r2
    cases (show wr=[] from hw)
    obtain ⟨vs,h1,rv⟩:=cell_lst c2 hk hc
    obtain ⟨c4,f4⟩:=cr_set c2 hk (rv.append (.cons rw1 .nil))
    exact ⟨a,vs,w,rfl,rfl,h1,by rw[←rv.length];exact Yv hl (k100000 (Yk _)),q _ _ (f1.trans (f2.trans f4)) c4 (show Rep _ _ _ _ _ from repN)⟩
theorem Zdd {spos:Pos}(hv:QEM X e fv)(ho:QEM X o fo)(hi:QEM X i fi)
  (ha:∀v,assign (.Subscript o i spos) X.env v=(do
   let ov ←V3 [v] (eval o X.env)
   let iv ←V3 [v,ov] (eval i X.env)
   standAt spos
   V3 [v,ov,iv] (setItem ov iv v)
   release [v,ov,iv] []):=by intro _;rfl)
  (hs:swapsWithSole [.Subscript o i spos] e pos.line X.env=pure false:=by rfl) (hw:swappedStores [.Subscript o i spos] e X.env=pure none:=by rfl)
  (h1:(Wa [.Subscript o i spos] X.env).map (·.2)=[assign (.Subscript o i spos) X.env]:=by rfl):QSM X (.Assign [.Subscript o i spos] e pos) (mSetIx fv fo fi):=by
 subst_eqs
 exact PS.imp (ps_asg hv (pg_sub ho hi set_list ha) hs hw h1) fun D σ H h_=>by
    obtain ⟨ι,ρ,C,fl,C',sr,e,d⟩:=h_
    obtain ⟨v,C1,e1,g1⟩:=Zai e
    obtain ⟨o,C2,e2,g2⟩:=Zai g1
    obtain ⟨i,C3,e3,g3⟩:=Zai g2
    obtain ⟨k,n,p',ps,j,ho,hi,hv,hc,hj,hf,hC⟩:=setC_some g3
    clear e g1 g2 g3
    subst ho hi hv hf hC
    refine ⟨ι,ρ,C,_,C1,sr,e1,fun x H1 f1 c1 r1=>⟨ι,ρ,C1,_,C2,sr.step f1 c1,e2,fun y H2 f2 c2 r2=>⟨ι,ρ,C2,_,C3,(sr.step f1 c1).step f2 c2,e3,fun w H3 f3 c3 r3=>?_⟩⟩⟩
    obtain ⟨a,rfl,hk⟩:=r2
    have r3:w=.int n:=by unfold RepS Rep at r3;exact r3
    obtain ⟨vs,h1,rv⟩:=cell_lst c3 hk hc
    have r1':Rep X.K ι H3 p' x:=Rep.mono c2 f3 _ _ (Rep.mono c1 f2 _ _ r1)
    obtain ⟨c4,f4⟩:=cr_set c3 hk (rv.set j r1')
    refine ⟨a,vs,n,j,rfl,r3,h1,by rw[←rv.length];exact hj,?_⟩
    exact Done.nx0 ((((sr.step f1 c1).step f2 c2).step f3 c3).step f4 c4) (d.fr c4 (f1.trans (f2.trans (f3.trans f4))))
variable {tg l:Expr}
theorem Za1 (hl:QEM X l fa):QIM X tg l (mItems fa):=by
 subst_eqs
 intro pins s σ H R I h
 obtain ⟨ι,ρ,C,xs,C',sr,e,q⟩:=h
 obtain ⟨x,C1,e1,e⟩:=Zai e
 obtain ⟨e2,rfl⟩:=ZaJ e
 refine thn (hl pins s σ H (fun v H1=>Fr ι H H1/\CR X.K ι H1 C'/\RepS X.K ι H1 x v) I ⟨ι,ρ,C,x,C',sr,e1,fun v H1 f1 c1 r1=>⟨f1,c1,r1⟩⟩) fun v s1 h_=>?_
 obtain ⟨y,H1,I1,r1,f1,c1,rx⟩:=h_
 have fp:∀b∈[s1.heap.objs.size],FpOk X pins H1 b:=fun b hb=>by
  have e:b=s1.heap.objs.size:=by simpa using hb
  subst e
  exact I1.fpOk (Yk _) (I1.hok.fresh (Yk _))
 unfold itemsP at e2
 split at e2
 ·cases e2
  have rx:Rep X.K ι H1 (.lst _) y:=rx
  unfold Rep at rx
  obtain ⟨a,vs,rfl,hq,rv⟩:=rx
  cases r1
  obtain ⟨its,_,p,hz⟩:=I1.list hq.sq
  refine VZ p.isList ?_
  exact ⟨s1.heap.objs.size,[s1.heap.objs.size],_,_,H1,rfl,I1.kept (t':=s1.toks) fun b o e=>Yc _ e,turn_list a _,⟨_,Yp _ rfl,rfl,rfl⟩,fp,q _ H1 f1 c1 (iter_list c1 hq rv)⟩
 ·cases e2
  have rx:Rep X.K ι H1 (.tup _) y:=rx
  unfold Rep at rx
  obtain ⟨a,vs,rfl,hq,rv⟩:=rx
  cases r1
  obtain ⟨its,_,p,hz⟩:=I1.tuple hq.sq
  refine VQ (show s1.heap.IsTuple a its.toArray from p) ?_
  exact ⟨s1.heap.objs.size,[s1.heap.objs.size],_,_,H1,rfl,I1.kept (t':=s1.toks) fun b o e=>Yc _ e,turn_tuple a _,⟨_,Yp _ rfl,rfl,rfl⟩,fp,q _ H1 f1 c1 (iter_tup c1 hq.sq rv)⟩
 ·cases e2
  have rx:Rep X.K ι H1 (.str _) y:=rx
  rename Str=>z
  unfold Rep at rx
  obtain ⟨rfl,hz⟩:=rx
  obtain ⟨t,rfl⟩:=r1
  cases ha:z.cps.all (· < 128)
  ·exact wpAny_pyIter_wide ha ⟨s1.heap.objs.size,[s1.heap.objs.size],_,_,H1,rfl,I1.kept (t':=s1.toks) fun b o e=>Yc _ e,turn_str (t:=t) (.inr rfl),⟨_,Yp _ rfl,rfl,rfl⟩,fp,q _ H1 f1 c1 iter_str⟩
  ·exact wpAny_pyIter_ascii ha ⟨s1.heap.objs.size,[s1.heap.objs.size],_,_,H1,rfl,I1.kept (t':=s1.toks) fun b o e=>Yc _ e,turn_str (t:=t) (.inl rfl),⟨_,Yp _ rfl,rfl,rfl⟩,fp,q _ H1 f1 c1 iter_str⟩
 ·cases e2
theorem ZaW (hg:Gl X "range")(hm:X.mg "range"=none)(ha:QAM X [a] fs)(hs:Yj [a] X.env=[(false,eval a X.env)]:=by rfl):QIM X tg (.Call (.Name "range" p) [a] [] pos) (mRange1 fs):=by
 subst_eqs
 exact PI.imp (pi_range1 hg hm ha hs) fun σ H R h_=>by
    obtain ⟨ι,ρ,C,xs,C',sr,e,q⟩:=h_
    obtain ⟨zs,C1,e1,g1⟩:=Zai e
    obtain ⟨e2,hC⟩:=ZaJ g1
    subst hC
    refine ⟨ι,ρ,C,zs,_,sr,e1,fun vs H1 f1 c1 r1=>?_⟩
    obtain ⟨j,rfl,h,rfl⟩:=rng1_some e2
    obtain ⟨v,w,rfl,r1,hw⟩:=r1
    cases (show w=[] from hw)
    have r1:v=.int j:=by unfold RepS Rep at r1;exact r1
    subst r1
    exact ⟨j,rfl,by lia,by lia,q _ H1 f1 c1 iter_range⟩
end
section
variable {X:Cx}{a b e c o i:Expr}{es:4e8}{fa fb fc fo fi fv:4e0}{fs:2e8}{pos p apos cpos p2:Pos}{x:Str}{lo hi:Option Expr}{l h:PSt->M (Option Int)}
theorem Za8:QOM X none oNo:=by
 subst_eqs
 exact PO.imp po_none fun σ H Q h_=>by obtain ⟨ι,ρ,C,r,C',sr,e,q⟩:=h_;cases e;exact q H .refl sr.cr
theorem Za7 (he:QEM X e fa):QOM X (some e) (oPart fa):=by
 subst_eqs
 exact PO.imp (po_some he) fun σ H Q h_=>by
   obtain ⟨ι,ρ,C,r,C',sr,e,q⟩:=h_
   obtain ⟨z,C1,e1,g1⟩:=Zai e
   obtain ⟨e2,hC⟩:=ZaJ g1
   subst hC
   refine ⟨ι,ρ,C,z,_,sr,e1,fun v H1 f1 c1 r1=>?_⟩
   unfold intD at e2
   split at e2
   ·rename_i j hd
    cases e2
    have l:=r1.lies c1 hd
    cases l
    exact ⟨j,rfl,q H1 f1 c1⟩
   ·cases e2
theorem ZaZ (he:QEM X e fa)(hl:QOM X lo l)(hh:QOM X hi h):QEM X (.Subscript e (.Slice lo hi none p2) pos) (mSlice fa l h):=by
 subst_eqs
 exact PE.imp (pe_slice (SlR.or sl_list (SlR.or sl_tup sl_tupW)) he hl hh) fun σ H Q h_=>by
    obtain ⟨ι,ρ,C,z,C',sr,e,q⟩:=h_
    obtain ⟨x,C1,e1,g1⟩:=Zai e
    obtain ⟨i,C2,e2,g2⟩:=Zai g1
    obtain ⟨j,C3,e3,g3⟩:=Zai g2
    obtain ⟨e4,hC⟩:=ZaJ g3
    subst hC
    clear e g1 g2 g3
    refine ⟨ι,ρ,C,x,C1,sr,e1,fun v H1 f1 c1 r1=>⟨ι,ρ,C1,i,C2,sr.step f1 c1,e2,fun H2 f2 c2=>⟨ι,ρ,C2,j,_,(sr.step f1 c1).step f2 c2,e3,fun H3 f3 c3=>?_⟩⟩⟩
    have fr:=f1.trans (f2.trans f3)
    have r3:=(r1.mono c1 f2).mono c2 f3
    rcases sliceD_some e4 with ⟨xs,hd,rfl⟩ | ⟨xs,hd,rfl⟩
    ·obtain ⟨a,vs,rfl,h1,rv⟩:=liesL (r3.lies c3 hd)
     exact .inl ⟨a,vs,rfl,h1,fun p hp=>q _ _ (fr.trans (Fr.new hp)) (c3.new hp) (show Rep _ _ _ _ _ from ZcR c3 hp (reps_cut rv i j))⟩
    ·obtain ⟨a,vs,rfl,h1,rv⟩:=liesT (r3.lies c3 hd)
     by_cases hw:HT.sIx vs.length 0 i=0/\HT.sIx vs.length vs.length j=vs.length
     ·refine .inr (.inr ⟨a,vs,rfl,h1.sq,hw,?_⟩)
      rw[←rv.length] at hw
      rw[cut_whole hw] at q
      exact q _ H3 fr c3 (show Rep _ _ _ _ _ by unfold Rep;exact ⟨a,vs,rfl,h1,rv⟩)
     ·exact .inr (.inl ⟨a,vs,rfl,h1.sq,hw,fun p hp=>q _ _ (fr.trans (Fr.new hp)) (c3.new hp) (show Rep _ _ _ _ _ from Zcf hp (reps_cut rv i j))⟩)
end
section
variable {X:Cx}{a b e c o i:Expr}{es:4e8}{fa fb fc fo fi fv:4e0}{fs:2e8}{pos p apos cpos p2:Pos}{x:Str}
theorem q_em_strip (ho:QEM X o fo)(ha:QAM X 5e1 fs)(hbase:WG o "strip" X.env (eval o X.env)=eval o X.env:=by rfl)
  (hfew:((backTo cpos (Yj 5e1 X.env)).all (fun x=>!x.1)&&(Uu cpos (Vh [] X.env)).all (fun x=>x.1.isSome)
   &&decide ((e::es).length + ([]:List Vi).length + (if ([]:List Vi).isEmpty then 0 else 1) < 30))=true:=by rfl)
  (hline:(apos.endLine==cpos.line)=true:=by rfl) (hs:1e9:=by rfl) (hplain:(backTo cpos (Yj es X.env)).any (·.1)=false:=by rfl):
  QEM X (.Call (.Attribute o "strip" apos) 5e1 [] cpos) (mMt "str" stripH fo fs):=by
 subst_eqs
 exact em_mt PySem.F.plainAttrs_str PySem.F.slot_str_strip PySem.F.type_str_strip mt_strip strip_ok ho ha hbase hfew hline hs hplain
theorem Zah (hu:X.A.units + 1 < cLine)(ha:QEM X a fa)(hb:QEM X b fb)(hs:PlainIx b:=by exact fun _ _=>rfl):QEM X (.Subscript a b pos) (mOp 2e7 fa fb):=by
 subst_eqs
 exact em_ix (IxR.or ix_seq (ix_dict hu)) ixQ_ok.r ha hb hs
theorem q_dm_nil:QDM X [] [] [] aNil:=by
 subst_eqs
 exact fun pos pins s σ H Q I h_=>by
   obtain ⟨ι,ρ,C,r,C',sr,e,q⟩:=h_
   cases e
   exact PySem.pairTrees_nil_walk ⟨[],H,I,trivial,q [] H .refl sr.cr rfl⟩
theorem ZcP {k:Str}{j1:Nat}{p1:Pos}{ks:List (Option Expr)}{keys:4e6}(h:QEM X e fa)(t:QDM X ks es keys fs):QDM X (some (.Constant (.str k) j1 p1)::ks) 5e1 (k::keys) (aCons fa fs):=by
 subst_eqs
 intro pos pins s σ H Q I h_
 obtain ⟨ι,ρ,C,r,C',sr,e,q⟩:=h_
 obtain ⟨x,C1,e1,g1⟩:=Zai e
 obtain ⟨xs,C2,e2,g2⟩:=Zai g1
 cases g2
 refine PySem.pairTrees_cons_walk (Calls.Constant_str ?_)
 refine thn (h pins _ σ H (fun v H1=>Fr ι H H1/\CR X.K ι H1 C1/\RepS X.K ι H1 x v) (I.tok _) ⟨ι,ρ,C,x,C1,sr,e1,fun v H1 f1 c1 r1=>⟨f1,c1,r1⟩⟩) fun u s1 h_=>?_
 obtain ⟨v,H1,I1,r1,f1,c1,rx⟩:=h_
 refine thn (t pos pins s1 σ H1 (fun vs H2=>Fr ι H1 H2/\CR X.K ι H2 C'/\RepSs X.K ι H2 xs vs) I1 ⟨ι,ρ,C1,xs,C',sr.step f1 c1,e2,fun vs H2 f2 c2 r2=>⟨f2,c2,r2⟩⟩) fun us s2 h_=>?_
 obtain ⟨vs,H2,I2,pr,f2,c2,rs⟩:=h_
 exact ⟨v::vs,H2,I2,⟨keyIs_str k _,r1,pr⟩,q (v::vs) H2 (f1.trans f2) c2 ⟨v,vs,rfl,rx.mono c1 f2,rs⟩⟩
theorem q_em_dict {ks:List (Option Expr)}{keys:4e6}(h:QDM X ks es keys fs)(nd:(keys.map (XM:Str->Key)).Nodup)(hall:ks.all (·.isSome)=true)(hl:ks.length=es.length)(h0:ks≠[])(hlen:ks.length<=15)(hk:keys.length=ks.length):
  QEM X (.Dict ks es pos) (mDict keys fs):=by
 subst_eqs
 intro pins s σ H Q I h_
 obtain ⟨ι,ρ,C,z,C',sr,e,q⟩:=h_
 obtain ⟨xs,C1,e1,g1⟩:=Zai e
 obtain ⟨e2,hC⟩:=ZaJ g1
 subst hC
 have hbig:XH < s.heap.objs.size:=modules_low I.nolimit
 have hf:H s.heap.objs.size=none:=I.hok.fresh (Yk _)
 have I0:Inv X pins σ H { s with heap:=s.heap.push { cls:=.type "dict",data:=.dict #[] } }:=I.kept (t':=s.toks) fun b o e=>Yc _ e
 have I1:Inv X ((s.heap.objs.size,{ cls:=.type "dict",data:=.dict #[] })::pins) σ H { s with heap:=s.heap.push { cls:=.type "dict",data:=.dict #[] } }:=I0.pins_of fun p hp=>by
  rcases Yn.mp hp with rfl | hp
  ·exact ⟨Yp _ rfl,hf,X3 I.lt,I.nofs (Yk _),fun v z=>by cases z⟩
  ·exact I0.pin p (YI _ hp)
 refine PySem.wpAny_Dict_walk (knd:=mixKind X.prog X.w) hall hl h0 hlen ?_
 refine thn (h pos _ _ σ H (fun vs H2=>Fr ι H H2/\CR X.K ι H2 C'/\RepSs X.K ι H2 xs vs) I1 ⟨ι,ρ,C,xs,C',sr,e1,fun vs H2 f2 c2 r2=>⟨f2,c2,r2⟩⟩) fun us s1 h_=>?_
 obtain ⟨vs,H1,J1,pr,f1,c1,rs⟩:=h_
 obtain ⟨a1,a2,kvs,a3,a4,a5⟩:=prel_carries (P:=X.prog) (w:=X.w) pr
 have pd:=J1.pin (s.heap.objs.size,_) (YI _ Xr)
 refine ⟨kvs,a3,DictOf_empty pd.1,fun h' hd hs=>?_⟩
 rw[merged_nil_of_nodup kvs (by rw[a5];exact nd)] at hd
 have J2:Inv X pins σ H1 s1:=J1.pins_of fun p hp=>J1.pin p (YI _ (Xf _ hp))
 have hcl:∀x c,X.env.cells.lookup x=some c->c≠s.heap.objs.size:=fun x c e=>by
  obtain ⟨v,z⟩:=I.cell x c e
  exact Yo z.lt
 have hpn:∀p∈X.pn++pins,p.1≠s.heap.objs.size:=fun p hp=>Yo (Ys (I.pin p hp).1)
 have J3:Inv X pins σ H1 { s1 with heap:=h',toks:=s1.toks + us.length }:=J2.turned (t':=s1.toks + us.length) (fun b o hb e=>(hs.2 b hb).trans e) pd.2.1 pd.2.2.1 (.inr I.sz) hcl hpn
 have hkl:keys.length<=15:=by rw[hk];exact hlen
 have J4:=track (ob:=.dK ((keys.map XM).zip vs)) J3 pd.2.1 I.sz pd.2.2.1 hcl hpn ⟨YG (by rw[Us];exact YG (Nat.min_le_left _ _) (by rw[Yr];exact hkl)) (by rw[YS];decide),beq_eq_false_iff_ne.mpr (XT (Yo hbig)),kvs,a4,hd⟩
 cases hp:plain xs with
 | none=>rw[hp] at e2;cases e2
 | some ps=>
  rw[hp] at e2
  cases e2
  obtain ⟨rr,hv⟩:=Zbs hp rs
  refine ⟨.ref s.heap.objs.size,_,J4,rfl,q _ _ (f1.trans (Fr.new pd.2.1)) (c1.new pd.2.1) ?_⟩
  show Rep _ _ _ (.dct _ _) _
  unfold Rep
  refine ⟨s.heap.objs.size,keys.map XM,vs,rfl,fun z=>?_,ZaU,by rw[Yr];exact a1,by rw[Xb];rfl,Reps.stay (fun b o e=>by rw[Zax (Zaq e pd.2.1)];exact e) ps vs rr⟩
  rcases c1.mut z with ⟨_,e⟩ | ⟨_,e⟩ | ⟨_,e⟩
  ·rw[pd.2.1] at e;cases e
  ·rw[pd.2.1] at e;cases e
  ·rw[pd.2.1] at e;cases e
end
section
variable {X:Cx}{a b e c o i:Expr}{es:4e8}{fa fb fc fo fi fv:4e0}{fs:2e8}{pos p apos cpos p2:Pos}{x:Str}{d:Addr}{tab:List (Str×Addr)}
theorem q_em_top (hg:Gl X x)(hm:X.mg x=some (.ref d))(hd:5e0:=by decide):QEM X (.Name x pos) (mC (.fn d)):=by
 subst_eqs
 exact Zbn (pe_glob (v:=.ref d) hg hm rfl hd) fun ι H=>by unfold Rep;rfl
theorem q_em_topix (T:TopD X.K X.w d tab)(ha:QEM X a fa)(hb:QEM X b fb)(hs:PlainIx b:=by exact fun _ _=>rfl):QEM X (.Subscript a b pos) (mOp (topG d tab) fa fb):=by
 subst_eqs
 exact em_ix (ix_top T) topG_ok ha hb hs
theorem q_em_callV {k:Nat}{T:List (Addr×(List SV->M SV))}(i:Nat)(hok:∀a F,T.lookup a=some F->∃fd ps,FnOk X.prog X.w X.K X.mg X.base CX0 k a fd ps (liftSp X.K F)/\YC X.K (.ref a)=true/\L2.Binds X.K fd ps [])(hr:Room k X.A)(ha:QAM X 5e1 fs)
  (hN:X.N[i]? = some x:=by rfl) (hv:Vis X.env.scope x:=by first | exact Or.inl rfl | exact Or.inr 2e5 | exact Or.inr (Or.inr rfl)) (hdb:5e0:=by decide) (hcd:(x==("__classdict__":Str))=false:=by decide)
  (he:1e9:=by rfl) (hpl:4e5:=by rfl):
  QEM X (.Call (.Name x p) 5e1 [] pos) (mCallV i T fs):=by
 subst_eqs
 intro pins s σ H Q I h_
 obtain ⟨ι,ρ,C,z,C',sr,e,q⟩:=h_
 obtain ⟨f,C1,e1,g1⟩:=Zai e
 obtain ⟨xs,C2,e2,g2⟩:=Zai g1
 obtain ⟨a,F,rfl,hT,e3⟩:=callV_some g2
 obtain ⟨fd,ps,G,hk,hb⟩:=hok a F hT
 refine X4 (thn (em_var i hN hv hdb hcd pins s σ H (fun v H1=>Fr ι H H1/\CR X.K ι H1 C1/\v=.ref a) I ⟨ι,ρ,C,_,C1,sr,e1,fun v H1 f1 c1 r1=>⟨f1,c1,by unfold RepS Rep at r1;exact r1⟩⟩) fun u s1 h_=>?_)
 obtain ⟨v,H1,I1,r1,f1,c1,hv⟩:=h_
 subst hv
 cases r1
 refine W.callWith_K (h₀:=X.base) I.ok.mod.kin hk (thn (ha pos pins s1 σ H1 (fun vs H2=>Fr ι H1 H2/\CR X.K ι H2 C2/\RepSs X.K ι H2 xs vs) I1 ⟨ι,ρ,C1,xs,C2,sr.step f1 c1,e2,fun vs H2 f2 c2 r2=>⟨f2,c2,r2⟩⟩) fun us s2 ⟨vs,H2,I2,r2,f2,c2,rs⟩=>⟨I2.kIn,?_⟩) he hpl
 refine run_fn (dvs:=[]) (ds:=[]) G hr hb .nil pass0 I2 r2 ?_
 rw[YV]
 exact ⟨ι,xs,C2,z,C',c2,rs,e3,fun v H3 f3 c3 r3=>q v H3 (f1.trans (f2.trans f3)) c3 r3⟩
theorem Zdf:QEM X (.Dict [] [] pos) mDict0:=by
 subst_eqs
 exact PE.imp pe_dnewK fun σ H Q h_=>by
   obtain ⟨ι,ρ,C,z,C',sr,e,q⟩:=h_
   cases e
   intro p hp
   refine q _ _ (Fr.new hp) (sr.cr.new hp) ?_
   show Rep _ _ _ (.dct [] []) _
   unfold Rep
   refine ⟨p,[],[],rfl,fun z=>?_,ZaU,rfl,rfl,.nil⟩
   rcases sr.cr.mut z with ⟨_,e⟩ | ⟨_,e⟩ | ⟨_,e⟩
   ·rw[hp] at e;cases e
   ·rw[hp] at e;cases e
   ·rw[hp] at e;cases e
end
end Pu
namespace Pu
open PySem PySem.Spec PySem.W PySem.Calls L2 Se
open PyProof.Rows hiding St Fr
section
variable {X:Cx}{e:Expr}{fs:2e8}{p p2 pos pos2:Pos}
theorem Zbv (hcm:X.calm=true)(hu:X.A.units + 64 < cLine)(hgl:Gl X "len")(hml:X.mg "len"=none)(hgs:Gl X "set")(hms:X.mg "set"=none)(ha:QAM X [e] fs)(he:Yj [e] X.env=(false,eval e X.env)::Yj [] X.env:=by rfl):
  QEM X (.Call (.Name "len" p) [.Call (.Name "set" p2) [e] [] pos2] [] pos) (mCB (g1 lenSetH) fs):=by
 subst_eqs
 exact PE.imp (pe_lenset hcm hu hgl hml hgs hms ha he) fun _ _ _ h=>tM_CB lenSet_ok.c h
end
end Pu
namespace Pu
open PySem PySem.Spec PySem.W PySem.Calls L2 PySem.SeqAt
open PyProof.Rows hiding St Fr
section
variable {X:Cx}{e o i a:Expr}{es:4e8}{p pos pos' cpos apos:Pos}{x:Str}{fv fo fi fa:4e0}{fs:2e8}
theorem q_sm_newK {n:Nat}{dpos:Pos}(hN:X.N.Nodup)(hi:X.N[n]? = some x)(hx:Loc X.env.scope x)(hs:WZ (.Dict [] [] dpos) (some (.Name x pos')) pos.line X.env=pure false:=by rfl)
  (hf:X.fn x=true\/X.env.scope.names.lookup x=some .local:=by first | exact .inl rfl | exact .inr rfl | assumption):QSM X (.Assign [.Name x pos'] (.Dict [] [] dpos) pos) (mNewK n):=by
 subst_eqs
 exact PS.imp (ps_set hN hi hx pe_dnewK hs hf) fun D σ H h_=>by
   obtain ⟨ι,ρ,C,fl,C',sr,e,d⟩:=h_
   cases e
   intro q hq
   have c1:=sr.cr
   have c2:CR X.K (ι++[q]) (upd H q (.dK [])) (C++[.dct [] []]):=c1.add hq ⟨[],[],ZaU,rfl,rfl,.nil⟩
   have x:Ex ι [q] H (upd H q (.dK [])):=⟨Fr.new hq,fun b hb=>by
    have:b=q:=by simpa using hb
    subst this;exact hq⟩
   refine d [q] _ _ x ((sr.ex x c2).set n ⟨q,rfl,?_⟩)
   rw[←c1.len];simp
theorem q_sm_setixK {spos:Pos}(hu:X.A.units + 64 < cLine)(hv:QEM X e fv)(ho:QEM X o fo)(hi:QEM X i fi)
  (hs:WZ e (some (.Subscript o i spos)) pos.line X.env=pure false:=by rfl):QSM X (.Assign [.Subscript o i spos] e pos) (mSetIxK fv fo fi):=by
 subst_eqs
 exact PS.imp (ps_dput 1e3 ho hi hv hs) fun D σ H h_=>by
    obtain ⟨ι,ρ,C,fl,C',sr,e,d⟩:=h_
    obtain ⟨v,C1,e1,g1⟩:=Zai e
    obtain ⟨o,C2,e2,g2⟩:=Zai g1
    obtain ⟨i,C3,e3,g3⟩:=Zai g2
    obtain ⟨k,ip,p',ks,ps,qs,key,ho,hi,hv,hc,hj,hks,hlen,hf,hC⟩:=setK_some g3
    clear e g1 g2 g3
    subst ho hi hv hf hC
    refine ⟨ι,ρ,C,_,C1,sr,e1,fun x H1 f1 c1 r1=>⟨ι,ρ,C1,_,C2,sr.step f1 c1,e2,fun y H2 f2 c2 r2=>⟨ι,ρ,C2,_,C3,(sr.step f1 c1).step f2 c2,e3,fun w H3 f3 c3 r3=>?_⟩⟩⟩
    obtain ⟨a,rfl,hk⟩:=r2
    obtain ⟨qs',vs,h1,hl,hk',rv⟩:=(show CellOk X.K ι H3 a (.dct ks ps) from c3.ok k a _ hk hc)
    subst hk'
    rw[Zbf] at hks
    cases hks
    have hw:w=kV key:=rep_key (show Rep X.K ι H3 ip w from r3) hj
    subst hw
    have r1':Rep X.K ι H3 p' x:=Rep.mono c2 f3 _ _ (Rep.mono c1 f2 _ _ r1)
    obtain ⟨z1,z2⟩:=put_zip (k:=key) (v:=x) hl
    have fr:Fr ι H3 (upd H3 a (.dK (putK (qs.zip vs) key x))):=fun b u n e=>by
     rw[Zax (fun z=>n (by rw[z];exact Xc hk))];exact e
    have c4:CR X.K ι (upd H3 a (.dK (putK (qs.zip vs) key x))) (C3.set k (.dct ((putKs qs key).map kP) (putVs qs ps key p'))):=
     c3.put hk ⟨putKs qs key,putVs qs vs key x,by rw[←z1];exact ZaU,z2,rfl,Reps.mono c3 fr _ _ (reps_put r1' rv)⟩
    rw[Yr] at hlen
    refine ⟨a,_,rfl,DPut.k h1 (by rw[Us,YS];lia),?_⟩
    exact Done.nx0 ((((sr.step f1 c1).step f2 c2).step f3 c3).step fr c4) (d.fr c4 (f1.trans (f2.trans (f3.trans fr))))
end
section
variable {X:Cx}
theorem q_fm_sorted3 {e:Expr}{es:4e8}{fs:2e8}{p pos:Pos}(hcm:X.calm=true)(hu:X.A.units + 64 < cLine)(hgl:Gl X "sorted")(hm:X.mg "sorted"=none)(hv:Xe "sorted"=some (.builtin "sorted"))(ha:QAM X 5e1 fs)
  (he:1e9:=by rfl) (hpl:4e5:=by rfl):QFM X (.Call (.Name "sorted" p) 5e1 [] pos) (mSorted3 fs):=by
 subst_eqs
 exact PE.imp (PE.or (fm_sorted2 (p:=p) (pos:=pos) hcm hu hgl hm hv ha he hpl) (pe_callB (call_sortedK hcm hu) hgl hm hv ha 2e4 2e4 he hpl)) fun σ H Q h_=>by
    obtain ⟨ι,ρ,C,z,C',sr,e,q⟩:=h_
    obtain ⟨xs,C1,e1,e⟩:=Zai e
    obtain ⟨e2,rfl⟩:=ZaJ e
    unfold sortedH3 at e2
    split at e2
    ·rename_i x
     split at e2
     ·rename_i ks vs hd
      split at e2
      ·rename_i qs hk
       by_cases ho:qs.all keyOk=true
       ·rw[if_pos ho] at e2
        refine .inr ⟨ι,ρ,C,[x],_,sr,e1,fun vs H1 f1 c1 r1=>?_⟩
        obtain ⟨v,w,rfl,r1,hw⟩:=r1
        cases (show w=[] from hw)
        obtain ⟨a,qs',ws,rfl,rfl,hd',hl,r⟩:=liesD (r1.lies c1 hd)
        rw[Zbf] at hk
        cases hk
        have ek:((qs.zip ws).map fun q=>kP q.1)=qs.map kP:=by
         have:(qs.zip ws).map UC=qs:=WT 1e3
         exact (Xb (f:=UC) (g:=kP) (l:=qs.zip ws)).symm.trans (by rw[this])
        have ev:((qs.zip ws).map fun q=>kV q.1)=qs.map kV:=by
         have:(qs.zip ws).map UC=qs:=WT 1e3
         exact (Xb (f:=UC) (g:=kV) (l:=qs.zip ws)).symm.trans (by rw[this])
        have ef:(qs.zip ws).map (·.1)=qs:=WT 1e3
        refine ⟨a,qs.zip ws,rfl,hd',by rw[ef];exact ho,by rw[ek,e2];rfl,fun l hl=>?_⟩
        refine q l _ H1 f1 c1 hl ?_
        rw[Zcv e2,ek,ev]
        exact ZbW (reps_kP ho) fun i hi=>Zbz i hi
       ·rw[if_neg ho] at e2;cases e2
      ·cases e2
     ·exact .inl ⟨ι,ρ,C,z,_,sr,by unfold mSorted2;show bnd (fs ρ) _ C=_;unfold bnd;rw[e1];show opM _ _=_;unfold opM;dsimp only;rw[e2],q⟩
    ·cases e2
end
end Pu
namespace Pu
open PySem PySem.Spec L2
open PyProof.Rows hiding St Fr
section
variable {X:Cx}{l:Expr}{elts:4e8}{x1:Nat}{tpos p pos:Pos}
theorem q_im_enum {fs:2e8}(hg:Gl X "enumerate")(hm:X.mg "enumerate"=none)(ha:QAM X [l] fs)(hs:Yj [l] X.env=[(false,eval l X.env)]:=by rfl):QIM X (.Tuple elts x1 tpos) (.Call (.Name "enumerate" p) [l] [] pos) (mEnum fs):=by
 subst_eqs
 exact PI.imp (pi_enum hg hm ha hs) fun σ H R h_=>by
    obtain ⟨ι,ρ,C,xs,C',sr,e,q⟩:=h_
    obtain ⟨zs,C1,e1,g1⟩:=Zai e
    obtain ⟨e2,hC⟩:=ZaJ g1
    subst hC
    refine ⟨ι,ρ,C,zs,_,sr,e1,fun vs H1 f1 c1 r1=>?_⟩
    unfold enumP at e2
    split at e2
    ·cases e2
     obtain ⟨v,w,rfl,r1,hw⟩:=r1
     cases (show w=[] from hw)
     replace r1:Rep X.K ι H1 (.lst _) v:=r1
     unfold Rep at r1
     obtain ⟨a,vs,rfl,hq,rv⟩:=r1
     exact ⟨a,rfl,⟨vs,hq.sq⟩,q _ H1 f1 c1 (iter_enum c1 hq rv)⟩
    ·cases e2
theorem q_sm_forE {fs:2e8}{f:PSt->M PF}{body:List Stmt}{fpos:Pos}{g:5e4}(hp:PassesOwn 3e0 X.A X.env X.xe)(hc:X.calm=true)(hgl:Gl X "enumerate")(hm:X.mg "enumerate"=none)(ha:QAM X [l] fs)(hg:QGM X (.Tuple elts x1 tpos) g)(hb:QBM X body f)
  (hs:∀x,XX (.Call (.Name "enumerate" p) [l] [] pos) X.env x=pure x:=by intro _;rfl) (hs1:Yj [l] X.env=[(false,eval l X.env)]:=by rfl):QSM X (.For (.Tuple elts x1 tpos) (.Call (.Name "enumerate" p) [l] [] pos) body [] fpos) (mForE fs g f):=by
 subst_eqs
 exact PS.imp (ps_for hp hc (pi_enum hgl hm ha hs1) hg hb hs) fun D σ H h_=>by
   obtain ⟨ι,ρ,C,fl,C',sr,e,d⟩:=h_
   obtain ⟨x,C1,e1,e⟩:=Zai e
   refine ⟨ι,ρ,C,x,C1,sr,e1,fun v H1 f1 c1 r1=>?_⟩
   split at e
   case h_2=>cases e
   rename_i k
   obtain ⟨v,w,rfl,⟨a,rfl,hk⟩,hw⟩:=r1
   cases (show w=[] from hw)
   have d1:=d.fr c1 f1
   have sr1:=sr.step f1 c1
   have cell:∀{ι2:3e1} {H2:Hp} {C2:Cs} {qs:List PV},CR X.K (ι++ι2) H2 C2->C2[k]? = some (.lst qs)->∃vs,H2 a=some (.lst vs)/\Reps X.K (ι++ι2) H2 qs vs:=fun {ι2 H2 C2 qs} cr h=>by
    have hkl:k < ι.length:=by
     rcases YF k ι.length with q | q
     ·exact q
     ·rw[Yl.mpr q] at hk;cases hk
    exact cr.ok k a _ (by rw[Yf hkl];exact hk) h
   refine ⟨a,rfl,?_,?_⟩
   ·unfold loopE at e
    split at e
    ·rename_i qs hq
     obtain ⟨vs,h1,_⟩:=cell (ι2:=[]) (by rw[YV];exact c1) hq
     exact ⟨vs,.inl (.inl h1)⟩
    ·cases e
   refine ⟨fun i m σ2 H2=>∃ι2 ρ2 C2,Ex ι ι2 H1 H2/\SR X.K (ι++ι2) H2 ρ2 σ2 C2/\loopE g f k m i ρ2 C2=some (fl,C'),⟨1000,[],ρ,C1,Ex.fr .refl,by rw[YV];exact sr1,e⟩,?_⟩
   rintro i m σ2 H2 ⟨ι2,ρ2,C2,x2,sr2,e2⟩
   cases m with
   | zero=>cases e2
   | succ m=>
   unfold loopE at e2
   split at e2
   ·rename_i qs hq
    obtain ⟨vs,h1,rv⟩:=cell sr2.cr hq
    split at e2
    ·rename_i q hqi
     right
     obtain ⟨w,hw,rw'⟩:=rv.get hqi
     refine ⟨⟨vs,w,.inl (.inl h1),hw⟩,fun σ' H'=>∃ι2 ρ2 C2,Ex ι ι2 H1 H'/\SR X.K (ι++ι2) H' ρ2 σ' C2/\loopE g f k m (i + 1) ρ2 C2=some (fl,C'),?_,?_⟩
     ·rintro σ' H' h
      exact ⟨m,Vr _,h⟩
     ·intro v H3 y
      obtain ⟨b,v',hn,rfl,rfl,y⟩:=y
      have ev:v'=w:=by have:=y vs (.inl (.inl h1));rw[hw] at this;exact (YA this).symm
      subst ev
      split at e2
      ·cases e2
      ·rename_i ρ3 hg1
       obtain ⟨fl1,C3,e3,e4⟩:=Zai e2
       have sm:∀c o,H2 c=some o->upd H2 b (.tup [.int i,v']) c=some o:=fun c o e=>by rw[Zax (Zaq e hn)];exact e
       have x3:Ex ι ι2 H1 (upd H2 b (.tup [.int i,v'])):=⟨fun c o n z=>sm c o (x2.1 c o n z),x2.2⟩
       have cr3:=sr2.cr.same sm
       refine ⟨ι++ι2,ρ2,C2,.tup [.int (i:Nat),q],ρ3,sr2.step (fun c o _ z=>sm c o z) cr3,Zcf hn (.cons repI (.cons rw' .nil)),hg1,fun σ4 sr4=>⟨ι++ι2,ρ3,C2,fl1,C3,sr4,e3,?_⟩⟩
       cases fl1 with
       | nx ρ5=>exact fun ι5 σ5 H5 x5 sr5=>⟨ι2++ι5,ρ5,C3,x3.trans cr3 x5,by rw[←Yz];exact sr5,e4⟩
       | ct ρ5=>exact fun ι5 σ5 H5 x5 sr5=>⟨ι2++ι5,ρ5,C3,x3.trans cr3 x5,by rw[←Yz];exact sr5,e4⟩
       | bk ρ5=>cases e4;exact fun ι5 σ5 H5 x5 sr5=>d1 (ι2++ι5) σ5 H5 (x3.trans cr3 x5) (by rw[←Yz];exact sr5)
       | rf ps=>cases e4;exact fun ι5 q5 vs5 H5 x5 c5 h5 r5=>d1 (ι2++ι5) q5 vs5 H5 (x3.trans cr3 x5) (by rw[←Yz];exact c5) h5 (by rw[←Yz];exact r5)
       | rq ps=>cases e4;exact fun ι5 q5 vs5 H5 x5 c5 h5 r5=>d1 (ι2++ι5) q5 vs5 H5 (x3.trans cr3 x5) (by rw[←Yz];exact c5) h5 (by rw[←Yz];exact r5)
       | rt r=>cases e4;exact fun ι5 v5 H5 x5 c5 r5=>d1 (ι2++ι5) v5 H5 (x3.trans cr3 x5) (by rw[←Yz];exact c5) (by rw[←Yz];exact r5)
    ·rename_i hqi
     left
     cases e2
     refine ⟨⟨vs,.inl (.inl h1),?_⟩,d1 ι2 σ2 H2 x2 sr2⟩
     rw[←rv.length];exact Yl.mp hqi
   ·cases e2
end
end Pu
namespace Pu
open PySem PySem.Spec L2
open PyProof.Rows hiding St Fr
section
variable {X:Cx}{e o:Expr}{es:4e8}{fo:4e0}{fs:2e8}{apos cpos:Pos}
theorem q_em_get2 (ho:QEM X o fo)(ha:QAM X 5e1 fs)(hbase:WG o "get" X.env (eval o X.env)=eval o X.env:=by rfl)
  (hfew:((backTo cpos (Yj 5e1 X.env)).all (fun x=>!x.1)&&(Uu cpos (Vh [] X.env)).all (fun x=>x.1.isSome)
   &&decide ((e::es).length + ([]:List Vi).length + (if ([]:List Vi).isEmpty then 0 else 1) < 30))=true:=by rfl)
  (hline:(apos.endLine==cpos.line)=true:=by rfl) (hs:1e9:=by rfl) (hplain:(backTo cpos (Yj es X.env)).any (·.1)=false:=by rfl):
  QEM X (.Call (.Attribute o "get" apos) 5e1 [] cpos) (mMt "dict" getH2 fo fs):=by
 subst_eqs
 exact em_mt PySem.F.plainAttrs_dict PySem.F.slot_dict_get PySem.F.type_dict_get mt_get2 get2_ok ho ha hbase hfew hline hs hplain
variable {a b:Expr}{fa fb:4e0}{pos:Pos}
theorem Zbj (ha:QEM X a fa)(hb:QEM X b fb):QEM X (.BinOp a .Add b pos) (mOp (g2 addBP) fa fb):=by
 subst_eqs
 exact em_op (OpR.or op_addAll op_addBI) addB_ok.r ha hb
end
section
variable {X:Cx}{l:Expr}{elts:4e8}{x1:Nat}{tpos p pos:Pos}
theorem q_im_enumT {fs:2e8}(hg:Gl X "enumerate")(hm:X.mg "enumerate"=none)(ha:QAM X [l] fs)(hs:Yj [l] X.env=[(false,eval l X.env)]:=by rfl):QIM X (.Tuple elts x1 tpos) (.Call (.Name "enumerate" p) [l] [] pos) (mEnumT fs):=by
 subst_eqs
 exact PI.imp (pi_enumT hg hm ha hs) fun σ H R h_=>by
    obtain ⟨ι,ρ,C,xs,C',sr,e,q⟩:=h_
    obtain ⟨zs,C1,e1,g1⟩:=Zai e
    obtain ⟨e2,hC⟩:=ZaJ g1
    subst hC
    refine ⟨ι,ρ,C,zs,_,sr,e1,fun vs H1 f1 c1 r1=>?_⟩
    unfold enumPT at e2
    split at e2
    ·cases e2
     obtain ⟨v,w,rfl,r1,hw⟩:=r1
     cases (show w=[] from hw)
     replace r1:Rep X.K ι H1 (.tup _) v:=r1
     unfold Rep at r1
     obtain ⟨a,vs,rfl,hq,rv⟩:=r1
     exact ⟨a,rfl,⟨vs,hq.sq⟩,q _ H1 f1 c1 (iter_enumT c1 hq rv)⟩
    ·cases e2
end
end Pu
namespace K02
open PySem PySem.Spec L2 Pu
open PyProof.Rows hiding St Fr
noncomputable def Zbb (f_qbn f_qbs f_qbl:Addr):List (Str×Addr):=[("joined",f_qbn),("said",f_qbs),("did",f_qbl)]
abbrev B_qbp:PSt->M PF:=(mRet (mAndV (mCB (g1 isiH) (aCons 1e7 (aCons (mC (.ty "int")) aNil))) (mAndV (mNotV (mCB (g1 isiH) (aCons 1e7 (aCons (mC (.ty "bool")) aNil)))) (mOp (g2 geP) 1e7 2e9))))
def F_qbp:List SV->M SV:=mDef 2 0 (B_qbp)
abbrev B_qbq:PSt->M PF:=(mRet (mAndV (mFn F_qbp (aCons 1e7 (aCons 2e6 aNil))) (mOp (g2 ltP) 1e7 2e9)))
def F_qbq:List SV->M SV:=mDef 2 0 (B_qbq)
abbrev B_qbr:PSt->M PF:=(mRet (mAndV (mCB (g1 isiH) (aCons 1e7 5e5)) (mChain (g2 leP) (g2 leP) 2e9 (mCB 6e0 5e2) 4e9)))
def F_qbr:List SV->M SV:=mDef 3 0 (B_qbr)
abbrev B_qbt:PSt->M PF:=(mSeq (mIfS (mOrT (mNotT (mTru (mCB (g1 isiH) (aCons 1e7 (aCons (mC (.ty "str")) aNil))))) (mNotT (mTest (mChain (g2 leP) (g2 leP) 1e5 (mCB 6e0 5e2) (mC (.int 12)))))) 2e1 mSkip) (mRet (mCB (g1 allH) (aCons (mVal (mComp (mItems 1e7) ["sign"] [] 6e8 tOk (mOp (g2 inP) 1e7 (mC (.str "abcdefghijklmnopqrstuvwxyz"))))) aNil))))
def F_qbt:List SV->M SV:=mDef 1 0 (B_qbt)
abbrev B_qbg:PSt->M PF:=(mSeq (mIfS (mOrT (mNotT (mTru (mFn F_qbr (aCons 1e7 (aCons 2e9 (aCons 4e9 aNil)))))) (mNotT (mTru (mCB (g1 allH) (aCons (mVal (mComp (mItems 1e7) ["word"] [] 6e8 tOk (mFn F_qbt 5e2))) aNil))))) 2e1 mSkip) (mRet (mOp (g2 eqP) (mCB (g1 lenSetH) 5e2) (mCB 6e0 5e2))))
def F_qbg:List SV->M SV:=mDef 3 0 (B_qbg)
abbrev B_qbh:PSt->M PF:=(mSeq (mAsg (mSlice 1e7 (oPart 5e6) oNo) (hTup (hCons (hName 1) (hCons (hName 2) hNil)) 2)) (mRet (mOp 6e7 (mVal (mList 6e3)) (mVal (mList (aCons (mSlice 4e9 oNo (oPart 1e5)) aNil))))))
def F_qbh:List SV->M SV:=mDef 1 2 (B_qbh)
abbrev B_qbn:PSt->M PF:=(mRet (mAndV (mOp (g2 eqP) (mCB 6e0 5e2) 3e2) (mFn F_qbq (aCons (mOp 2e7 1e7 1e5) (aCons (mCB 6e0 (aCons (mOp 2e7 4e9 2e6) aNil)) aNil)))))
def F_qbn:List SV->M SV:=mDef 3 0 (B_qbn)
abbrev B_qbs:PSt->M PF:=(mRet (mAndV (mOp (g2 eqP) (mCB 6e0 5e2) 6e9) (mAndV (mFn F_qbq (aCons (mOp 2e7 1e7 1e5) (aCons (mCB 6e0 (aCons (mOp 2e7 4e9 2e6) aNil)) aNil))) (mFn F_qbt (aCons (mOp 2e7 1e7 3e2) aNil)))))
def F_qbs:List SV->M SV:=mDef 3 0 (B_qbs)
abbrev B_qbl:PSt->M PF:=(mSeq (mIfS (mOrT (mTest (mOp (g2 neP) (mCB 6e0 5e2) 5e6)) (mNotT (mTru (mFn F_qbq (aCons (mOp 2e7 1e7 1e5) (aCons (mOp 6e7 (mCB 6e0 (aCons (mOp 2e7 4e9 1e5) aNil)) 1e5) aNil)))))) 2e1 mSkip) (mSeq (mAsg (mSlice 1e7 (oPart 1e5) oNo) (hTup (hCons (hName 3) (hCons (hName 4) (hCons (hName 5) hNil))) 3)) (mSeq (mIfS (mTest (mOp (g2 gtP) (mVar 3) 2e6)) (mRet (mAndV (mFn F_qbq (aCons 7e0 (aCons (mC (.int 12)) aNil))) (mFn F_qbq (aCons (mVar 5) (aCons (mC (.int 9)) aNil))))) mSkip) (mRet (mAndV (mFn F_qbq (aCons 7e0 (aCons (mCB 6e0 (aCons (mOp 2e7 4e9 6e9) aNil)) aNil))) (mAndV (mOp (g2 neP) 7e0 2e9) (mFn F_qbq (aCons (mVar 5) (aCons (mOp 2e7 (mOp 2e7 (mOp 2e7 4e9 6e9) 7e0) 3e2) aNil)))))))))
def F_qbl:List SV->M SV:=mDef 3 3 (B_qbl)
def Za5 (f_qbn f_qbs f_qbl:Addr):List (Addr×(List SV->M SV)):=[(f_qbn,F_qbn),(f_qbs,F_qbs),(f_qbl,F_qbl)]
abbrev B_qbm (d_EVENTS f_qbn f_qbs f_qbl:Addr):PSt->M PF:=(mSeq (mIfS (mOrT (mNotT (mTru (mCB (g1 isiH) (aCons 1e7 5e5)))) (mOrT (mNotT (mTru 1e7)) (mOrT (mNotT (mTru (mCB (g1 isiH) (aCons (mOp 2e7 1e7 2e6) (aCons (mC (.ty "str")) aNil))))) (mTest (mOp (topI d_EVENTS (Zbb f_qbn f_qbs f_qbl) true) (mOp 2e7 1e7 2e6) (mC (.fn d_EVENTS))))))) 2e1 mSkip) (mSeq (mSet 3 (mOp (topG d_EVENTS (Zbb f_qbn f_qbs f_qbl)) (mC (.fn d_EVENTS)) (mOp 2e7 1e7 2e6))) (mRet (mCallV 3 (Za5 f_qbn f_qbs f_qbl) (aCons 1e7 (aCons 2e9 (aCons 4e9 aNil)))))))
def F_qbm (d_EVENTS f_qbn f_qbs f_qbl:Addr):List SV->M SV:=mDef 3 1 (B_qbm d_EVENTS f_qbn f_qbs f_qbl)
abbrev B_qbo:PSt->M PF:=(mRet (mOrV (mFn F_qbr (aCons 1e7 (aCons 2e6 (aCons 2e6 aNil)))) (mAndV (mFn F_qbr (aCons 1e7 (aCons 3e2 (aCons 3e2 aNil)))) (mFn F_qbp (aCons (mOp 2e7 1e7 1e5) (aCons 1e5 aNil))))))
def F_qbo:List SV->M SV:=mDef 1 0 (B_qbo)
abbrev B_qbj:PSt->M PF:=(mSeq (mIfS (mNotT (mTru (mFn F_qbr (aCons 1e7 (aCons (mC (.int 6)) (aCons (mC (.int 6)) aNil)))))) 2e1 mSkip) (mSeq (mAsg 1e7 (hTup (hCons (hName 2) (hCons (hName 3) (hCons (hName 4) (hCons (hName 5) (hCons (hName 6) (hCons (hName 7) hNil)))))) 6)) (mSeq (mIfS (mOrT (mNotT (mTru (mFn F_qbq (aCons 4e9 6e3)))) (mOrT (mNotT (mTru (mFn F_qbq (aCons (mVar 3) 6e3)))) (mTest (mOp (g2 eqP) 4e9 (mVar 3))))) 2e1 mSkip) (mSeq (mIfS (mOrT (mNotT (mTru (mFn F_qbp (aCons 7e0 (aCons 1e5 aNil))))) (mOrT (mTest (mOp (g2 gtP) 7e0 (mC (.int 9)))) (mNotT (mTru (mFn F_qbp (aCons (mVar 5) (aCons 1e5 aNil))))))) 2e1 mSkip) (mRet (mAndV (mFn F_qbr (aCons (mVar 6) (aCons 2e6 4e2))) (mFn F_qbo (aCons (mVar 7) aNil))))))))
def F_qbj:List SV->M SV:=mDef 2 6 (B_qbj)
abbrev B_qbi (d_EVENTS f_qbn f_qbs f_qbl:Addr):PSt->M PF:=(mSeq (mSet 2 (mFn F_qbh (aCons (mOp 2e7 (mOp 2e7 2e9 6e9) 1e7) aNil))) (mSeq (mIfS (mNotT (mTru (mCB (g1 allH) (aCons (mVal (mComp (mItems 4e9) ["event"] [0,1] 6e8 tOk (mFn (F_qbm d_EVENTS f_qbn f_qbs f_qbl) (aCons 1e7 (aCons 2e9 (aCons 4e9 aNil)))))) aNil)))) 2e1 mSkip) (mRet (mOp (g2 eqP) (mCB (g1 lenSetH) (aCons 4e9 aNil)) (mCB 6e0 (aCons 4e9 aNil))))))
def F_qbi (d_EVENTS f_qbn f_qbs f_qbl:Addr):List SV->M SV:=mDef 2 1 (B_qbi d_EVENTS f_qbn f_qbs f_qbl)
abbrev B_qbk (d_EVENTS f_qbn f_qbs f_qbl:Addr):PSt->M PF:=(mSeq (mIfS (mNotT (mTru (mFn F_qbr (aCons 1e7 (aCons 5e6 (aCons 5e6 aNil)))))) 2e1 mSkip) (mSeq (mAsg 1e7 (hTup (hCons (hName 1) (hCons (hName 2) (hCons (hName 3) (hCons (hName 4) hNil)))) 4)) (mSeq (mIfS (mOrT (mNotT (mTru (mFn F_qbg (aCons 2e9 (aCons 1e5 4e2))))) (mOrT (mTest (mOp (g2 inP) (mC (.str "bell")) 2e9)) (mNotT (mTru (mFn F_qbg (aCons 4e9 (aCons 2e6 (aCons 5e6 aNil)))))))) 2e1 mSkip) (mSeq (mIfS (mOrT (mNotT (mTru (mFn F_qbp (aCons (mVar 3) (aCons 2e6 aNil))))) (mNotT (mTru (mFn F_qbr (aCons 7e0 (aCons 1e5 (aCons (mC (.int 12)) aNil))))))) 2e1 mSkip) (mSeq (mIfS (mNotT (mTru (mCB (g1 allH) (aCons (mVal (mComp (mItems 7e0) ["clause"] [1] 6e8 tOk (mFn F_qbj (aCons 1e7 (aCons (mCB 6e0 6e3) aNil))))) aNil)))) 2e1 mSkip) (mRet (mCB (g1 allH) (aCons (mVal (mComp (mRange1 (aCons (mCB 6e0 (aCons 7e0 aNil)) aNil)) ["own"] [0] 6e8 tOk (mFn (F_qbi d_EVENTS f_qbn f_qbs f_qbl) (aCons 1e7 6e3)))) aNil))))))))
def F_qbk (d_EVENTS f_qbn f_qbs f_qbl:Addr):List SV->M SV:=mDef 1 4 (B_qbk d_EVENTS f_qbn f_qbs f_qbl)
abbrev B_qac:PSt->M PF:=(mSeq (mIfS (mTest (mOp (g2 ltP) 2e9 (mCB 6e0 5e2))) (mRet (mOp 2e7 1e7 2e9)) mSkip) (mRet 2e6))
def F_qac:List SV->M SV:=mDef 2 0 (B_qac)
abbrev B_qao:PSt->M PF:=(mSeq (mSet 2 (mFn F_qac (aCons 1e7 (aCons (mOp (g2 modP) 2e9 (mCB (g1 maxH) (aCons 1e5 (aCons (mCB 6e0 5e2) aNil)))) aNil)))) (mSeq (mSet 3 (mOp (g2 modP) (mOp (g2 mulP) (mOp 6e7 (mOp 6e7 (mOp (g2 modP) 4e9 (mC (.int 2147483629))) (mOp (g2 mulP) (mOp (g2 mulP) (mC (.int 7919)) 2e9) 2e9)) (mC (.int 11))) (mC (.int 48271))) (mC (.int 2147483647)))) (mSeq (mIfS (mTest (mOp (g2 eqP) (mOp (g2 modP) (mFn F_qac (aCons 1e7 (aCons 2e6 aNil))) 3e2) 2e6)) (mSet 2 2e6) mSkip) (mRetF (mLst (aCons (mOp (g2 modP) 4e9 (mOp (g2 powP) (mC (.int 10)) (mC (.int 40)))) (aCons (mVar 3) aNil)))))))
def F_qao:List SV->M SV:=mDef 2 2 (B_qao)
def FF_qao:List SV->M 6e2:=mDefF 2 2 (B_qao)
abbrev B_qaq:PSt->M PF:=(mSeq (mIfS (mTest (mOp (g2 gtP) (mOp 2e7 1e7 2e6) 2e6)) (mSeq (mSet 2 (mOp (g2 modP) (mOp 2e7 1e7 2e6) 2e9)) (mSeq (mSetIx (mOp (g2 fdivP) (mOp 2e7 1e7 2e6) 2e9) 1e7 2e6) (mRet 4e9))) mSkip) (mSeq (mSetIx (mOp (g2 modP) (mOp 6e7 (mOp (g2 mulP) (mOp 2e7 1e7 1e5) (mC (.int 48271))) (mC (.int 12345))) (mC (.int 2147483647))) 1e7 1e5) (mRet (mOp (g2 modP) (mOp (g2 modP) (mOp (g2 mulP) (mOp 2e7 1e7 1e5) (mOp 2e7 1e7 1e5)) (mC (.int 1999999973))) 2e9))))
def F_qaq:List SV->M SV:=mDef 2 1 (B_qaq)
abbrev B_qbe:PSt->M PF:=(mSeq (mSet 2 (mC (.str "abcdefghijklmnopqrstuvwxyz"))) (mSeq (mSet 3 (mFn F_qaq (aCons 1e7 (aCons (mC (.int 26)) aNil)))) (mSeq (mSet 4 (mOp 2e7 (mVal (mLst (aCons 1e5 (aCons 6e9 (aCons (mC (.int 5)) (aCons (mC (.int 7)) (aCons (mC (.int 9)) (aCons (mC (.int 11)) aNil)))))))) (mFn F_qaq (aCons 1e7 (aCons (mC (.int 6)) aNil))))) (mRetF (mComp (mRange1 6e3) ["_law_k"] [2,3,4] 6e8 tOk (mOp 6e7 (mOp 2e7 2e9 (mOp (g2 modP) (mOp 6e7 4e9 (mOp (g2 mulP) (mVar 3) 1e7)) (mC (.int 26)))) (mOp 2e7 (mVal (mLst (aCons (mC (.str "")) (aCons (mC (.str "zq")) (aCons (mC (.str "x")) (aCons (mC (.str "qqzzx")) aNil)))))) (mOp (g2 modP) (mOp 6e7 4e9 (mOp (g2 mulP) 1e7 1e7)) 5e6))))))))
def F_qbe:List SV->M SV:=mDef 2 3 (B_qbe)
abbrev B_qak:PSt->M PF:=(mSeq (mAsg 2e9 (hTup (hCons (hName 4) (hCons (hName 5) (hCons (hName 6) hNil))) 3)) (mSeq (mSet 7 (mFn F_qaq (aCons 1e7 (aCons (mC (.int 6)) aNil)))) (mSeq (mIfS (mTest (mOp (g2 ltP) (mVar 7) 3e2)) (mRet (mTup (aCons (mC (.str "joined")) (aCons (mFn F_qaq (aCons 1e7 (aCons 7e0 aNil))) aNil)))) mSkip) (mSeq (mIfS (mTest (mOp (g2 ltP) (mVar 7) 5e6)) (mRet (mTup (aCons (mC (.str "said")) (aCons (mFn F_qaq (aCons 1e7 (aCons 7e0 aNil))) (aCons (mOp 2e7 4e9 (mFn F_qaq (aCons 1e7 (aCons 5e6 aNil)))) aNil))))) mSkip) (mSeq (mSet 8 (mFn F_qaq (aCons 1e7 (aCons (mOp 6e7 (mCB 6e0 (aCons (mVar 5) aNil)) 1e5) aNil)))) (mSeq (mSet 9 (mOp 2e7 (mOp 6e7 (mVal (mLst (aCons (mVar 6) aNil))) (mVar 5)) (mVar 8))) (mSeq (mSet 10 (mFn F_qaq (aCons 1e7 (aCons (mCB 6e0 (aCons (mVar 9) aNil)) aNil)))) (mSeq (mIfS (mAndT (mTest (mOp (g2 eqP) (mVar 8) 2e6)) (mTest (mOp (g2 eqP) (mVar 10) (mVar 3)))) (mRet (mTup (aCons (mC (.str "joined")) (aCons (mFn F_qaq (aCons 1e7 (aCons 7e0 aNil))) aNil)))) mSkip) (mRet (mTup (aCons (mC (.str "did")) (aCons (mVar 8) (aCons (mVar 10) (aCons (mFn F_qaq (aCons 1e7 (aCons (mOp 2e7 (mVar 9) (mVar 10)) aNil))) aNil))))))))))))))
def F_qak:List SV->M SV:=mDef 4 7 (B_qak)
abbrev B_qag:PSt->M PF:=(mSeq (mNew 5 (mLst aNil)) (mSeq (mFor (mEnum (aCons 4e9 aNil)) (hTup (hCons (hName 6) (hCons (hName 7) hNil)) 2) (mSeq (mSet 8 (mFn F_qaq (aCons 1e7 6e3))) (mSeq (mSet 9 (mOp (g2 modP) (mOp 6e7 (mOp 6e7 (mVar 8) 1e5) (mFn F_qaq (aCons 1e7 (aCons (mOp (g2 subP) 2e9 1e5) aNil)))) 2e9)) (mSeq (mNew 10 (mLst aNil)) (mSeq (mFor (mRange1 (aCons (mOp 2e7 (mVal (mLst (aCons 2e6 (aCons 1e5 (aCons 2e6 (aCons 3e2 (aCons 1e5 (aCons 2e6 (aCons 6e9 4e2))))))))) (mFn F_qaq (aCons 1e7 4e2))) aNil)) (hName 11) (mSeq (mSet 12 (mFn F_qak (aCons 1e7 (aCons (mTup (aCons 2e9 (aCons (mVar 3) (aCons 4e9 aNil)))) (aCons 7e0 (aCons (mVar 6) aNil)))))) (mIfS (mTest (mOp (g2 (inDP true)) (mVar 12) (mVar 10))) (mDrop (mApp (mVar 10) (aCons (mVar 12) aNil))) mSkip))) (mSeq (mSet 13 (mTup aNil)) (mSeq (mIfS (mTest (mOp (g2 (deepP eqD)) (mFn F_qaq (aCons 1e7 (aCons 3e2 aNil))) 2e6)) (mSeq (mSet 12 (mFn F_qak (aCons 1e7 (aCons (mTup (aCons 2e9 (aCons (mVar 3) (aCons 4e9 aNil)))) (aCons 7e0 (aCons (mVar 6) aNil)))))) (mIfS (mTest (mOp (g2 (inDP true)) (mVar 12) (mVar 10))) (mSet 13 (mTup (aCons (mVar 12) (aCons (mOp 6e7 1e5 (mFn F_qaq (aCons 1e7 (aCons (mC (.int 9)) aNil)))) aNil)))) mSkip)) mSkip) (mSeq (mSet 14 (mOp 2e7 (mVal (mLst (aCons (mOp 6e7 1e5 (mFn F_qaq (aCons 1e7 (aCons (mC (.int 6)) aNil)))) (aCons (mOp 6e7 1e5 (mFn F_qaq (aCons 1e7 (aCons (mC (.int 40)) aNil)))) aNil)))) (mFn F_qaq (aCons 1e7 (aCons 3e2 aNil))))) (mDrop (mApp (mVar 5) (aCons (mTup (aCons (mVar 8) (aCons (mVar 9) (aCons (mVar 7) (aCons (mVar 14) (aCons (mCB (g1 tupH) (aCons (mVar 10) aNil)) (aCons (mVar 13) aNil))))))) aNil))))))))))) (mRet (mCB (g1 tupH) (aCons (mVar 5) aNil)))))
def F_qag:List SV->M SV:=mDef 5 10 (B_qag)
abbrev B_qay:PSt->M PF:=(mSeq (mNew 1 (mFnF FF_qao (aCons 1e7 (aCons 1e5 aNil)))) (mSeq (mSet 2 (mFn F_qbe (aCons 2e9 (aCons (mC (.int 16)) aNil)))) (mSeq (mSet 3 (mOp 2e7 (mVal (mLst (aCons 1e5 (aCons 1e5 (aCons 3e2 (aCons 3e2 (aCons 6e9 (aCons 1e5 (aCons 3e2 (aCons (mC (.int 7)) aNil)))))))))) (mFn F_qaq (aCons 2e9 4e2)))) (mSeq (mNew 4 (mLst aNil)) (mSeq (mFor (mRange1 (aCons (mVar 3) aNil)) (hName 5) (mSeq (mNew 1 (mFnF FF_qao (aCons 1e7 (aCons (mOp 6e7 3e2 (mVar 5)) aNil)))) (mSeq (mSet 6 (mOp 2e7 (mVal (mLst (aCons 3e2 (aCons 6e9 (aCons 3e2 (aCons 6e9 (aCons 5e6 (aCons 3e2 (aCons (mC (.int 5)) 4e2))))))))) (mFn F_qaq (aCons 2e9 4e2)))) (mSeq (mSet 7 (mOp 2e7 (mVal (mLst (aCons 1e5 (aCons 3e2 (aCons 1e5 (aCons 6e9 (aCons 3e2 (aCons 5e6 (aCons (mC (.int 7)) (aCons (mC (.int 12)) aNil)))))))))) (mFn F_qaq (aCons 2e9 4e2)))) (mSeq (mSet 8 (mVal (mComp (mRange1 (aCons (mVar 7) aNil)) ["_law_c"] [1] 6e8 tOk (mOp 2e7 (mVal (mLst (aCons 1e5 (aCons 1e5 (aCons 3e2 (aCons 1e5 (aCons 6e9 (aCons 1e5 (aCons 3e2 (aCons (mC (.int 9)) aNil)))))))))) (mFn F_qaq (aCons 2e9 4e2)))))) (mDrop (mApp 7e0 (aCons (mTup (aCons (mVar 6) (aCons (mVar 8) (aCons (mFn F_qaq (aCons 2e9 (aCons 6e9 aNil))) aNil)))) aNil)))))))) (mSeq (mNewK 9) (mSeq (mForE (aCons 7e0 aNil) (hTup (hCons (hName 5) (hCons (hName 10) hNil)) 2) (mSeq (mNew 1 (mFnF FF_qao (aCons 1e7 (aCons (mOp 6e7 (mC (.int 9)) (mVar 5)) aNil)))) (mSeq (mSet 11 (mFn F_qaq (aCons 2e9 4e2))) (mSeq (mSet 6 (mCB (g1 tupH) (aCons (mVal (mComp (mRange1 (aCons (mOp 2e7 (mVar 10) 2e6) aNil)) ["_law_j"] [2,11] 6e8 tOk (mOp 2e7 2e9 (mOp (g2 modP) (mOp 6e7 4e9 1e7) (mC (.int 8)))))) aNil))) (mSeq (mSet 12 (mSlice (mVal (mComp (mRange1 (aCons (mVar 3) aNil)) ["_law_j"] [5] 6e8 (mTest (mOp (g2 neP) 1e7 2e9)) 1e7)) oNo (oPart (mOp 2e7 (mVar 10) 3e2)))) (mSeq (mSet 13 (mOp 6e7 (mOp 2e7 (mVal (mLst (aCons (mC (.int 12)) (aCons (mC (.int 30)) (aCons (mC (.int 60)) (aCons (mC (.int 1000)) aNil)))))) (mFn F_qaq (aCons 2e9 (aCons 5e6 aNil)))) (mFn F_qaq (aCons 2e9 (aCons (mC (.int 5)) aNil))))) (mSeq (mSet 7 (mFn F_qag (aCons 2e9 (aCons (mOp 2e7 (mVar 10) 2e6) (aCons (mOp 2e7 (mVar 10) 1e5) (aCons (mVal (mComp (mItems (mVar 12)) ["_law_j"] [4] 6e8 tOk (mOp 2e7 (mOp 2e7 2e9 1e7) 1e5))) (aCons 4e9 aNil))))))) (mSetIxK (mTup (aCons (mVar 6) (aCons (mCB (g1 tupH) (aCons (mVal (mComp (mItems (mVar 12)) ["_law_j"] [2] 6e8 tOk (mOp 2e7 2e9 (mOp 6e7 (mC (.int 5)) 1e7)))) aNil)) (aCons (mVar 13) (aCons (mVar 7) aNil))))) (mVar 9) (mOp 2e7 4e9 (mOp 6e7 (mC (.int 5)) (mVar 5))))))))))) (mRetQ (aCons (mOp 2e7 (mVal (mLst (aCons 2e6 (aCons 1e5 (aCons 3e2 (aCons (mC (.int 5)) (aCons (mC (.int 30)) aNil))))))) (mFn F_qaq (aCons 2e9 (aCons (mC (.int 5)) aNil)))) (aCons (mVar 9) aNil))))))))))
def F_qay:List SV->M SV:=mDef 1 13 (B_qay)
abbrev B_qba:PSt->M PF:=(mRet (mAndV (mCB (g1 isiH) (aCons 1e7 (aCons (mC (.ty "int")) aNil))) (mAndV (mNotV (mCB (g1 isiH) (aCons 1e7 (aCons (mC (.ty "bool")) aNil)))) (mOp (g2 geP) 1e7 2e6))))
def F_qba:List SV->M SV:=mDef 1 0 (B_qba)
abbrev B_qaa:PSt->M PF:=(mRet (mAndV (mFn F_qba 5e2) (mOp (g2 ltP) 1e7 2e9)))
def F_qaa:List SV->M SV:=mDef 2 0 (B_qaa)
abbrev B_qbc:PSt->M PF:=(mSeq (mIfS (mOrT (mNotT (mTru (mCB (g1 isiH) (aCons 1e7 (aCons (mC (.ty "str")) aNil))))) (mOrT (mTest (mOp (g2 eqP) 1e7 (mC (.str "")))) (mTest (mOp (g2 gtP) (mCB 6e0 5e2) (mC (.int 12)))))) 2e1 mSkip) (mRet (mOp (g2 eqP) (mMt "str" stripH 1e7 (aCons (mC (.str "abcdefghijklmnopqrstuvwxyz")) aNil)) (mC (.str "")))))
def F_qbc:List SV->M SV:=mDef 1 0 (B_qbc)
abbrev B_qas:PSt->M PF:=(mSeq (mIfS (mOrT (mNotT (mTru (mCB (g1 isiH) (aCons 1e7 5e5)))) (mOrT (mNotT (mTest (mChain (g2 leP) (g2 leP) 2e9 (mCB 6e0 5e2) 4e9))) (mNotT (mTru (mCB (g1 allH) (aCons (mVal (mComp (mItems 1e7) ["_law_one"] [] 6e8 tOk (mFn F_qbc 5e2))) aNil)))))) 2e1 mSkip) (mRet (mOp (g2 eqP) (mCB (g1 lenSetH) 5e2) (mCB 6e0 5e2))))
def F_qas:List SV->M SV:=mDef 3 0 (B_qas)
abbrev B_qam:PSt->M PF:=(mSeq (mAsg 4e9 (hTup (hCons (hName 3) (hCons (hName 4) (hCons (hName 5) hNil))) 3)) (mSeq (mIfS (mOrT (mNotT (mTru (mCB (g1 isiH) (aCons 1e7 5e5)))) (mOrT (mTest (mOp (g2 (empP id)) 1e7 (mTup aNil))) (mNotT (mTru (mCB (g1 isiH) (aCons (mOp 2e7 1e7 2e6) (aCons (mC (.ty "str")) aNil))))))) 2e1 mSkip) (mSeq (mIfS (mTest (mOp (g2 (deepP fun p q=>!eqD p q)) (mMt "dict" getH2 (mDict ["joined","said","did"] (aCons 3e2 (aCons 6e9 (aCons 5e6 aNil)))) (aCons (mOp 2e7 1e7 2e6) (aCons 2e6 aNil))) (mCB 6e0 5e2))) 2e1 mSkip) (mSeq (mIfS (mTest (mOp (g2 (deepP fun p q=>!eqD p q)) (mOp 2e7 1e7 2e6) (mC (.str "did")))) (mRet (mAndV (mFn F_qaa (aCons (mOp 2e7 1e7 1e5) (aCons (mVar 3) aNil))) (mOrV (mOp (g2 (deepP eqD)) (mOp 2e7 1e7 2e6) (mC (.str "joined"))) (mFn F_qbc (aCons (mOp 2e7 1e7 3e2) aNil))))) mSkip) (mSeq (mIfS (mNotT (mTru (mFn F_qaa (aCons (mOp 2e7 1e7 1e5) (aCons (mOp 6e7 7e0 1e5) aNil))))) 2e1 mSkip) (mSeq (mIfS (mTest (mOp (g2 gtP) (mOp 2e7 1e7 1e5) 2e6)) (mRet (mAndV (mFn F_qaa (aCons (mOp 2e7 1e7 3e2) (aCons (mC (.int 12)) aNil))) (mFn F_qaa (aCons (mOp 2e7 1e7 6e9) (aCons (mC (.int 9)) aNil))))) mSkip) (mRet (mAndV (mFn F_qaa (aCons (mOp 2e7 1e7 3e2) (aCons (mCB 6e0 (aCons (mVar 5) aNil)) aNil))) (mAndV (mOp (g2 (deepP fun p q=>!eqD p q)) (mOp 2e7 1e7 3e2) 2e9) (mFn F_qaa (aCons (mOp 2e7 1e7 6e9) (aCons (mOp 2e7 (mVar 5) (mOp 2e7 1e7 3e2)) aNil))))))))))))
def F_qam:List SV->M SV:=mDef 3 3 (B_qam)
abbrev B_qae:PSt->M PF:=(mSeq (mIfS (mOrT (mNotT (mTru (mCB (g1 isiH) (aCons 1e7 5e5)))) (mTest (mOp (g2 (deepP fun p q=>!eqD p q)) (mCB 6e0 5e2) (mC (.int 6))))) 2e1 mSkip) (mSeq (mAsg 1e7 (hTup (hCons (hName 2) (hCons (hName 3) (hCons (hName 4) (hCons (hName 5) (hCons (hName 6) (hCons (hName 7) hNil)))))) 6)) (mSeq (mIfS (mOrT (mNotT (mTru (mFn F_qaa (aCons 4e9 6e3)))) (mOrT (mNotT (mTru (mFn F_qaa (aCons (mVar 3) 6e3)))) (mTest (mOp (g2 (deepP eqD)) 4e9 (mVar 3))))) 2e1 mSkip) (mSeq (mIfS (mOrT (mNotT (mTru (mFn F_qaa (aCons 7e0 (aCons (mC (.int 10)) aNil))))) (mOrT (mTest (mOp (g2 (deepP eqD)) 7e0 2e6)) (mOrT (mNotT (mTru (mFn F_qba (aCons (mVar 5) aNil)))) (mTest (mOp (g2 (deepP eqD)) (mVar 5) 2e6))))) 2e1 mSkip) (mSeq (mIfS (mOrT (mNotT (mTru (mCB (g1 isiH) (aCons (mVar 6) 5e5)))) (mOrT (mTest (mOp (g2 gtP) (mCB 6e0 (aCons (mVar 6) aNil)) (mC (.int 8)))) (mNotT (mTru (mCB (g1 isiH) (aCons (mVar 7) 5e5)))))) 2e1 mSkip) (mRet (mOrV (mOp (g2 (empP id)) (mVar 7) (mTup aNil)) (mAndV (mOp (g2 (deepP eqD)) (mCB 6e0 (aCons (mVar 7) aNil)) 3e2) (mAndV (mFn F_qba (aCons (mOp 2e7 (mVar 7) 1e5) aNil)) (mOp (g2 gtP) (mOp 2e7 (mVar 7) 1e5) 2e6))))))))))
def F_qae:List SV->M SV:=mDef 2 6 (B_qae)
abbrev B_qai:PSt->M PF:=(mSeq (mIfS (mOrT (mNotT (mTru (mCB (g1 isiH) (aCons 1e7 5e5)))) (mOrT (mTest (mOp (g2 (deepP fun p q=>!eqD p q)) (mCB 6e0 5e2) 5e6)) (mNotT (mTru (mFn F_qas (aCons (mOp 2e7 1e7 2e6) (aCons 1e5 4e2))))))) 2e1 mSkip) (mSeq (mAsg 1e7 (hTup (hCons (hName 1) (hCons (hName 2) (hCons (hName 3) (hCons (hName 4) hNil)))) 4)) (mSeq (mIfS (mOrT (mTest (mOp (g2 (inDP false)) (mC (.str "bell")) 2e9)) (mOrT (mNotT (mTru (mFn F_qas (aCons 4e9 (aCons 2e6 (aCons 5e6 aNil)))))) (mNotT (mTru (mFn F_qba (aCons (mVar 3) aNil)))))) 2e1 mSkip) (mSeq (mIfS (mOrT (mNotT (mTru (mCB (g1 isiH) (aCons 7e0 5e5)))) (mNotT (mTest (mChain (g2 leP) (g2 leP) 1e5 (mCB 6e0 (aCons 7e0 aNil)) (mC (.int 12)))))) 2e1 mSkip) (mSeq (mIfS (mNotT (mTru (mCB (g1 allH) (aCons (mVal (mComp (mItems 7e0) ["_law_clause"] [1] 6e8 tOk (mFn F_qae (aCons 1e7 (aCons (mCB 6e0 6e3) aNil))))) aNil)))) 2e1 mSkip) (mSeq (mSet 5 (mTup (aCons (mCB 6e0 6e3) (aCons (mCB 6e0 (aCons 4e9 aNil)) (aCons (mVal (mComp (mItems 7e0) ["_law_clause"] [] 6e8 tOk (mOp 2e7 1e7 3e2))) aNil))))) (mSeq (mFor (mEnumT (aCons 7e0 aNil)) (hTup (hCons (hName 6) (hCons (hName 7) hNil)) 2) (mSeq (mSet 8 (mOp 6e7 (mVal (mList (aCons (mOp 2e7 (mVar 7) 5e6) aNil))) (mVal (mList (aCons (mSlice (mOp 2e7 (mVar 7) (mC (.int 5))) oNo (oPart 1e5)) aNil))))) (mIfS (mOrT (mNotT (mTru (mCB (g1 allH) (aCons (mVal (mComp (mItems (mVar 8)) ["_law_event_here"] [6,5] 6e8 tOk (mFn F_qam (aCons 1e7 (aCons 2e9 (aCons 4e9 aNil)))))) aNil)))) (mTest (mOp (g2 ltDP) (mCB (g1 lenSetH) (aCons (mVar 8) aNil)) (mCB 6e0 (aCons (mVar 8) aNil))))) 2e1 mSkip))) (mRet (mC (.bl true))))))))))
def F_qai:List SV->M SV:=mDef 1 8 (B_qai)
abbrev B_qau (Z:List SV->M SV):PSt->M PF:=(mSeq (mIfS (mAndT (mTru (mCB (g1 isiH) (aCons 2e9 5e5))) (mAndT (mTest (mOp (g2 (empP not)) 2e9 (mTup aNil))) (mTest (mOp (g2 gtP) (mFn F_qaq (aCons 1e7 (aCons (mC (.int 6)) aNil))) 2e6)))) (mSeq (mSet 2 (mFn F_qaq (aCons 1e7 (aCons (mCB 6e0 6e3) aNil)))) (mRet (mOp (g2 addBP) (mOp (g2 addBP) (mSlice 2e9 oNo (oPart 4e9)) (mTup (aCons (mFn Z (aCons 1e7 (aCons (mOp 2e7 2e9 4e9) aNil))) aNil))) (mSlice 2e9 (oPart (mOp (g2 addBP) 4e9 1e5)) oNo)))) mSkip) (mSeq (mSet 3 (mFn F_qaq (aCons 1e7 (aCons (mC (.int 6)) aNil)))) (mSeq (mIfS (mAndT (mTru (mCB (g1 isiH) (aCons 2e9 5e5))) (mTest (mOp (g2 ltDP) (mVar 3) 5e6))) (mRet (mOp 2e7 (mVal (mLst (aCons (mVal (mList 6e3)) (aCons (mSlice 2e9 (oPart 1e5) oNo) (aCons (mOp (g2 addBP) 2e9 (mSlice 2e9 (oPart (mNeg 1e5)) oNo)) (aCons (mOp (g2 addBP) 2e9 (mTup (aCons 2e6 aNil))) aNil)))))) (mVar 3))) mSkip) (mSeq (mIfS (mAndT (mTru (mCB (g1 isiH) (aCons 2e9 (aCons (mC (.ty "int")) aNil)))) (mTest (mOp (g2 ltDP) (mVar 3) 5e6))) (mRet (mOp (g2 addBP) 2e9 (mOp 2e7 (mVal (mLst (aCons 1e5 (aCons (mNeg 1e5) (aCons (mC (.int 8)) (aCons (mC (.int 12)) aNil)))))) (mVar 3)))) mSkip) (mSeq (mSet 4 (mVal (mLst (aCons (mC .non) (aCons (mC (.bl true)) (aCons (mC (.bl false)) (aCons (mNeg 1e5) (aCons 2e6 (aCons 1e5 (aCons (mC (.int 9)) (aCons (mC (.int 12)) (aCons (mC (.str "")) (aCons (mC (.str "bell")) (aCons (mC (.str "Ab")) (aCons (mC (.str "said")) (aCons (mC (.str "did")) (aCons (mTup aNil) (aCons (mTup (aCons (mC (.str "said")) (aCons 2e6 (aCons (mC (.str "go")) aNil)))) (aCons (mTup (aCons (mC (.str "joined")) (aCons 1e5 aNil))) aNil))))))))))))))))))) (mRet (mOp 2e7 (mOp (g2 addBP) 7e0 (mVal (mLst (aCons (mVal (mLst aNil)) (aCons mDict0 (aCons (mC (.str "abcdefghijklm")) (aCons (mC (.str "do")) aNil))))))) (mFn F_qaq (aCons 1e7 (aCons (mC (.int 20)) aNil))))))))))
def F_qau:Nat->List SV->M SV
 | 0=>fun _ _=>none
 | n + 1=>mDef 2 3 (B_qau (F_qau n))
abbrev B_qaw:PSt->M PF:=(mRet (mAndV (mCB (g1 isiH) (aCons 1e7 (aCons (mC (.ty "bool")) aNil))) (mOp (g2 eqP) 1e7 2e9)))
def F_qaw:List SV->M SV:=mDef 2 0 (B_qaw)
abbrev B_law (d_EVENTS f_qbn f_qbs f_qbl:Addr):PSt->M PF:=(mSeq (mSet 1 (mFn F_qay 5e2)) (mSeq (mSet 2 (mVal (mSorted3 (aCons (mOp 2e7 2e9 1e5) aNil)))) (mSeq (mIfS (mNotT (mTru (mCB (g1 allH) (aCons (mVal (mComp (mItems 4e9) ["_law_name"] [1] 6e8 tOk (mFn F_qaw (aCons (mFn (F_qbk d_EVENTS f_qbn f_qbs f_qbl) (aCons (mOp 2e7 (mOp 2e7 2e9 1e5) 1e7) aNil)) (aCons (mC (.bl true)) aNil))))) aNil)))) 2e1 mSkip) (mSeq (mFor (mRange1 (aCons (mCB (g1 maxH) (aCons (mC (.int 12)) (aCons (mCB (g1 minH) (aCons (mC (.int 40)) (aCons (mCB 6e0 5e2) aNil))) aNil))) aNil)) (hName 3) (mSeq (mNew 4 (mFnF FF_qao (aCons 1e7 (aCons (mOp 6e7 (mC (.int 17)) (mVar 3)) aNil)))) (mSeq (mSet 5 (mFn (F_qau 12) (aCons 7e0 (aCons (mOp 2e7 (mOp 2e7 2e9 1e5) (mOp 2e7 4e9 (mFn F_qaq (aCons 7e0 (aCons (mCB 6e0 (aCons 4e9 aNil)) aNil))))) aNil)))) (mSeq (mIfS (mTest (mOp (g2 eqP) (mFn F_qaq (aCons 7e0 (aCons 5e6 aNil))) 2e6)) (mSet 5 (mFn (F_qau 12) (aCons 7e0 (aCons (mVar 5) aNil)))) mSkip) (mIfS (mNotT (mTru (mFn F_qaw (aCons (mFn (F_qbk d_EVENTS f_qbn f_qbs f_qbl) (aCons (mVar 5) aNil)) (aCons (mFn F_qai (aCons (mVar 5) aNil)) aNil))))) 2e1 mSkip))))) (mSeq (mFor (mItems (mVal (mLst (aCons (mC .non) (aCons (mC (.bl true)) (aCons 5e6 (aCons (mC (.str "deal")) (aCons (mTup aNil) (aCons (mVal (mLst aNil)) (aCons mDict0 (aCons 2e9 (aCons (mVal (mList (aCons (mOp 2e7 (mOp 2e7 2e9 1e5) (mOp 2e7 4e9 2e6)) aNil))) aNil)))))))))))) (hName 5) (mIfS (mNotT (mTru (mFn F_qaw (aCons (mFn (F_qbk d_EVENTS f_qbn f_qbs f_qbl) (aCons (mVar 5) aNil)) (aCons (mC (.bl false)) aNil))))) 2e1 mSkip)) (mRet (mFn F_qaw (aCons (mFn (F_qbk d_EVENTS f_qbn f_qbs f_qbl) (aCons (mOp 2e7 (mOp 2e7 2e9 1e5) (mOp 2e7 4e9 2e6)) aNil)) (aCons (mC (.bl true)) aNil)))))))))
def F_law (d_EVENTS f_qbn f_qbs f_qbl:Addr):List SV->M SV:=mDef 1 5 (B_law d_EVENTS f_qbn f_qbs f_qbl)
noncomputable def top (i:Nat):Stmt:=PySem.Challenge.pw_holdword_k02_deals_or_none.main.body.getD i (.Pass ⟨0,0,0,0⟩)
structure Txt (mg:Str->Option Value):Prop where
 c_JUDGE:∃t,mg "JUDGE"=some (.str "bell" t)
 c_LONGEST_WORD:∃t,mg "LONGEST_WORD"=some (.int 12 t)
 c_MOST_CLAUSES:∃t,mg "MOST_CLAUSES"=some (.int 12 t)
 c_MOST_CONDS:∃t,mg "MOST_CONDS"=some (.int 8 t)
 c_MOST_HOUSES:∃t,mg "MOST_HOUSES"=some (.int 8 t)
 c_MOST_OTHERS:∃t,mg "MOST_OTHERS"=some (.int 4 t)
 c_MOST_PARTS:∃t,mg "MOST_PARTS"=some (.int 9 t)
 c_SMALL_LETTERS:∃t,mg "SMALL_LETTERS"=some (.str "abcdefghijklmnopqrstuvwxyz" t)
 b_all:mg "all"=none
 b_bool:mg "bool"=none
 b_enumerate:mg "enumerate"=none
 b_int:mg "int"=none
 b_isinstance:mg "isinstance"=none
 b_len:mg "len"=none
 b_list:mg "list"=none
 b_max:mg "max"=none
 b_min:mg "min"=none
 b_range:mg "range"=none
 b_set:mg "set"=none
 b_sorted:mg "sorted"=none
 b_str:mg "str"=none
 b_tuple:mg "tuple"=none
section
variable {P:Yq}{w:World}{K:W.Frag}{mg:2e2}{base:Heap}
abbrev s_qbp:Stmt:=top 9
theorem sc_qbp:FnScope ["thing","least"] ["thing","least"] (defScope s_qbp):=1e1
theorem ok_qbp {f_me:Addr}{fd_me:Yw}(Fn:Fun K "is_number" "is_number" s_qbp f_me fd_me)(T:Txt mg):FnOk P w K mg base CX0 1 f_me fd_me ["thing","least"] (liftSp K (F_qbp)):=
 ZaD Fn sc_qbp fun cdv A outer s H E hr=>(@Zag _ _ _ (@Zak _ _ _ _ (ZaG (ZaI 1e0 T.b_isinstance 1e0 (@Zaa _ _ _ _ _ (Zab 0) (@Zaa _ _ _ _ _ (ZaQ 1e0 T.b_int 1e0) Zad 1e0) 1e0)) (ZaG (q_em_not (ZaI 1e0 T.b_isinstance 1e0 (@Zaa _ _ _ _ _ (Zab 0) (@Zaa _ _ _ _ _ (ZaQ 1e0 T.b_bool 1e0) Zad 1e0) 1e0))) (ZaL (ZaP op_ge ge_ok.r (Zab 0) (Zab 1) 5e7))))))
end
section
variable {P:Yq}{w:World}{K:W.Frag}{mg:2e2}{base:Heap}
abbrev s_qbq:Stmt:=top 10
theorem sc_qbq:FnScope ["thing","bound"] ["thing","bound"] (defScope s_qbq):=1e1
theorem ok_qbq {f_me:Addr}{fd_me:Yw}{f_qbp:Addr}{fd_qbp:Yw}(Fn:Fun K "is_number_below" "is_number_below" s_qbq f_me fd_me)(T:Txt mg)(G_qbp:FnOk P w K mg base CX0 1 f_qbp fd_qbp ["thing","least"] (liftSp K F_qbp))(m_qbp:mg "is_number"=some (.ref f_qbp))(k_qbp:YC K (.ref f_qbp)=true)(b_qbp:L2.Binds K fd_qbp ["thing","least"] []):FnOk P w K mg base CX0 2 f_me fd_me ["thing","bound"] (liftSp K (F_qbq)):=
 ZaD Fn sc_qbq fun cdv A outer s H E hr=>(@Zag _ _ _ (@Zak _ _ _ _ (ZaG (Zaf G_qbp 1e2 1e0 m_qbp k_qbp b_qbp 6e4) (ZaL (ZaP op_lt lt_ok.r (Zab 0) (Zab 1) 5e7)))))
end
section
variable {P:Yq}{w:World}{K:W.Frag}{mg:2e2}{base:Heap}
abbrev s_qbr:Stmt:=top 11
theorem sc_qbr:FnScope ["thing","least","most"] ["thing","least","most"] (defScope s_qbr):=1e1
theorem ok_qbr {f_me:Addr}{fd_me:Yw}(Fn:Fun K "is_row_of" "is_row_of" s_qbr f_me fd_me)(T:Txt mg):FnOk P w K mg base CX0 1 f_me fd_me ["thing","least","most"] (liftSp K (F_qbr)):=
 ZaD Fn sc_qbr fun cdv A outer s H E hr=>(@Zag _ _ _ (@Zak _ _ _ _ (ZaG (ZaI 1e0 T.b_isinstance 1e0 (@Zaa _ _ _ _ _ (Zab 0) (@Zaa _ _ _ _ _ (ZaQ 1e0 T.b_tuple 1e0) Zad 1e0) 1e0)) (ZaL (q_em_chain op_le op_le le_ok.r le_ok.r (Zab 1) (Zat 1e0 T.b_len 4e3) (Zab 2))))))
end
section
variable {P:Yq}{w:World}{K:W.Frag}{mg:2e2}{base:Heap}
abbrev s_qbt:Stmt:=top 12
theorem sc_qbt:FnScope ["thing"] ["thing"] (defScope s_qbt):=1e1
theorem ok_qbt {f_me:Addr}{fd_me:Yw}(Fn:Fun K "is_word" "is_word" s_qbt f_me fd_me)(T:Txt mg):FnOk P w K mg base CX0 1 f_me fd_me ["thing"] (liftSp K (F_qbt)):=
 ZaD Fn sc_qbt fun cdv A outer s H E hr=>(@Zae _ _ _ _ _ (@Zas _ _ _ _ _ _ _ _ (ZaY (ZaA (Zao (Zan (ZaI 1e0 T.b_isinstance 1e0 (@Zaa _ _ _ _ _ (Zab 0) (@Zaa _ _ _ _ _ (ZaQ 1e0 T.b_str 1e0) Zad 1e0) 1e0)))) (ZaK (Zao (Zcd op_le op_le le_ok.r le_ok.r Zac (Zat 1e0 T.b_len 4e3) (Za3 1e0 T.c_LONGEST_WORD)))))) 3e3 Zam) (@Zag _ _ _ (@Zak _ _ _ _ (Zbd rfl 1e0 T.b_all 1e0 (@Zaa _ _ _ _ _ (Zaw (ZaM (vs:=["sign"]) (fs:=[]) (fr:=[]) 4e7 rfl (Za1 (Zab 0)) (fun _ _ _ _ _=>(Zaj (i:=0) (show ((["sign"]:List Str)++([]:List Str)).Nodup by decide +kernel) rfl 2e5)) (fun _ _ _ _ _=>ZaS) (fun _ _ _ _ _=>(ZaP op_inAll in_ok.r (Zab 0) (Zde 1e0 T.c_SMALL_LETTERS) rfl)))) Zad 1e0)))))
end
section
variable {P:Yq}{w:World}{K:W.Frag}{mg:2e2}{base:Heap}
abbrev s_qbg:Stmt:=top 13
theorem sc_qbg:FnScope ["thing","least","most"] ["thing","least","most"] (defScope s_qbg):=1e1
theorem ok_qbg {f_me:Addr}{fd_me:Yw}{f_qbr f_qbt:Addr}{fd_qbr fd_qbt:Yw}(Fn:Fun K "are_words" "are_words" s_qbg f_me fd_me)(T:Txt mg)(G_qbr:FnOk P w K mg base CX0 1 f_qbr fd_qbr ["thing","least","most"] (liftSp K F_qbr))(m_qbr:mg "is_row_of"=some (.ref f_qbr))(k_qbr:YC K (.ref f_qbr)=true)(b_qbr:L2.Binds K fd_qbr ["thing","least","most"] [])(G_qbt:FnOk P w K mg base CX0 1 f_qbt fd_qbt ["thing"] (liftSp K F_qbt))(m_qbt:mg "is_word"=some (.ref f_qbt))(k_qbt:YC K (.ref f_qbt)=true)(b_qbt:L2.Binds K fd_qbt ["thing"] []):FnOk P w K mg base CX0 2 f_me fd_me ["thing","least","most"] (liftSp K (F_qbg)):=
 ZaD Fn sc_qbg fun cdv A outer s H E hr=>(@Zae _ _ _ _ _ (@Zas _ _ _ _ _ _ _ _ (ZaY (ZaA (Zao (Zan (Zaf G_qbr 1e2 1e0 m_qbr k_qbr b_qbr (@Zaa _ _ _ _ _ (Zab 0) (@Zaa _ _ _ _ _ (Zab 1) (@Zaa _ _ _ _ _ (Zab 2) Zad 1e0) 1e0) 1e0)))) (ZaK (Zao (Zan (Zbd rfl 1e0 T.b_all 1e0 (@Zaa _ _ _ _ _ (Zaw (ZaM (vs:=["word"]) (fs:=[]) (fr:=[]) 4e7 rfl (Za1 (Zab 0)) (fun _ _ _ _ _=>(Zaj (i:=0) (show ((["word"]:List Str)++([]:List Str)).Nodup by decide +kernel) rfl 2e5)) (fun _ _ _ _ _=>ZaS) (fun _ _ _ _ _=>(Zaf G_qbt 1e2 1e0 m_qbt k_qbt b_qbt 4e3)))) Zad 1e0))))))) 3e3 Zam) (@Zag _ _ _ (@Zak _ _ _ _ (ZaP Zb1 Zb6.r (Zbv rfl (hu64 hr) 1e0 T.b_len 1e0 T.b_set 4e3) (Zat 1e0 T.b_len 4e3) 5e7))))
end
section
variable {P:Yq}{w:World}{K:W.Frag}{mg:2e2}{base:Heap}
abbrev s_qbh:Stmt:=top 14
theorem sc_qbh:FnScope ["clause","conds","leave"] ["clause"] (defScope s_qbh):=1e1
theorem ok_qbh {f_me:Addr}{fd_me:Yw}(Fn:Fun K "events_of" "events_of" s_qbh f_me fd_me)(T:Txt mg):FnOk P w K mg base CX0 1 f_me fd_me ["clause"] (liftSp K (F_qbh)):=
 ZaD Fn sc_qbh fun cdv A outer s H E hr=>(@Zae _ _ _ _ _ (Zbl (ZaZ (Zab 0) (Za7 Zac) Za8) (Za9 rfl (Zal (Zaj (i:=1) sc_qbh.nd rfl 2e5) (Zal (Zaj (i:=2) sc_qbh.nd rfl 2e5) ZaX)))) (@Zag _ _ _ (@Zak _ _ _ _ (ZaC (Zaw (Zbg 1e0 T.b_list 1e0 (@Zaa _ _ _ _ _ (Zab 1) Zad 1e0))) (Zaw (Zbg 1e0 T.b_list 1e0 (@Zaa _ _ _ _ _ (ZaZ (Zab 2) Za8 (Za7 Zac)) Zad 1e0)))))))
end
section
variable {P:Yq}{w:World}{K:W.Frag}{mg:2e2}{base:Heap}
abbrev s_qbn:Stmt:=top 15
theorem sc_qbn:FnScope ["event","own","deal"] ["event","own","deal"] (defScope s_qbn):=1e1
theorem ok_qbn {f_me:Addr}{fd_me:Yw}{f_qbq:Addr}{fd_qbq:Yw}(Fn:Fun K "is_joined" "is_joined" s_qbn f_me fd_me)(T:Txt mg)(G_qbq:FnOk P w K mg base CX0 2 f_qbq fd_qbq ["thing","bound"] (liftSp K F_qbq))(m_qbq:mg "is_number_below"=some (.ref f_qbq))(k_qbq:YC K (.ref f_qbq)=true)(b_qbq:L2.Binds K fd_qbq ["thing","bound"] []):FnOk P w K mg base CX0 3 f_me fd_me ["event","own","deal"] (liftSp K (F_qbn)):=
 ZaD Fn sc_qbn fun cdv A outer s H E hr=>(@Zag _ _ _ (@Zak _ _ _ _ (ZaG (ZaP Zb1 Zb6.r (Zat 1e0 T.b_len 4e3) Zac 5e7) (ZaL (Zaf G_qbq 1e2 1e0 m_qbq k_qbq b_qbq (@Zaa _ _ _ _ _ 3e6 (@Zaa _ _ _ _ _ (Zat 1e0 T.b_len (@Zaa _ _ _ _ _ (Zah 6e5 (Zab 2) Zac) Zad 1e0)) Zad 1e0) 1e0))))))
end
section
variable {P:Yq}{w:World}{K:W.Frag}{mg:2e2}{base:Heap}
abbrev s_qbs:Stmt:=top 16
theorem sc_qbs:FnScope ["event","own","deal"] ["event","own","deal"] (defScope s_qbs):=1e1
theorem ok_qbs {f_me:Addr}{fd_me:Yw}{f_qbq f_qbt:Addr}{fd_qbq fd_qbt:Yw}(Fn:Fun K "is_said" "is_said" s_qbs f_me fd_me)(T:Txt mg)(G_qbq:FnOk P w K mg base CX0 2 f_qbq fd_qbq ["thing","bound"] (liftSp K F_qbq))(m_qbq:mg "is_number_below"=some (.ref f_qbq))(k_qbq:YC K (.ref f_qbq)=true)(b_qbq:L2.Binds K fd_qbq ["thing","bound"] [])(G_qbt:FnOk P w K mg base CX0 1 f_qbt fd_qbt ["thing"] (liftSp K F_qbt))(m_qbt:mg "is_word"=some (.ref f_qbt))(k_qbt:YC K (.ref f_qbt)=true)(b_qbt:L2.Binds K fd_qbt ["thing"] []):FnOk P w K mg base CX0 3 f_me fd_me ["event","own","deal"] (liftSp K (F_qbs)):=
 ZaD Fn sc_qbs fun cdv A outer s H E hr=>(@Zag _ _ _ (@Zak _ _ _ _ (ZaG (ZaP Zb1 Zb6.r (Zat 1e0 T.b_len 4e3) Zac 5e7) (ZaG (Zaf G_qbq 1e2 1e0 m_qbq k_qbq b_qbq (@Zaa _ _ _ _ _ 3e6 (@Zaa _ _ _ _ _ (Zat 1e0 T.b_len (@Zaa _ _ _ _ _ (Zah 6e5 (Zab 2) Zac) Zad 1e0)) Zad 1e0) 1e0)) (ZaL (Zaf G_qbt 1e2 1e0 m_qbt k_qbt b_qbt (@Zaa _ _ _ _ _ 3e6 Zad 1e0)))))))
end
section
variable {P:Yq}{w:World}{K:W.Frag}{mg:2e2}{base:Heap}
abbrev s_qbl:Stmt:=top 17
theorem sc_qbl:FnScope ["event","own","deal","k","c","p"] ["event","own","deal"] (defScope s_qbl):=1e1
theorem ok_qbl {f_me:Addr}{fd_me:Yw}{f_qbq:Addr}{fd_qbq:Yw}(Fn:Fun K "is_did" "is_did" s_qbl f_me fd_me)(T:Txt mg)(G_qbq:FnOk P w K mg base CX0 2 f_qbq fd_qbq ["thing","bound"] (liftSp K F_qbq))(m_qbq:mg "is_number_below"=some (.ref f_qbq))(k_qbq:YC K (.ref f_qbq)=true)(b_qbq:L2.Binds K fd_qbq ["thing","bound"] []):FnOk P w K mg base CX0 3 f_me fd_me ["event","own","deal"] (liftSp K (F_qbl)):=
 ZaD Fn sc_qbl fun cdv A outer s H E hr=>(@Zae _ _ _ _ _ (@Zas _ _ _ _ _ _ _ _ (ZaY (ZaA (Zar op_ne ne_ok.r (Zat 1e0 T.b_len 4e3) Zac 5e7) (ZaK (Zao (Zan (Zaf G_qbq 1e2 1e0 m_qbq k_qbq b_qbq (@Zaa _ _ _ _ _ 3e6 (@Zaa _ _ _ _ _ (ZaC (Zat 1e0 T.b_len (@Zaa _ _ _ _ _ (Zah 6e5 (Zab 2) Zac) Zad 1e0)) Zac) Zad 1e0) 1e0))))))) 3e3 Zam) (@Zae _ _ _ _ _ (Zbl (ZaZ (Zab 0) (Za7 Zac) Za8) (Za9 rfl (Zal (Zaj (i:=3) sc_qbl.nd rfl 2e5) (Zal (Zaj (i:=4) sc_qbl.nd rfl 2e5) (Zal (Zaj (i:=5) sc_qbl.nd rfl 2e5) ZaX))))) (@Zae _ _ _ _ _ (@Zas _ _ _ _ _ _ _ _ (Zar op_gt gt_ok.r (Zab 3) Zac 5e7) (@Zag _ _ _ (@Zak _ _ _ _ (ZaG (Zaf G_qbq 1e2 1e0 m_qbq k_qbq b_qbq (@Zaa _ _ _ _ _ (Zab 4) (@Zaa _ _ _ _ _ (Za3 1e0 T.c_MOST_CLAUSES) Zad 1e0) 1e0)) (ZaL (Zaf G_qbq 1e2 1e0 m_qbq k_qbq b_qbq (@Zaa _ _ _ _ _ (Zab 5) (@Zaa _ _ _ _ _ (Za3 1e0 T.c_MOST_PARTS) Zad 1e0) 1e0)))))) Zam) (@Zag _ _ _ (@Zak _ _ _ _ (ZaG (Zaf G_qbq 1e2 1e0 m_qbq k_qbq b_qbq (@Zaa _ _ _ _ _ (Zab 4) (@Zaa _ _ _ _ _ (Zat 1e0 T.b_len (@Zaa _ _ _ _ _ (Zah 6e5 (Zab 2) Zac) Zad 1e0)) Zad 1e0) 1e0)) (ZaG (ZaP op_ne ne_ok.r (Zab 4) (Zab 1) 5e7) (ZaL (Zaf G_qbq 1e2 1e0 m_qbq k_qbq b_qbq (@Zaa _ _ _ _ _ (Zab 5) (@Zaa _ _ _ _ _ (Zah 6e5 (Zah 6e5 (Zah 6e5 (Zab 2) Zac) (Zab 4)) Zac) Zad 1e0) 1e0))))))))))
end
section
variable {P:Yq}{w:World}{K:W.Frag}{mg:2e2}{base:Heap}
abbrev s_qbm:Stmt:=top 19
theorem sc_qbm:FnScope ["thing","own","deal","fits"] ["thing","own","deal"] (defScope s_qbm):=1e1
theorem ok_qbm {f_me:Addr}{fd_me:Yw}{f_qbn f_qbs f_qbl d_EVENTS:Addr}{fd_qbn fd_qbs fd_qbl:Yw}(Fn:Fun K "is_event" "is_event" s_qbm f_me fd_me)(T:Txt mg)(Tm_EVENTS:mg "EVENTS"=some (.ref d_EVENTS))(TD_EVENTS:TopD K w d_EVENTS (Zbb f_qbn f_qbs f_qbl))(G_qbn:FnOk P w K mg base CX0 3 f_qbn fd_qbn ["event","own","deal"] (liftSp K F_qbn))(m_qbn:mg "is_joined"=some (.ref f_qbn))(k_qbn:YC K (.ref f_qbn)=true)(b_qbn:L2.Binds K fd_qbn ["event","own","deal"] [])(G_qbs:FnOk P w K mg base CX0 3 f_qbs fd_qbs ["event","own","deal"] (liftSp K F_qbs))(m_qbs:mg "is_said"=some (.ref f_qbs))(k_qbs:YC K (.ref f_qbs)=true)(b_qbs:L2.Binds K fd_qbs ["event","own","deal"] [])(G_qbl:FnOk P w K mg base CX0 3 f_qbl fd_qbl ["event","own","deal"] (liftSp K F_qbl))(m_qbl:mg "is_did"=some (.ref f_qbl))(k_qbl:YC K (.ref f_qbl)=true)(b_qbl:L2.Binds K fd_qbl ["event","own","deal"] []):FnOk P w K mg base CX0 4 f_me fd_me ["thing","own","deal"] (liftSp K (F_qbm d_EVENTS f_qbn f_qbs f_qbl)):=
 ZaD Fn sc_qbm fun cdv A outer s H E hr=>(@Zae _ _ _ _ _ (@Zas _ _ _ _ _ _ _ _ (ZaY (ZaA (Zao (Zan (ZaI 1e0 T.b_isinstance 1e0 (@Zaa _ _ _ _ _ (Zab 0) (@Zaa _ _ _ _ _ (ZaQ 1e0 T.b_tuple 1e0) Zad 1e0) 1e0)))) (ZaA (Zao (Zan (Zab 0))) (ZaA (Zao (Zan (ZaI 1e0 T.b_isinstance 1e0 (@Zaa _ _ _ _ _ 3e6 (@Zaa _ _ _ _ _ (ZaQ 1e0 T.b_str 1e0) Zad 1e0) 1e0)))) (ZaK (Zar (op_topnotin TD_EVENTS) topI_okN 3e6 (q_em_top 1e0 Tm_EVENTS) rfl)))))) 3e3 Zam) (@Zae _ _ _ _ _ (Zap (i:=3) sc_qbm.nd rfl 2e5 (q_em_topix TD_EVENTS (q_em_top 1e0 Tm_EVENTS) 3e6)) (@Zag _ _ _ (@Zak _ _ _ _ (q_em_callV (k:=3) 3 (hv_of (fun q hq=>by
  simp only[Za5,Yn,Y3,or_false] at hq
  rcases hq with rfl | rfl | rfl
  ·exact ⟨_,_,G_qbn.mono 2e4,k_qbn,b_qbn⟩
  ·exact ⟨_,_,G_qbs.mono 2e4,k_qbs,b_qbs⟩
  ·exact ⟨_,_,G_qbl.mono (by decide),k_qbl,b_qbl⟩)) (hr.mono (by decide)) (@Zaa _ _ _ _ _ (Zab 0) (@Zaa _ _ _ _ _ (Zab 1) (@Zaa _ _ _ _ _ (Zab 2) Zad (by rfl)) (by rfl)) (by rfl)))))))
end
section
variable {P:Yq}{w:World}{K:W.Frag}{mg:2e2}{base:Heap}
abbrev s_qbo:Stmt:=top 20
theorem sc_qbo:FnScope ["thing"] ["thing"] (defScope s_qbo):=1e1
theorem ok_qbo {f_me:Addr}{fd_me:Yw}{f_qbr f_qbp:Addr}{fd_qbr fd_qbp:Yw}(Fn:Fun K "is_leave" "is_leave" s_qbo f_me fd_me)(T:Txt mg)(G_qbr:FnOk P w K mg base CX0 1 f_qbr fd_qbr ["thing","least","most"] (liftSp K F_qbr))(m_qbr:mg "is_row_of"=some (.ref f_qbr))(k_qbr:YC K (.ref f_qbr)=true)(b_qbr:L2.Binds K fd_qbr ["thing","least","most"] [])(G_qbp:FnOk P w K mg base CX0 1 f_qbp fd_qbp ["thing","least"] (liftSp K F_qbp))(m_qbp:mg "is_number"=some (.ref f_qbp))(k_qbp:YC K (.ref f_qbp)=true)(b_qbp:L2.Binds K fd_qbp ["thing","least"] []):FnOk P w K mg base CX0 2 f_me fd_me ["thing"] (liftSp K (F_qbo)):=
 ZaD Fn sc_qbo fun cdv A outer s H E hr=>(@Zag _ _ _ (@Zak _ _ _ _ (q_em_or (Zaf G_qbr 1e2 1e0 m_qbr k_qbr b_qbr (@Zaa _ _ _ _ _ (Zab 0) (@Zaa _ _ _ _ _ Zac 1e6 1e0) 1e0)) (ZaL (ZaG (Zaf G_qbr 1e2 1e0 m_qbr k_qbr b_qbr (@Zaa _ _ _ _ _ (Zab 0) (@Zaa _ _ _ _ _ Zac 1e6 1e0) 1e0)) (ZaL (Zaf G_qbp 1e2 1e0 m_qbp k_qbp b_qbp (@Zaa _ _ _ _ _ 3e6 1e6 1e0))))))))
end
section
variable {P:Yq}{w:World}{K:W.Frag}{mg:2e2}{base:Heap}
abbrev s_qbj:Stmt:=top 21
theorem ZcJ:FnScope ["thing","houses","debtor","creditor","parts","within","conds","leave"] ["thing","houses"] (defScope s_qbj):=1e1
theorem ok_qbj {f_me:Addr}{fd_me:Yw}{f_qbr f_qbq f_qbp f_qbo:Addr}{fd_qbr fd_qbq fd_qbp fd_qbo:Yw}(Fn:Fun K "is_clause" "is_clause" s_qbj f_me fd_me)(T:Txt mg)(G_qbr:FnOk P w K mg base CX0 1 f_qbr fd_qbr ["thing","least","most"] (liftSp K F_qbr))(m_qbr:mg "is_row_of"=some (.ref f_qbr))(k_qbr:YC K (.ref f_qbr)=true)(b_qbr:L2.Binds K fd_qbr ["thing","least","most"] [])(G_qbq:FnOk P w K mg base CX0 2 f_qbq fd_qbq ["thing","bound"] (liftSp K F_qbq))(m_qbq:mg "is_number_below"=some (.ref f_qbq))(k_qbq:YC K (.ref f_qbq)=true)(b_qbq:L2.Binds K fd_qbq ["thing","bound"] [])(G_qbp:FnOk P w K mg base CX0 1 f_qbp fd_qbp ["thing","least"] (liftSp K F_qbp))(m_qbp:mg "is_number"=some (.ref f_qbp))(k_qbp:YC K (.ref f_qbp)=true)(b_qbp:L2.Binds K fd_qbp ["thing","least"] [])(G_qbo:FnOk P w K mg base CX0 2 f_qbo fd_qbo ["thing"] (liftSp K F_qbo))(m_qbo:mg "is_leave"=some (.ref f_qbo))(k_qbo:YC K (.ref f_qbo)=true)(b_qbo:L2.Binds K fd_qbo ["thing"] []):FnOk P w K mg base CX0 3 f_me fd_me ["thing","houses"] (liftSp K (F_qbj)):=
 ZaD Fn ZcJ fun cdv A outer s H E hr=>(@Zae _ _ _ _ _ (@Zas _ _ _ _ _ _ _ _ (Zao (Zan (Zaf G_qbr 1e2 1e0 m_qbr k_qbr b_qbr (@Zaa _ _ _ _ _ (Zab 0) (@Zaa _ _ _ _ _ Zac 1e6 1e0) 1e0)))) 3e3 Zam) (@Zae _ _ _ _ _ (Zbl (Zab 0) (Za9 rfl (Zal (Zaj (i:=2) ZcJ.nd rfl 2e5) (Zal (Zaj (i:=3) ZcJ.nd rfl 2e5) (Zal (Zaj (i:=4) ZcJ.nd rfl 2e5) (Zal (Zaj (i:=5) ZcJ.nd rfl 2e5) (Zal (Zaj (i:=6) ZcJ.nd rfl 2e5) (Zal (Zaj (i:=7) ZcJ.nd rfl 2e5) ZaX)))))))) (@Zae _ _ _ _ _ (@Zas _ _ _ _ _ _ _ _ (ZaY (ZaA (Zao (Zan (Zaf G_qbq 1e2 1e0 m_qbq k_qbq b_qbq (@Zaa _ _ _ _ _ (Zab 2) (@Zaa _ _ _ _ _ (Zab 1) Zad 1e0) 1e0)))) (ZaA (Zao (Zan (Zaf G_qbq 1e2 1e0 m_qbq k_qbq b_qbq (@Zaa _ _ _ _ _ (Zab 3) (@Zaa _ _ _ _ _ (Zab 1) Zad 1e0) 1e0)))) (ZaK (Zar Zb1 Zb6.r (Zab 2) (Zab 3) 5e7))))) 3e3 Zam) (@Zae _ _ _ _ _ (@Zas _ _ _ _ _ _ _ _ (ZaY (ZaA (Zao (Zan (Zaf G_qbp 1e2 1e0 m_qbp k_qbp b_qbp (@Zaa _ _ _ _ _ (Zab 4) 1e6 1e0)))) (ZaA (Zar op_gt gt_ok.r (Zab 4) (Za3 1e0 T.c_MOST_PARTS) 5e7) (ZaK (Zao (Zan (Zaf G_qbp 1e2 1e0 m_qbp k_qbp b_qbp (@Zaa _ _ _ _ _ (Zab 5) 1e6 1e0)))))))) 3e3 Zam) (@Zag _ _ _ (@Zak _ _ _ _ (ZaG (Zaf G_qbr 1e2 1e0 m_qbr k_qbr b_qbr (@Zaa _ _ _ _ _ (Zab 6) (@Zaa _ _ _ _ _ Zac (@Zaa _ _ _ _ _ (Za3 1e0 T.c_MOST_CONDS) Zad 1e0) 1e0) 1e0)) (ZaL (Zaf G_qbo 1e2 1e0 m_qbo k_qbo b_qbo (@Zaa _ _ _ _ _ (Zab 7) Zad 1e0))))))))))
end
section
variable {P:Yq}{w:World}{K:W.Frag}{mg:2e2}{base:Heap}
abbrev s_qbi:Stmt:=top 22
theorem sc_qbi:FnScope ["own","deal","events"] ["own","deal"] (defScope s_qbi):=1e1
theorem ok_qbi {f_me:Addr}{fd_me:Yw}{f_qbh f_qbm d_EVENTS f_qbn f_qbs f_qbl:Addr}{fd_qbh fd_qbm:Yw}(Fn:Fun K "has_good_events" "has_good_events" s_qbi f_me fd_me)(T:Txt mg)(G_qbh:FnOk P w K mg base CX0 1 f_qbh fd_qbh ["clause"] (liftSp K F_qbh))(m_qbh:mg "events_of"=some (.ref f_qbh))(k_qbh:YC K (.ref f_qbh)=true)(b_qbh:L2.Binds K fd_qbh ["clause"] [])(G_qbm:FnOk P w K mg base CX0 4 f_qbm fd_qbm ["thing","own","deal"] (liftSp K (F_qbm d_EVENTS f_qbn f_qbs f_qbl)))(m_qbm:mg "is_event"=some (.ref f_qbm))(k_qbm:YC K (.ref f_qbm)=true)(b_qbm:L2.Binds K fd_qbm ["thing","own","deal"] []):FnOk P w K mg base CX0 5 f_me fd_me ["own","deal"] (liftSp K (F_qbi d_EVENTS f_qbn f_qbs f_qbl)):=
 ZaD Fn sc_qbi fun cdv A outer s H E hr=>(@Zae _ _ _ _ _ (Zap (i:=2) sc_qbi.nd rfl 2e5 (Zaf G_qbh 1e2 1e0 m_qbh k_qbh b_qbh (@Zaa _ _ _ _ _ (Zah 6e5 (Zah 6e5 (Zab 1) Zac) (Zab 0)) Zad 1e0))) (@Zae _ _ _ _ _ (@Zas _ _ _ _ _ _ _ _ (Zao (Zan (Zbd rfl 1e0 T.b_all 1e0 (@Zaa _ _ _ _ _ (Zaw (ZaM (vs:=["event"]) (fs:=["own","deal"]) (fr:=[0,1]) 4e7 rfl (Za1 (Zab 2)) (fun _ _ _ _ _=>(Zaj (i:=0) (show ((["event"]:List Str)++(["own","deal"]:List Str)).Nodup by decide +kernel) rfl 2e5)) (fun _ _ _ _ _=>ZaS) (fun _ _ _ _ _=>(Zaf G_qbm 1e2 1e0 m_qbm k_qbm b_qbm (@Zaa _ _ _ _ _ (Zab 0) (@Zaa _ _ _ _ _ (Zab 1) (@Zaa _ _ _ _ _ (Zab 2) Zad 1e0) 1e0) 1e0))))) Zad 1e0)))) 3e3 Zam) (@Zag _ _ _ (@Zak _ _ _ _ (ZaP Zb1 Zb6.r (Zbv rfl (hu64 hr) 1e0 T.b_len 1e0 T.b_set (@Zaa _ _ _ _ _ (Zab 2) Zad 1e0)) (Zat 1e0 T.b_len (@Zaa _ _ _ _ _ (Zab 2) Zad 1e0)) 5e7)))))
end
section
variable {P:Yq}{w:World}{K:W.Frag}{mg:2e2}{base:Heap}
abbrev s_qbk:Stmt:=top 23
theorem sc_qbk:FnScope ["thing","houses","others","close","clauses"] ["thing"] (defScope s_qbk):=1e1
theorem ok_qbk {f_me:Addr}{fd_me:Yw}{f_qbr f_qbg f_qbp f_qbj f_qbi d_EVENTS f_qbn f_qbs f_qbl:Addr}{fd_qbr fd_qbg fd_qbp fd_qbj fd_qbi:Yw}(Fn:Fun K "is_deal" "is_deal" s_qbk f_me fd_me)(T:Txt mg)(G_qbr:FnOk P w K mg base CX0 1 f_qbr fd_qbr ["thing","least","most"] (liftSp K F_qbr))(m_qbr:mg "is_row_of"=some (.ref f_qbr))(k_qbr:YC K (.ref f_qbr)=true)(b_qbr:L2.Binds K fd_qbr ["thing","least","most"] [])(G_qbg:FnOk P w K mg base CX0 2 f_qbg fd_qbg ["thing","least","most"] (liftSp K F_qbg))(m_qbg:mg "are_words"=some (.ref f_qbg))(k_qbg:YC K (.ref f_qbg)=true)(b_qbg:L2.Binds K fd_qbg ["thing","least","most"] [])(G_qbp:FnOk P w K mg base CX0 1 f_qbp fd_qbp ["thing","least"] (liftSp K F_qbp))(m_qbp:mg "is_number"=some (.ref f_qbp))(k_qbp:YC K (.ref f_qbp)=true)(b_qbp:L2.Binds K fd_qbp ["thing","least"] [])(G_qbj:FnOk P w K mg base CX0 3 f_qbj fd_qbj ["thing","houses"] (liftSp K F_qbj))(m_qbj:mg "is_clause"=some (.ref f_qbj))(k_qbj:YC K (.ref f_qbj)=true)(b_qbj:L2.Binds K fd_qbj ["thing","houses"] [])(G_qbi:FnOk P w K mg base CX0 5 f_qbi fd_qbi ["own","deal"] (liftSp K (F_qbi d_EVENTS f_qbn f_qbs f_qbl)))(m_qbi:mg "has_good_events"=some (.ref f_qbi))(k_qbi:YC K (.ref f_qbi)=true)(b_qbi:L2.Binds K fd_qbi ["own","deal"] []):FnOk P w K mg base CX0 6 f_me fd_me ["thing"] (liftSp K (F_qbk d_EVENTS f_qbn f_qbs f_qbl)):=
 ZaD Fn sc_qbk fun cdv A outer s H E hr=>(@Zae _ _ _ _ _ (@Zas _ _ _ _ _ _ _ _ (Zao (Zan (Zaf G_qbr 1e2 1e0 m_qbr k_qbr b_qbr (@Zaa _ _ _ _ _ (Zab 0) (@Zaa _ _ _ _ _ Zac 1e6 1e0) 1e0)))) 3e3 Zam) (@Zae _ _ _ _ _ (Zbl (Zab 0) (Za9 rfl (Zal (Zaj (i:=1) sc_qbk.nd rfl (Or.inr rfl)) (Zal (Zaj (i:=2) sc_qbk.nd rfl 2e5) (Zal (Zaj (i:=3) sc_qbk.nd rfl 2e5) (Zal (Zaj (i:=4) sc_qbk.nd rfl 2e5) ZaX)))))) (@Zae _ _ _ _ _ (@Zas _ _ _ _ _ _ _ _ (ZaY (ZaA (Zao (Zan (Zaf G_qbg 1e2 1e0 m_qbg k_qbg b_qbg (@Zaa _ _ _ _ _ (Zab 1) (@Zaa _ _ _ _ _ Zac (@Zaa _ _ _ _ _ (Za3 1e0 T.c_MOST_HOUSES) Zad 1e0) 1e0) 1e0)))) (ZaA (Zar op_inAll in_ok.r (Zde 1e0 T.c_JUDGE) (Zab 1) rfl) (ZaK (Zao (Zan (Zaf G_qbg 1e2 1e0 m_qbg k_qbg b_qbg (@Zaa _ _ _ _ _ (Zab 2) (@Zaa _ _ _ _ _ Zac (@Zaa _ _ _ _ _ (Za3 1e0 T.c_MOST_OTHERS) Zad 1e0) 1e0) 1e0)))))))) 3e3 Zam) (@Zae _ _ _ _ _ (@Zas _ _ _ _ _ _ _ _ (ZaY (ZaA (Zao (Zan (Zaf G_qbp 1e2 1e0 m_qbp k_qbp b_qbp (@Zaa _ _ _ _ _ (Zab 3) 1e6 1e0)))) (ZaK (Zao (Zan (Zaf G_qbr 1e2 1e0 m_qbr k_qbr b_qbr (@Zaa _ _ _ _ _ (Zab 4) (@Zaa _ _ _ _ _ Zac (@Zaa _ _ _ _ _ (Za3 1e0 T.c_MOST_CLAUSES) Zad 1e0) 1e0) 1e0))))))) 3e3 Zam) (@Zae _ _ _ _ _ (@Zas _ _ _ _ _ _ _ _ (Zao (Zan (Zbd rfl 1e0 T.b_all 1e0 (@Zaa _ _ _ _ _ (Zaw (ZaM (vs:=["clause"]) (fs:=["houses"]) (fr:=[1]) 4e7 rfl (Za1 (Zab 4)) (fun _ _ _ _ _=>(Zaj (i:=0) (show ((["clause"]:List Str)++(["houses"]:List Str)).Nodup by decide +kernel) rfl 2e5)) (fun _ _ _ _ _=>ZaS) (fun _ _ _ _ _=>(Zaf G_qbj 1e2 1e0 m_qbj k_qbj b_qbj (@Zaa _ _ _ _ _ (Zab 0) (@Zaa _ _ _ _ _ (Zat 1e0 T.b_len (@Zaa _ _ _ _ _ (Zab 1) Zad 1e0)) Zad 1e0) 1e0))))) Zad 1e0)))) 3e3 Zam) (@Zag _ _ _ (@Zak _ _ _ _ (Zbd rfl 1e0 T.b_all 1e0 (@Zaa _ _ _ _ _ (Zaw (ZaM (vs:=["own"]) (fs:=["thing"]) (fr:=[0]) 4e7 rfl (ZaW 1e0 T.b_range (@Zaa _ _ _ _ _ (Zat 1e0 T.b_len (@Zaa _ _ _ _ _ (Zab 4) Zad 1e0)) Zad 1e0)) (fun _ _ _ _ _=>(Zaj (i:=0) (show ((["own"]:List Str)++(["thing"]:List Str)).Nodup by decide +kernel) rfl 2e5)) (fun _ _ _ _ _=>ZaS) (fun _ _ _ _ _=>(Zaf G_qbi 1e2 1e0 m_qbi k_qbi b_qbi (@Zaa _ _ _ _ _ (Zab 0) (@Zaa _ _ _ _ _ (Zab 1) Zad 1e0) 1e0))))) Zad 1e0)))))))))
end
section
variable {P:Yq}{w:World}{K:W.Frag}{mg:2e2}{base:Heap}
abbrev s_qac:Stmt:=top 25
theorem sc_qac:FnScope ["_law_script","_law_k"] ["_law_script","_law_k"] (defScope s_qac):=1e1
theorem ok_qac {f_me:Addr}{fd_me:Yw}(Fn:Fun K "_law_cell_at" "_law_cell_at" s_qac f_me fd_me)(T:Txt mg):FnOk P w K mg base CX0 1 f_me fd_me ["_law_script","_law_k"] (liftSp K (F_qac)):=
 ZaD Fn sc_qac fun cdv A outer s H E hr=>(@Zae _ _ _ _ _ (@Zas _ _ _ _ _ _ _ _ (Zar op_lt lt_ok.r (Zab 1) (Zat 1e0 T.b_len 4e3) 5e7) (@Zag _ _ _ (@Zak _ _ _ _ (Zah 6e5 (Zab 0) (Zab 1)))) Zam) (@Zag _ _ _ (@Zak _ _ _ _ Zac)))
end
section
variable {P:Yq}{w:World}{K:W.Frag}{mg:2e2}{base:Heap}
abbrev s_qao:Stmt:=top 26
theorem Zch:FnScope ["_law_script","_law_k","_law_cell","_law_seed"] ["_law_script","_law_k"] (defScope s_qao):=1e1
theorem ok_qao {f_me:Addr}{fd_me:Yw}{f_qac:Addr}{fd_qac:Yw}(Fn:Fun K "_law_left" "_law_left" s_qao f_me fd_me)(T:Txt mg)(G_qac:FnOk P w K mg base CX0 1 f_qac fd_qac ["_law_script","_law_k"] (liftSp K F_qac))(m_qac:mg "_law_cell_at"=some (.ref f_qac))(k_qac:YC K (.ref f_qac)=true)(b_qac:L2.Binds K fd_qac ["_law_script","_law_k"] []):FnOk P w K mg base CX0 2 f_me fd_me ["_law_script","_law_k"] (liftSp K (F_qao)):=
 ZaD Fn Zch fun cdv A outer s H E hr=>(@Zae _ _ _ _ _ (Zap (i:=2) Zch.nd rfl 2e5 (Zaf G_qac 1e2 1e0 m_qac k_qac b_qac (@Zaa _ _ _ _ _ (Zab 0) (@Zaa _ _ _ _ _ (ZaO (Zab 1) (q_em_max rfl 1e0 T.b_max 1e0 (@Zaa _ _ _ _ _ Zac (@Zaa _ _ _ _ _ (Zat 1e0 T.b_len 4e3) Zad 1e0) 1e0))) Zad 1e0) 1e0))) (@Zae _ _ _ _ _ (Zap (i:=3) Zch.nd rfl 2e5 (ZaO (Zbc (ZaC (ZaC (ZaO (Zab 2) Zac) (Zbc (Zbc Zac (Zab 1)) (Zab 1))) Zac) Zac) Zac)) (@Zae _ _ _ _ _ (@Zas _ _ _ _ _ _ _ _ (Zar Zb1 Zb6.r (ZaO (Zaf G_qac 1e2 1e0 m_qac k_qac b_qac 6e4) Zac) Zac 5e7) (@Zag _ _ _ (Zap (i:=2) Zch.nd rfl 2e5 Zac)) Zam) (@Zag _ _ _ (ZcN (ZaE (@Zaa _ _ _ _ _ (ZaO (Zab 2) (q_em_pow Zac Zac)) (@Zaa _ _ _ _ _ (Zab 3) Zad 1e0) 1e0)))))))
theorem okF_qao {f_me:Addr}{fd_me:Yw}{f_qac:Addr}{fd_qac:Yw}(Fn:Fun K "_law_left" "_law_left" s_qao f_me fd_me)(T:Txt mg)(G_qac:FnOk P w K mg base CX0 1 f_qac fd_qac ["_law_script","_law_k"] (liftSp K F_qac))(m_qac:mg "_law_cell_at"=some (.ref f_qac))(k_qac:YC K (.ref f_qac)=true)(b_qac:L2.Binds K fd_qac ["_law_script","_law_k"] []):FnOk P w K mg base CX0 2 f_me fd_me ["_law_script","_law_k"] (liftSpF K (FF_qao)):=
 q_fn_mkF Fn Zch fun cdv A outer s H E hr=>(@Zae _ _ _ _ _ (Zap (i:=2) Zch.nd rfl 2e5 (Zaf G_qac 1e2 1e0 m_qac k_qac b_qac (@Zaa _ _ _ _ _ (Zab 0) (@Zaa _ _ _ _ _ (ZaO (Zab 1) (q_em_max rfl 1e0 T.b_max 1e0 (@Zaa _ _ _ _ _ Zac (@Zaa _ _ _ _ _ (Zat 1e0 T.b_len 4e3) Zad 1e0) 1e0))) Zad 1e0) 1e0))) (@Zae _ _ _ _ _ (Zap (i:=3) Zch.nd rfl 2e5 (ZaO (Zbc (ZaC (ZaC (ZaO (Zab 2) Zac) (Zbc (Zbc Zac (Zab 1)) (Zab 1))) Zac) Zac) Zac)) (@Zae _ _ _ _ _ (@Zas _ _ _ _ _ _ _ _ (Zar Zb1 Zb6.r (ZaO (Zaf G_qac 1e2 1e0 m_qac k_qac b_qac 6e4) Zac) Zac 5e7) (@Zag _ _ _ (Zap (i:=2) Zch.nd rfl 2e5 Zac)) Zam) (@Zag _ _ _ (ZcN (ZaE (@Zaa _ _ _ _ _ (ZaO (Zab 2) (q_em_pow Zac Zac)) (@Zaa _ _ _ _ _ (Zab 3) Zad 1e0) 1e0)))))))
end
section
variable {P:Yq}{w:World}{K:W.Frag}{mg:2e2}{base:Heap}
abbrev s_qaq:Stmt:=top 27
theorem sc_qaq:FnScope ["_law_left_here","_law_many","_law_digit"] 4e4 (defScope s_qaq):=1e1
theorem ok_qaq {f_me:Addr}{fd_me:Yw}(Fn:Fun K "_law_pick" "_law_pick" s_qaq f_me fd_me)(T:Txt mg):FnOk P w K mg base CX0 1 f_me fd_me 4e4 (liftSp K (F_qaq)):=
 ZaD Fn sc_qaq fun cdv A outer s H E hr=>(@Zae _ _ _ _ _ (@Zas _ _ _ _ _ _ _ _ (Zar op_gt gt_ok.r 3e6 Zac 5e7) (@Zae _ _ _ _ _ (Zap (i:=2) sc_qaq.nd rfl 2e5 (ZaO 3e6 (Zab 1))) (@Zae _ _ _ _ _ (Zdd (q_em_fdiv 3e6 (Zab 1)) (Zab 0) Zac) (@Zag _ _ _ (@Zak _ _ _ _ (Zab 2))))) Zam) (@Zae _ _ _ _ _ (Zdd (ZaO (ZaC (Zbc 3e6 Zac) Zac) Zac) (Zab 0) Zac) (@Zag _ _ _ (@Zak _ _ _ _ (ZaO (ZaO (Zbc 3e6 3e6) Zac) (Zab 1))))))
end
section
variable {P:Yq}{w:World}{K:W.Frag}{mg:2e2}{base:Heap}
abbrev s_qbe:Stmt:=top 28
theorem sc_qbe:FnScope ["_law_left_here","_law_many","_law_letters","_law_first","_law_step"] 4e4 (defScope s_qbe):=1e1
theorem ok_qbe {f_me:Addr}{fd_me:Yw}{f_qaq:Addr}{fd_qaq:Yw}(Fn:Fun K "_law_words" "_law_words" s_qbe f_me fd_me)(T:Txt mg)(G_qaq:FnOk P w K mg base CX0 1 f_qaq fd_qaq 4e4 (liftSp K F_qaq))(m_qaq:mg "_law_pick"=some (.ref f_qaq))(k_qaq:YC K (.ref f_qaq)=true)(b_qaq:L2.Binds K fd_qaq 4e4 []):FnOk P w K mg base CX0 2 f_me fd_me 4e4 (liftSp K (F_qbe)):=
 ZaD Fn sc_qbe fun cdv A outer s H E hr=>(@Zae _ _ _ _ _ (Zap (i:=2) sc_qbe.nd rfl (Or.inr rfl) ZaB) (@Zae _ _ _ _ _ (Zap (i:=3) sc_qbe.nd rfl (Or.inr rfl) (Zaf G_qaq 1e2 1e0 m_qaq k_qaq b_qaq 6e4)) (@Zae _ _ _ _ _ (Zap (i:=4) sc_qbe.nd rfl (Or.inr rfl) (Zah 6e5 (Zaw (ZaE (@Zaa _ _ _ _ _ Zac (@Zaa _ _ _ _ _ Zac (@Zaa _ _ _ _ _ Zac (@Zaa _ _ _ _ _ Zac (@Zaa _ _ _ _ _ Zac 1e6 1e0) 1e0) 1e0) 1e0) 1e0))) (Zaf G_qaq 1e2 1e0 m_qaq k_qaq b_qaq 6e4))) (@Zag _ _ _ (ZcN (ZaM (vs:=["_law_k"]) (fs:=["_law_letters","_law_first","_law_step"]) (fr:=[2,3,4]) 4e7 rfl (ZaW 1e0 T.b_range (@Zaa _ _ _ _ _ (Zab 1) Zad 1e0)) (fun _ _ _ _ _=>(Zaj (i:=0) (show ((["_law_k"]:List Str)++(["_law_letters","_law_first","_law_step"]:List Str)).Nodup by decide +kernel) rfl 2e5)) (fun _ _ _ _ _=>ZaS) (fun _ _ _ _ _=>(ZaC (Zah 6e5 (Zab 1) (ZaO (ZaC (Zab 2) (Zbc (Zab 3) (Zab 0))) Zac)) (Zah 6e5 (Zaw (ZaE (@Zaa _ _ _ _ _ ZaB (@Zaa _ _ _ _ _ ZaB (@Zaa _ _ _ _ _ ZaB (@Zaa _ _ _ _ _ ZaB Zad 1e0) 1e0) 1e0) 1e0))) (ZaO (ZaC (Zab 2) (Zbc (Zab 0) (Zab 0))) Zac))))))))))
end
section
variable {P:Yq}{w:World}{K:W.Frag}{mg:2e2}{base:Heap}
abbrev s_qak:Stmt:=top 29
theorem Zci:FnScope ["_law_left_here","_law_deal","_law_named","_law_own","_law_houses","_law_others","_law_clauses_here","_law_way","_law_k","_law_sizes","_law_c"] ["_law_left_here","_law_deal","_law_named","_law_own"] (defScope s_qak):=1e1
theorem ok_qak {f_me:Addr}{fd_me:Yw}{f_qaq:Addr}{fd_qaq:Yw}(Fn:Fun K "_law_event" "_law_event" s_qak f_me fd_me)(T:Txt mg)(G_qaq:FnOk P w K mg base CX0 1 f_qaq fd_qaq 4e4 (liftSp K F_qaq))(m_qaq:mg "_law_pick"=some (.ref f_qaq))(k_qaq:YC K (.ref f_qaq)=true)(b_qaq:L2.Binds K fd_qaq 4e4 []):FnOk P w K mg base CX0 2 f_me fd_me ["_law_left_here","_law_deal","_law_named","_law_own"] (liftSp K (F_qak)):=
 ZaD Fn Zci fun cdv A outer s H E hr=>(@Zae _ _ _ _ _ (Zbl (Zab 1) (Za9 rfl (Zal (Zaj (i:=4) Zci.nd rfl 2e5) (Zal (Zaj (i:=5) Zci.nd rfl 2e5) (Zal (Zaj (i:=6) Zci.nd rfl 2e5) ZaX))))) (@Zae _ _ _ _ _ (Zap (i:=7) Zci.nd rfl 2e5 (Zaf G_qaq 1e2 1e0 m_qaq k_qaq b_qaq 6e4)) (@Zae _ _ _ _ _ (@Zas _ _ _ _ _ _ _ _ (Zar op_lt lt_ok.r (Zab 7) Zac 5e7) (@Zag _ _ _ (@Zak _ _ _ _ (ZaH (@Zaa _ _ _ _ _ ZaB (@Zaa _ _ _ _ _ (Zaf G_qaq 1e2 1e0 m_qaq k_qaq b_qaq (@Zaa _ _ _ _ _ (Zab 0) (@Zaa _ _ _ _ _ (Zab 4) Zad 1e0) 1e0)) Zad 1e0) 1e0)))) Zam) (@Zae _ _ _ _ _ (@Zas _ _ _ _ _ _ _ _ (Zar op_lt lt_ok.r (Zab 7) Zac 5e7) (@Zag _ _ _ (@Zak _ _ _ _ (ZaH (@Zaa _ _ _ _ _ ZaB (@Zaa _ _ _ _ _ (Zaf G_qaq 1e2 1e0 m_qaq k_qaq b_qaq (@Zaa _ _ _ _ _ (Zab 0) (@Zaa _ _ _ _ _ (Zab 4) Zad 1e0) 1e0)) (@Zaa _ _ _ _ _ (Zah 6e5 (Zab 2) (Zaf G_qaq 1e2 1e0 m_qaq k_qaq b_qaq 6e4)) Zad 1e0) 1e0) 1e0)))) Zam) (@Zae _ _ _ _ _ (Zap (i:=8) Zci.nd rfl 2e5 (Zaf G_qaq 1e2 1e0 m_qaq k_qaq b_qaq (@Zaa _ _ _ _ _ (Zab 0) (@Zaa _ _ _ _ _ (ZaC (Zat 1e0 T.b_len (@Zaa _ _ _ _ _ (Zab 5) Zad 1e0)) Zac) Zad 1e0) 1e0))) (@Zae _ _ _ _ _ (Zap (i:=9) Zci.nd rfl 2e5 (Zah 6e5 (ZaC (Zaw (ZaE (@Zaa _ _ _ _ _ (Zab 6) Zad 1e0))) (Zab 5)) (Zab 8))) (@Zae _ _ _ _ _ (Zap (i:=10) Zci.nd rfl 2e5 (Zaf G_qaq 1e2 1e0 m_qaq k_qaq b_qaq (@Zaa _ _ _ _ _ (Zab 0) (@Zaa _ _ _ _ _ (Zat 1e0 T.b_len (@Zaa _ _ _ _ _ (Zab 9) Zad 1e0)) Zad 1e0) 1e0))) (@Zae _ _ _ _ _ (@Zas _ _ _ _ _ _ _ _ (ZaY (ZbY (Zar Zb1 Zb6.r (Zab 8) Zac 5e7) (ZbX (Zar Zb1 Zb6.r (Zab 10) (Zab 3) 5e7)))) (@Zag _ _ _ (@Zak _ _ _ _ (ZaH (@Zaa _ _ _ _ _ ZaB (@Zaa _ _ _ _ _ (Zaf G_qaq 1e2 1e0 m_qaq k_qaq b_qaq (@Zaa _ _ _ _ _ (Zab 0) (@Zaa _ _ _ _ _ (Zab 4) Zad 1e0) 1e0)) Zad 1e0) 1e0)))) Zam) (@Zag _ _ _ (@Zak _ _ _ _ (ZaH (@Zaa _ _ _ _ _ ZaB (@Zaa _ _ _ _ _ (Zab 8) (@Zaa _ _ _ _ _ (Zab 10) (@Zaa _ _ _ _ _ (Zaf G_qaq 1e2 1e0 m_qaq k_qaq b_qaq (@Zaa _ _ _ _ _ (Zab 0) (@Zaa _ _ _ _ _ (Zah 6e5 (Zab 9) (Zab 10)) Zad 1e0) 1e0)) Zad 1e0) 1e0) 1e0) 1e0))))))))))))
end
section
variable {P:Yq}{w:World}{K:W.Frag}{mg:2e2}{base:Heap}
abbrev s_qag:Stmt:=top 30
theorem Zbq:FnScope ["_law_left_here","_law_houses","_law_sizes","_law_others","_law_named","_law_clauses_here","_law_c","_law_parts","_law_debtor","_law_creditor","_law_events","_law_k","_law_event_here","_law_leave","_law_within"] ["_law_left_here","_law_houses","_law_sizes","_law_others","_law_named"] (defScope s_qag):=1e1
theorem ok_qag {f_me:Addr}{fd_me:Yw}{f_qaq f_qak:Addr}{fd_qaq fd_qak:Yw}(Fn:Fun K "_law_clauses" "_law_clauses" s_qag f_me fd_me)(T:Txt mg)(G_qaq:FnOk P w K mg base CX0 1 f_qaq fd_qaq 4e4 (liftSp K F_qaq))(m_qaq:mg "_law_pick"=some (.ref f_qaq))(k_qaq:YC K (.ref f_qaq)=true)(b_qaq:L2.Binds K fd_qaq 4e4 [])(G_qak:FnOk P w K mg base CX0 2 f_qak fd_qak ["_law_left_here","_law_deal","_law_named","_law_own"] (liftSp K F_qak))(m_qak:mg "_law_event"=some (.ref f_qak))(k_qak:YC K (.ref f_qak)=true)(b_qak:L2.Binds K fd_qak ["_law_left_here","_law_deal","_law_named","_law_own"] []):FnOk P w K mg base CX0 3 f_me fd_me ["_law_left_here","_law_houses","_law_sizes","_law_others","_law_named"] (liftSp K (F_qag)):=
 ZaD Fn Zbq fun cdv A outer s H E hr=>(@Zae _ _ _ _ _ (Zbu (i:=5) Zbq.nd rfl 2e5 (ZaE Zad)) (@Zae _ _ _ _ _ (ZbC Wh rfl (q_im_enum 1e0 T.b_enumerate (@Zaa _ _ _ _ _ (Zab 2) Zad 1e0)) (Za9 rfl (Zal (Zaj (i:=6) Zbq.nd rfl 2e5) (Zal (Zaj (i:=7) Zbq.nd rfl 2e5) ZaX))) (@Zae _ _ _ _ _ (Zap (i:=8) Zbq.nd rfl 2e5 (Zaf G_qaq 1e2 1e0 m_qaq k_qaq b_qaq (@Zaa _ _ _ _ _ (Zab 0) (@Zaa _ _ _ _ _ (Zab 1) Zad 1e0) 1e0))) (@Zae _ _ _ _ _ (Zap (i:=9) Zbq.nd rfl 2e5 (ZaO (ZaC (ZaC (Zab 8) Zac) (Zaf G_qaq 1e2 1e0 m_qaq k_qaq b_qaq (@Zaa _ _ _ _ _ (Zab 0) (@Zaa _ _ _ _ _ (q_em_sub (Zab 1) Zac) Zad 1e0) 1e0))) (Zab 1))) (@Zae _ _ _ _ _ (Zbu (i:=10) Zbq.nd rfl 2e5 (ZaE Zad)) (@Zae _ _ _ _ _ (ZbC Wh rfl (ZaW 1e0 T.b_range (@Zaa _ _ _ _ _ (Zah 6e5 (Zaw (ZaE (@Zaa _ _ _ _ _ Zac (@Zaa _ _ _ _ _ Zac (@Zaa _ _ _ _ _ Zac (@Zaa _ _ _ _ _ Zac (@Zaa _ _ _ _ _ Zac (@Zaa _ _ _ _ _ Zac (@Zaa _ _ _ _ _ Zac 1e6 1e0) 1e0) 1e0) 1e0) 1e0) 1e0) 1e0))) (Zaf G_qaq 1e2 1e0 m_qaq k_qaq b_qaq 6e4)) Zad 1e0)) (Zaj (i:=11) Zbq.nd rfl 2e5) (@Zae _ _ _ _ _ (Zap (i:=12) Zbq.nd rfl 2e5 (Zaf G_qak 1e2 1e0 m_qak k_qak b_qak (@Zaa _ _ _ _ _ (Zab 0) (@Zaa _ _ _ _ _ (ZaH (@Zaa _ _ _ _ _ (Zab 1) (@Zaa _ _ _ _ _ (Zab 3) (@Zaa _ _ _ _ _ (Zab 2) Zad 1e0) 1e0) 1e0)) (@Zaa _ _ _ _ _ (Zab 4) (@Zaa _ _ _ _ _ (Zab 6) Zad 1e0) 1e0) 1e0) 1e0))) (@Zag _ _ _ (@Zas _ _ _ _ _ _ _ _ (Zar (op_notInD (hu64 hr)) inD_ok.r (Zab 12) (Zab 10) rfl) (@Zag _ _ _ (ZcO (ZbM (Zab 10) (@Zaa _ _ _ _ _ (Zab 12) Zad 1e0)))) Zam)))) (@Zae _ _ _ _ _ (Zap (i:=13) Zbq.nd rfl 2e5 (ZaH Zad)) (@Zae _ _ _ _ _ (@Zas _ _ _ _ _ _ _ _ (Zar (Zdg (hu64 hr)) Zbk.r (Zaf G_qaq 1e2 1e0 m_qaq k_qaq b_qaq 6e4) Zac 5e7) (@Zae _ _ _ _ _ (Zap (i:=12) Zbq.nd rfl 2e5 (Zaf G_qak 1e2 1e0 m_qak k_qak b_qak (@Zaa _ _ _ _ _ (Zab 0) (@Zaa _ _ _ _ _ (ZaH (@Zaa _ _ _ _ _ (Zab 1) (@Zaa _ _ _ _ _ (Zab 3) (@Zaa _ _ _ _ _ (Zab 2) Zad 1e0) 1e0) 1e0)) (@Zaa _ _ _ _ _ (Zab 4) (@Zaa _ _ _ _ _ (Zab 6) Zad 1e0) 1e0) 1e0) 1e0))) (@Zag _ _ _ (@Zas _ _ _ _ _ _ _ _ (Zar (op_notInD (hu64 hr)) inD_ok.r (Zab 12) (Zab 10) rfl) (@Zag _ _ _ (Zap (i:=13) Zbq.nd rfl 2e5 (ZaH (@Zaa _ _ _ _ _ (Zab 12) (@Zaa _ _ _ _ _ (ZaC Zac (Zaf G_qaq 1e2 1e0 m_qaq k_qaq b_qaq 6e4)) Zad 1e0) 1e0)))) Zam))) Zam) (@Zae _ _ _ _ _ (Zap (i:=14) Zbq.nd rfl 2e5 (Zah 6e5 (Zaw (ZaE (@Zaa _ _ _ _ _ (ZaC Zac (Zaf G_qaq 1e2 1e0 m_qaq k_qaq b_qaq 6e4)) (@Zaa _ _ _ _ _ (ZaC Zac (Zaf G_qaq 1e2 1e0 m_qaq k_qaq b_qaq 6e4)) Zad 1e0) 1e0))) (Zaf G_qaq 1e2 1e0 m_qaq k_qaq b_qaq 6e4))) (@Zag _ _ _ (ZcO (ZbM (Zab 5) (@Zaa _ _ _ _ _ (ZaH (@Zaa _ _ _ _ _ (Zab 8) (@Zaa _ _ _ _ _ (Zab 9) (@Zaa _ _ _ _ _ (Zab 7) (@Zaa _ _ _ _ _ (Zab 14) (@Zaa _ _ _ _ _ (Zb0 1e0 T.b_tuple 1e0 (@Zaa _ _ _ _ _ (Zab 10) Zad 1e0)) (@Zaa _ _ _ _ _ (Zab 13) Zad 1e0) 1e0) 1e0) 1e0) 1e0) 1e0)) Zad 1e0)))))))))))) (@Zag _ _ _ (@Zak _ _ _ _ (Zb0 1e0 T.b_tuple 1e0 (@Zaa _ _ _ _ _ (Zab 5) Zad 1e0))))))
end
section
variable {P:Yq}{w:World}{K:W.Frag}{mg:2e2}{base:Heap}
abbrev s_qay:Stmt:=top 31
theorem Za6:FnScope ["_law_script","_law_left_here","_law_words_here","_law_many","_law_shapes","_law_k","_law_houses","_law_clauses_here","_law_sizes","_law_deals","_law_shape","_law_start","_law_others","_law_close"] ["_law_script"] (defScope s_qay):=1e1
theorem ok_qay {f_me:Addr}{fd_me:Yw}{f_qao f_qbe f_qaq f_qag:Addr}{fd_qao fd_qbe fd_qaq fd_qag:Yw}(Fn:Fun K "_law_town" "_law_town" s_qay f_me fd_me)(T:Txt mg)(GF_qao:FnOk P w K mg base CX0 2 f_qao fd_qao ["_law_script","_law_k"] (liftSpF K FF_qao))(m_qao:mg "_law_left"=some (.ref f_qao))(k_qao:YC K (.ref f_qao)=true)(b_qao:L2.Binds K fd_qao ["_law_script","_law_k"] [])(G_qbe:FnOk P w K mg base CX0 2 f_qbe fd_qbe 4e4 (liftSp K F_qbe))(m_qbe:mg "_law_words"=some (.ref f_qbe))(k_qbe:YC K (.ref f_qbe)=true)(b_qbe:L2.Binds K fd_qbe 4e4 [])(G_qaq:FnOk P w K mg base CX0 1 f_qaq fd_qaq 4e4 (liftSp K F_qaq))(m_qaq:mg "_law_pick"=some (.ref f_qaq))(k_qaq:YC K (.ref f_qaq)=true)(b_qaq:L2.Binds K fd_qaq 4e4 [])(G_qag:FnOk P w K mg base CX0 3 f_qag fd_qag ["_law_left_here","_law_houses","_law_sizes","_law_others","_law_named"] (liftSp K F_qag))(m_qag:mg "_law_clauses"=some (.ref f_qag))(k_qag:YC K (.ref f_qag)=true)(b_qag:L2.Binds K fd_qag ["_law_left_here","_law_houses","_law_sizes","_law_others","_law_named"] []):FnOk P w K mg base CX0 4 f_me fd_me ["_law_script"] (liftSp K (F_qay)):=
 ZaD Fn Za6 fun cdv A outer s H E hr=>(@Zae _ _ _ _ _ (Zbu (i:=1) Za6.nd rfl (Or.inr rfl) (ZbZ GF_qao 1e2 1e0 m_qao k_qao b_qao 6e4)) (@Zae _ _ _ _ _ (Zap (i:=2) Za6.nd rfl (Or.inr rfl) (Zaf G_qbe 1e2 1e0 m_qbe k_qbe b_qbe (@Zaa _ _ _ _ _ (Zab 1) 1e6 1e0))) (@Zae _ _ _ _ _ (Zap (i:=3) Za6.nd rfl 2e5 (Zah 6e5 (Zaw (ZaE (@Zaa _ _ _ _ _ Zac (@Zaa _ _ _ _ _ Zac (@Zaa _ _ _ _ _ Zac (@Zaa _ _ _ _ _ Zac (@Zaa _ _ _ _ _ Zac (@Zaa _ _ _ _ _ Zac (@Zaa _ _ _ _ _ Zac 1e6 1e0) 1e0) 1e0) 1e0) 1e0) 1e0) 1e0))) (Zaf G_qaq 1e2 1e0 m_qaq k_qaq b_qaq (@Zaa _ _ _ _ _ (Zab 1) 1e6 1e0)))) (@Zae _ _ _ _ _ (Zbu (i:=4) Za6.nd rfl (Or.inr rfl) (ZaE Zad)) (@Zae _ _ _ _ _ (ZbC Wh rfl (ZaW 1e0 T.b_range (@Zaa _ _ _ _ _ (Zab 3) Zad 1e0)) (Zaj (i:=5) Za6.nd rfl (Or.inr rfl)) (@Zae _ _ _ _ _ (Zbu (i:=1) Za6.nd rfl (Or.inr rfl) (ZbZ GF_qao 1e2 1e0 m_qao k_qao b_qao (@Zaa _ _ _ _ _ (Zab 0) (@Zaa _ _ _ _ _ (ZaC Zac (Zab 5)) Zad 1e0) 1e0))) (@Zae _ _ _ _ _ (Zap (i:=6) Za6.nd rfl 2e5 (Zah 6e5 (Zaw (ZaE (@Zaa _ _ _ _ _ Zac (@Zaa _ _ _ _ _ Zac (@Zaa _ _ _ _ _ Zac (@Zaa _ _ _ _ _ Zac (@Zaa _ _ _ _ _ Zac (@Zaa _ _ _ _ _ Zac (@Zaa _ _ _ _ _ Zac 1e6 1e0) 1e0) 1e0) 1e0) 1e0) 1e0) 1e0))) (Zaf G_qaq 1e2 1e0 m_qaq k_qaq b_qaq (@Zaa _ _ _ _ _ (Zab 1) 1e6 1e0)))) (@Zae _ _ _ _ _ (Zap (i:=7) Za6.nd rfl 2e5 (Zah 6e5 (Zaw (ZaE (@Zaa _ _ _ _ _ Zac (@Zaa _ _ _ _ _ Zac (@Zaa _ _ _ _ _ Zac (@Zaa _ _ _ _ _ Zac (@Zaa _ _ _ _ _ Zac (@Zaa _ _ _ _ _ Zac (@Zaa _ _ _ _ _ Zac 1e6 1e0) 1e0) 1e0) 1e0) 1e0) 1e0) 1e0))) (Zaf G_qaq 1e2 1e0 m_qaq k_qaq b_qaq (@Zaa _ _ _ _ _ (Zab 1) 1e6 1e0)))) (@Zae _ _ _ _ _ (q_sm_comp (i:=8) Za6.nd rfl rfl (vs:=["_law_c"]) (fs:=["_law_left_here"]) (fr:=[1]) 4e7 rfl (ZaW 1e0 T.b_range (@Zaa _ _ _ _ _ (Zab 7) Zad 1e0)) (fun _ _ _ _ _=>(Zaj (i:=0) (show ((["_law_c"]:List Str)++(["_law_left_here"]:List Str)).Nodup by decide +kernel) rfl 2e5)) (fun _ _ _ _ _=>ZaS) (fun _ _ _ _ _=>(Zah 6e5 (Zaw (ZaE (@Zaa _ _ _ _ _ Zac (@Zaa _ _ _ _ _ Zac (@Zaa _ _ _ _ _ Zac (@Zaa _ _ _ _ _ Zac (@Zaa _ _ _ _ _ Zac (@Zaa _ _ _ _ _ Zac (@Zaa _ _ _ _ _ Zac 1e6 1e0) 1e0) 1e0) 1e0) 1e0) 1e0) 1e0))) (Zaf G_qaq 1e2 1e0 m_qaq k_qaq b_qaq (@Zaa _ _ _ _ _ (Zab 1) 1e6 1e0))))) (@Zag _ _ _ (ZcO (ZbM (Zab 4) (@Zaa _ _ _ _ _ (ZaH (@Zaa _ _ _ _ _ (Zab 6) (@Zaa _ _ _ _ _ (Zab 8) (@Zaa _ _ _ _ _ (Zaf G_qaq 1e2 1e0 m_qaq k_qaq b_qaq (@Zaa _ _ _ _ _ (Zab 1) 1e6 1e0)) Zad 1e0) 1e0) 1e0)) Zad 1e0))))))))) (@Zae _ _ _ _ _ (q_sm_newK (n:=9) Za6.nd rfl 2e5) (@Zae _ _ _ _ _ (q_sm_forE Wh rfl 1e0 T.b_enumerate (@Zaa _ _ _ _ _ (Zab 4) Zad 1e0) (Za9 rfl (Zal (Zaj (i:=5) Za6.nd rfl (Or.inr rfl)) (Zal (Zaj (i:=10) Za6.nd rfl 2e5) ZaX))) (@Zae _ _ _ _ _ (Zbu (i:=1) Za6.nd rfl (Or.inr rfl) (ZbZ GF_qao 1e2 1e0 m_qao k_qao b_qao (@Zaa _ _ _ _ _ (Zab 0) (@Zaa _ _ _ _ _ (ZaC Zac (Zab 5)) Zad 1e0) 1e0))) (@Zae _ _ _ _ _ (Zap (i:=11) Za6.nd rfl (Or.inr rfl) (Zaf G_qaq 1e2 1e0 m_qaq k_qaq b_qaq (@Zaa _ _ _ _ _ (Zab 1) 1e6 1e0))) (@Zae _ _ _ _ _ (Zap (i:=6) Za6.nd rfl 2e5 (Zb0 1e0 T.b_tuple 1e0 (@Zaa _ _ _ _ _ (Zaw (ZaM (vs:=["_law_j"]) (fs:=["_law_words_here","_law_start"]) (fr:=[2,11]) 4e7 rfl (ZaW 1e0 T.b_range (@Zaa _ _ _ _ _ (Zah 6e5 (Zab 10) Zac) Zad 1e0)) (fun _ _ _ _ _=>(Zaj (i:=0) (show ((["_law_j"]:List Str)++(["_law_words_here","_law_start"]:List Str)).Nodup by decide +kernel) rfl 2e5)) (fun _ _ _ _ _=>ZaS) (fun _ _ _ _ _=>(Zah 6e5 (Zab 1) (ZaO (ZaC (Zab 2) (Zab 0)) Zac))))) Zad 1e0))) (@Zae _ _ _ _ _ (Zap (i:=12) Za6.nd rfl 2e5 (ZaZ (Zaw (ZaM (vs:=["_law_j"]) (fs:=["_law_k"]) (fr:=[5]) 4e7 rfl (ZaW 1e0 T.b_range (@Zaa _ _ _ _ _ (Zab 3) Zad 1e0)) (fun _ _ _ _ _=>(Zaj (i:=0) (show ((["_law_j"]:List Str)++(["_law_k"]:List Str)).Nodup by decide +kernel) rfl 2e5)) (fun _ _ _ _ _=>(q_ts_one (Zar op_ne ne_ok.r (Zab 0) (Zab 1) 5e7))) (fun _ _ _ _ _=>(Zab 0)))) Za8 (Za7 (Zah 6e5 (Zab 10) Zac)))) (@Zae _ _ _ _ _ (Zap (i:=13) Za6.nd rfl 2e5 (ZaC (Zah 6e5 (Zaw (ZaE (@Zaa _ _ _ _ _ Zac (@Zaa _ _ _ _ _ Zac (@Zaa _ _ _ _ _ Zac 1e6 1e0) 1e0) 1e0))) (Zaf G_qaq 1e2 1e0 m_qaq k_qaq b_qaq (@Zaa _ _ _ _ _ (Zab 1) 1e6 1e0))) (Zaf G_qaq 1e2 1e0 m_qaq k_qaq b_qaq (@Zaa _ _ _ _ _ (Zab 1) 1e6 1e0)))) (@Zae _ _ _ _ _ (Zap (i:=7) Za6.nd rfl 2e5 (Zaf G_qag 1e2 1e0 m_qag k_qag b_qag (@Zaa _ _ _ _ _ (Zab 1) (@Zaa _ _ _ _ _ (Zah 6e5 (Zab 10) Zac) (@Zaa _ _ _ _ _ (Zah 6e5 (Zab 10) Zac) (@Zaa _ _ _ _ _ (Zaw (ZaM (vs:=["_law_j"]) (fs:=["_law_shapes"]) (fr:=[4]) 4e7 rfl (Za1 (Zab 12)) (fun _ _ _ _ _=>(Zaj (i:=0) (show ((["_law_j"]:List Str)++(["_law_shapes"]:List Str)).Nodup by decide +kernel) rfl 2e5)) (fun _ _ _ _ _=>ZaS) (fun _ _ _ _ _=>(Zah 6e5 (Zah 6e5 (Zab 1) (Zab 0)) Zac)))) (@Zaa _ _ _ _ _ (Zab 2) Zad 1e0) 1e0) 1e0) 1e0) 1e0))) (@Zag _ _ _ (q_sm_setixK (hu64 hr) (ZaH (@Zaa _ _ _ _ _ (Zab 6) (@Zaa _ _ _ _ _ (Zb0 1e0 T.b_tuple 1e0 (@Zaa _ _ _ _ _ (Zaw (ZaM (vs:=["_law_j"]) (fs:=["_law_words_here"]) (fr:=[2]) 4e7 rfl (Za1 (Zab 12)) (fun _ _ _ _ _=>(Zaj (i:=0) (show ((["_law_j"]:List Str)++(["_law_words_here"]:List Str)).Nodup by decide +kernel) rfl 2e5)) (fun _ _ _ _ _=>ZaS) (fun _ _ _ _ _=>(Zah 6e5 (Zab 1) (ZaC Zac (Zab 0)))))) Zad 1e0)) (@Zaa _ _ _ _ _ (Zab 13) (@Zaa _ _ _ _ _ (Zab 7) Zad 1e0) 1e0) 1e0) 1e0)) (Zab 9) (Zah 6e5 (Zab 2) (ZaC Zac (Zab 5)))))))))))) (@Zag _ _ _ (q_sm_retQ (@Zaa _ _ _ _ _ (Zah 6e5 (Zaw (ZaE (@Zaa _ _ _ _ _ Zac (@Zaa _ _ _ _ _ Zac (@Zaa _ _ _ _ _ Zac (@Zaa _ _ _ _ _ Zac 1e6 1e0) 1e0) 1e0) 1e0))) (Zaf G_qaq 1e2 1e0 m_qaq k_qaq b_qaq (@Zaa _ _ _ _ _ (Zab 1) 1e6 1e0))) (@Zaa _ _ _ _ _ (Zab 9) Zad 1e0) 1e0))))))))))
end
section
variable {P:Yq}{w:World}{K:W.Frag}{mg:2e2}{base:Heap}
abbrev s_qba:Stmt:=top 32
theorem sc_qba:FnScope ["_law_thing"] ["_law_thing"] (defScope s_qba):=1e1
theorem ok_qba {f_me:Addr}{fd_me:Yw}(Fn:Fun K "_law_whole" "_law_whole" s_qba f_me fd_me)(T:Txt mg):FnOk P w K mg base CX0 1 f_me fd_me ["_law_thing"] (liftSp K (F_qba)):=
 ZaD Fn sc_qba fun cdv A outer s H E hr=>(@Zag _ _ _ (@Zak _ _ _ _ (ZaG (ZaI 1e0 T.b_isinstance 1e0 (@Zaa _ _ _ _ _ (Zab 0) (@Zaa _ _ _ _ _ (ZaQ 1e0 T.b_int 1e0) Zad 1e0) 1e0)) (ZaG (q_em_not (ZaI 1e0 T.b_isinstance 1e0 (@Zaa _ _ _ _ _ (Zab 0) (@Zaa _ _ _ _ _ (ZaQ 1e0 T.b_bool 1e0) Zad 1e0) 1e0))) (ZaL (ZaP op_ge ge_ok.r (Zab 0) Zac 5e7))))))
end
section
variable {P:Yq}{w:World}{K:W.Frag}{mg:2e2}{base:Heap}
abbrev s_qaa:Stmt:=top 33
theorem sc_qaa:FnScope ["_law_thing","_law_many"] ["_law_thing","_law_many"] (defScope s_qaa):=1e1
theorem ok_qaa {f_me:Addr}{fd_me:Yw}{f_qba:Addr}{fd_qba:Yw}(Fn:Fun K "_law_below" "_law_below" s_qaa f_me fd_me)(T:Txt mg)(G_qba:FnOk P w K mg base CX0 1 f_qba fd_qba ["_law_thing"] (liftSp K F_qba))(m_qba:mg "_law_whole"=some (.ref f_qba))(k_qba:YC K (.ref f_qba)=true)(b_qba:L2.Binds K fd_qba ["_law_thing"] []):FnOk P w K mg base CX0 2 f_me fd_me ["_law_thing","_law_many"] (liftSp K (F_qaa)):=
 ZaD Fn sc_qaa fun cdv A outer s H E hr=>(@Zag _ _ _ (@Zak _ _ _ _ (ZaG (Zaf G_qba 1e2 1e0 m_qba k_qba b_qba 4e3) (ZaL (ZaP op_lt lt_ok.r (Zab 0) (Zab 1) 5e7)))))
end
section
variable {P:Yq}{w:World}{K:W.Frag}{mg:2e2}{base:Heap}
abbrev s_qbc:Stmt:=top 34
theorem sc_qbc:FnScope ["_law_thing"] ["_law_thing"] (defScope s_qbc):=1e1
theorem ok_qbc {f_me:Addr}{fd_me:Yw}(Fn:Fun K "_law_word" "_law_word" s_qbc f_me fd_me)(T:Txt mg):FnOk P w K mg base CX0 1 f_me fd_me ["_law_thing"] (liftSp K (F_qbc)):=
 ZaD Fn sc_qbc fun cdv A outer s H E hr=>(@Zae _ _ _ _ _ (@Zas _ _ _ _ _ _ _ _ (ZaY (ZaA (Zao (Zan (ZaI 1e0 T.b_isinstance 1e0 (@Zaa _ _ _ _ _ (Zab 0) (@Zaa _ _ _ _ _ (ZaQ 1e0 T.b_str 1e0) Zad 1e0) 1e0)))) (ZaA (Zar Zb1 Zb6.r (Zab 0) ZaB 5e7) (ZaK (Zar op_gt gt_ok.r (Zat 1e0 T.b_len 4e3) Zac 5e7))))) 3e3 Zam) (@Zag _ _ _ (@Zak _ _ _ _ (ZaP Zb1 Zb6.r (q_em_strip (Zab 0) (@Zaa _ _ _ _ _ ZaB Zad 1e0)) ZaB 5e7))))
end
section
variable {P:Yq}{w:World}{K:W.Frag}{mg:2e2}{base:Heap}
abbrev s_qas:Stmt:=top 35
theorem sc_qas:FnScope ["_law_thing","_law_least","_law_most"] ["_law_thing","_law_least","_law_most"] (defScope s_qas):=1e1
theorem ok_qas {f_me:Addr}{fd_me:Yw}{f_qbc:Addr}{fd_qbc:Yw}(Fn:Fun K "_law_some_words" "_law_some_words" s_qas f_me fd_me)(T:Txt mg)(G_qbc:FnOk P w K mg base CX0 1 f_qbc fd_qbc ["_law_thing"] (liftSp K F_qbc))(m_qbc:mg "_law_word"=some (.ref f_qbc))(k_qbc:YC K (.ref f_qbc)=true)(b_qbc:L2.Binds K fd_qbc ["_law_thing"] []):FnOk P w K mg base CX0 2 f_me fd_me ["_law_thing","_law_least","_law_most"] (liftSp K (F_qas)):=
 ZaD Fn sc_qas fun cdv A outer s H E hr=>(@Zae _ _ _ _ _ (@Zas _ _ _ _ _ _ _ _ (ZaY (ZaA (Zao (Zan (ZaI 1e0 T.b_isinstance 1e0 (@Zaa _ _ _ _ _ (Zab 0) (@Zaa _ _ _ _ _ (ZaQ 1e0 T.b_tuple 1e0) Zad 1e0) 1e0)))) (ZaA (Zao (Zcd op_le op_le le_ok.r le_ok.r (Zab 1) (Zat 1e0 T.b_len 4e3) (Zab 2))) (ZaK (Zao (Zan (Zbd rfl 1e0 T.b_all 1e0 (@Zaa _ _ _ _ _ (Zaw (ZaM (vs:=["_law_one"]) (fs:=[]) (fr:=[]) 4e7 rfl (Za1 (Zab 0)) (fun _ _ _ _ _=>(Zaj (i:=0) (show ((["_law_one"]:List Str)++([]:List Str)).Nodup by decide +kernel) rfl 2e5)) (fun _ _ _ _ _=>ZaS) (fun _ _ _ _ _=>(Zaf G_qbc 1e2 1e0 m_qbc k_qbc b_qbc 4e3)))) Zad 1e0)))))))) 3e3 Zam) (@Zag _ _ _ (@Zak _ _ _ _ (ZaP Zb1 Zb6.r (Zbv rfl (hu64 hr) 1e0 T.b_len 1e0 T.b_set 4e3) (Zat 1e0 T.b_len 4e3) 5e7))))
end
section
variable {P:Yq}{w:World}{K:W.Frag}{mg:2e2}{base:Heap}
abbrev s_qam:Stmt:=top 36
theorem sc_qam:FnScope ["_law_event_here","_law_own","_law_shape","_law_houses","_law_others","_law_sizes"] ["_law_event_here","_law_own","_law_shape"] (defScope s_qam):=1e1
theorem ok_qam {f_me:Addr}{fd_me:Yw}{f_qaa f_qbc:Addr}{fd_qaa fd_qbc:Yw}(Fn:Fun K "_law_event_fits" "_law_event_fits" s_qam f_me fd_me)(T:Txt mg)(G_qaa:FnOk P w K mg base CX0 2 f_qaa fd_qaa ["_law_thing","_law_many"] (liftSp K F_qaa))(m_qaa:mg "_law_below"=some (.ref f_qaa))(k_qaa:YC K (.ref f_qaa)=true)(b_qaa:L2.Binds K fd_qaa ["_law_thing","_law_many"] [])(G_qbc:FnOk P w K mg base CX0 1 f_qbc fd_qbc ["_law_thing"] (liftSp K F_qbc))(m_qbc:mg "_law_word"=some (.ref f_qbc))(k_qbc:YC K (.ref f_qbc)=true)(b_qbc:L2.Binds K fd_qbc ["_law_thing"] []):FnOk P w K mg base CX0 3 f_me fd_me ["_law_event_here","_law_own","_law_shape"] (liftSp K (F_qam)):=
 ZaD Fn sc_qam fun cdv A outer s H E hr=>(@Zae _ _ _ _ _ (Zbl (Zab 2) (Za9 rfl (Zal (Zaj (i:=3) sc_qam.nd rfl 2e5) (Zal (Zaj (i:=4) sc_qam.nd rfl 2e5) (Zal (Zaj (i:=5) sc_qam.nd rfl 2e5) ZaX))))) (@Zae _ _ _ _ _ (@Zas _ _ _ _ _ _ _ _ (ZaY (ZaA (Zao (Zan (ZaI 1e0 T.b_isinstance 1e0 (@Zaa _ _ _ _ _ (Zab 0) (@Zaa _ _ _ _ _ (ZaQ 1e0 T.b_tuple 1e0) Zad 1e0) 1e0)))) (ZaA (Zar (op_eqE (hu64 hr)) emp_ok.r (Zab 0) (ZaH Zad) 5e7) (ZaK (Zao (Zan (ZaI 1e0 T.b_isinstance 1e0 (@Zaa _ _ _ _ _ 3e6 (@Zaa _ _ _ _ _ (ZaQ 1e0 T.b_str 1e0) Zad 1e0) 1e0)))))))) 3e3 Zam) (@Zae _ _ _ _ _ (@Zas _ _ _ _ _ _ _ _ (Zar (op_neD (hu64 hr)) Zbk.r (q_em_get2 (q_em_dict (@ZcP _ _ _ _ _ _ _ _ _ _ Zac (@ZcP _ _ _ _ _ _ _ _ _ _ Zac (@ZcP _ _ _ _ _ _ _ _ _ _ Zac q_dm_nil))) (by decide +kernel) rfl rfl 3e4 2e4 rfl) (@Zaa _ _ _ _ _ 3e6 1e6 1e0)) (Zat 1e0 T.b_len 4e3) 5e7) 3e3 Zam) (@Zae _ _ _ _ _ (@Zas _ _ _ _ _ _ _ _ (Zar (op_neD (hu64 hr)) Zbk.r 3e6 ZaB 5e7) (@Zag _ _ _ (@Zak _ _ _ _ (ZaG (Zaf G_qaa 1e2 1e0 m_qaa k_qaa b_qaa (@Zaa _ _ _ _ _ 3e6 (@Zaa _ _ _ _ _ (Zab 3) Zad 1e0) 1e0)) (ZaL (q_em_or (ZaP (Zdg (hu64 hr)) Zbk.r 3e6 ZaB 5e7) (ZaL (Zaf G_qbc 1e2 1e0 m_qbc k_qbc b_qbc (@Zaa _ _ _ _ _ 3e6 Zad 1e0)))))))) Zam) (@Zae _ _ _ _ _ (@Zas _ _ _ _ _ _ _ _ (Zao (Zan (Zaf G_qaa 1e2 1e0 m_qaa k_qaa b_qaa (@Zaa _ _ _ _ _ 3e6 (@Zaa _ _ _ _ _ (ZaC (Zab 4) Zac) Zad 1e0) 1e0)))) 3e3 Zam) (@Zae _ _ _ _ _ (@Zas _ _ _ _ _ _ _ _ (Zar op_gt gt_ok.r 3e6 Zac 5e7) (@Zag _ _ _ (@Zak _ _ _ _ (ZaG (Zaf G_qaa 1e2 1e0 m_qaa k_qaa b_qaa (@Zaa _ _ _ _ _ 3e6 1e6 1e0)) (ZaL (Zaf G_qaa 1e2 1e0 m_qaa k_qaa b_qaa (@Zaa _ _ _ _ _ 3e6 1e6 1e0)))))) Zam) (@Zag _ _ _ (@Zak _ _ _ _ (ZaG (Zaf G_qaa 1e2 1e0 m_qaa k_qaa b_qaa (@Zaa _ _ _ _ _ 3e6 (@Zaa _ _ _ _ _ (Zat 1e0 T.b_len (@Zaa _ _ _ _ _ (Zab 5) Zad 1e0)) Zad 1e0) 1e0)) (ZaG (ZaP (op_neD (hu64 hr)) Zbk.r 3e6 (Zab 1) 5e7) (ZaL (Zaf G_qaa 1e2 1e0 m_qaa k_qaa b_qaa (@Zaa _ _ _ _ _ 3e6 (@Zaa _ _ _ _ _ (Zah 6e5 (Zab 5) 3e6) Zad 1e0) 1e0)))))))))))))
end
section
variable {P:Yq}{w:World}{K:W.Frag}{mg:2e2}{base:Heap}
abbrev s_qae:Stmt:=top 37
theorem ZcK:FnScope ["_law_clause","_law_houses","_law_debtor","_law_creditor","_law_parts","_law_within","_law_conds","_law_leave"] ["_law_clause","_law_houses"] (defScope s_qae):=1e1
theorem ok_qae {f_me:Addr}{fd_me:Yw}{f_qaa f_qba:Addr}{fd_qaa fd_qba:Yw}(Fn:Fun K "_law_clause_fits" "_law_clause_fits" s_qae f_me fd_me)(T:Txt mg)(G_qaa:FnOk P w K mg base CX0 2 f_qaa fd_qaa ["_law_thing","_law_many"] (liftSp K F_qaa))(m_qaa:mg "_law_below"=some (.ref f_qaa))(k_qaa:YC K (.ref f_qaa)=true)(b_qaa:L2.Binds K fd_qaa ["_law_thing","_law_many"] [])(G_qba:FnOk P w K mg base CX0 1 f_qba fd_qba ["_law_thing"] (liftSp K F_qba))(m_qba:mg "_law_whole"=some (.ref f_qba))(k_qba:YC K (.ref f_qba)=true)(b_qba:L2.Binds K fd_qba ["_law_thing"] []):FnOk P w K mg base CX0 3 f_me fd_me ["_law_clause","_law_houses"] (liftSp K (F_qae)):=
 ZaD Fn ZcK fun cdv A outer s H E hr=>(@Zae _ _ _ _ _ (@Zas _ _ _ _ _ _ _ _ (ZaY (ZaA (Zao (Zan (ZaI 1e0 T.b_isinstance 1e0 (@Zaa _ _ _ _ _ (Zab 0) (@Zaa _ _ _ _ _ (ZaQ 1e0 T.b_tuple 1e0) Zad 1e0) 1e0)))) (ZaK (Zar (op_neD (hu64 hr)) Zbk.r (Zat 1e0 T.b_len 4e3) Zac 5e7)))) 3e3 Zam) (@Zae _ _ _ _ _ (Zbl (Zab 0) (Za9 rfl (Zal (Zaj (i:=2) ZcK.nd rfl 2e5) (Zal (Zaj (i:=3) ZcK.nd rfl 2e5) (Zal (Zaj (i:=4) ZcK.nd rfl 2e5) (Zal (Zaj (i:=5) ZcK.nd rfl 2e5) (Zal (Zaj (i:=6) ZcK.nd rfl 2e5) (Zal (Zaj (i:=7) ZcK.nd rfl 2e5) ZaX)))))))) (@Zae _ _ _ _ _ (@Zas _ _ _ _ _ _ _ _ (ZaY (ZaA (Zao (Zan (Zaf G_qaa 1e2 1e0 m_qaa k_qaa b_qaa (@Zaa _ _ _ _ _ (Zab 2) (@Zaa _ _ _ _ _ (Zab 1) Zad 1e0) 1e0)))) (ZaA (Zao (Zan (Zaf G_qaa 1e2 1e0 m_qaa k_qaa b_qaa (@Zaa _ _ _ _ _ (Zab 3) (@Zaa _ _ _ _ _ (Zab 1) Zad 1e0) 1e0)))) (ZaK (Zar (Zdg (hu64 hr)) Zbk.r (Zab 2) (Zab 3) 5e7))))) 3e3 Zam) (@Zae _ _ _ _ _ (@Zas _ _ _ _ _ _ _ _ (ZaY (ZaA (Zao (Zan (Zaf G_qaa 1e2 1e0 m_qaa k_qaa b_qaa (@Zaa _ _ _ _ _ (Zab 4) 1e6 1e0)))) (ZaA (Zar (Zdg (hu64 hr)) Zbk.r (Zab 4) Zac 5e7) (ZaA (Zao (Zan (Zaf G_qba 1e2 1e0 m_qba k_qba b_qba (@Zaa _ _ _ _ _ (Zab 5) Zad 1e0)))) (ZaK (Zar (Zdg (hu64 hr)) Zbk.r (Zab 5) Zac 5e7)))))) 3e3 Zam) (@Zae _ _ _ _ _ (@Zas _ _ _ _ _ _ _ _ (ZaY (ZaA (Zao (Zan (ZaI 1e0 T.b_isinstance 1e0 (@Zaa _ _ _ _ _ (Zab 6) (@Zaa _ _ _ _ _ (ZaQ 1e0 T.b_tuple 1e0) Zad 1e0) 1e0)))) (ZaA (Zar op_gt gt_ok.r (Zat 1e0 T.b_len (@Zaa _ _ _ _ _ (Zab 6) Zad 1e0)) Zac 5e7) (ZaK (Zao (Zan (ZaI 1e0 T.b_isinstance 1e0 (@Zaa _ _ _ _ _ (Zab 7) (@Zaa _ _ _ _ _ (ZaQ 1e0 T.b_tuple 1e0) Zad 1e0) 1e0)))))))) 3e3 Zam) (@Zag _ _ _ (@Zak _ _ _ _ (q_em_or (ZaP (op_eqE (hu64 hr)) emp_ok.r (Zab 7) (ZaH Zad) 5e7) (ZaL (ZaG (ZaP (Zdg (hu64 hr)) Zbk.r (Zat 1e0 T.b_len (@Zaa _ _ _ _ _ (Zab 7) Zad 1e0)) Zac 5e7) (ZaG (Zaf G_qba 1e2 1e0 m_qba k_qba b_qba (@Zaa _ _ _ _ _ (Zah 6e5 (Zab 7) Zac) Zad 1e0)) (ZaL (ZaP op_gt gt_ok.r (Zah 6e5 (Zab 7) Zac) Zac 5e7)))))))))))))
end
section
variable {P:Yq}{w:World}{K:W.Frag}{mg:2e2}{base:Heap}
abbrev s_qai:Stmt:=top 38
theorem ZbV:FnScope ["_law_thing","_law_houses","_law_others","_law_close","_law_clauses_here","_law_shape","_law_own","_law_clause","_law_events"] ["_law_thing"] (defScope s_qai):=1e1
theorem ok_qai {f_me:Addr}{fd_me:Yw}{f_qas f_qba f_qae f_qam:Addr}{fd_qas fd_qba fd_qae fd_qam:Yw}(Fn:Fun K "_law_deal_fits" "_law_deal_fits" s_qai f_me fd_me)(T:Txt mg)(G_qas:FnOk P w K mg base CX0 2 f_qas fd_qas ["_law_thing","_law_least","_law_most"] (liftSp K F_qas))(m_qas:mg "_law_some_words"=some (.ref f_qas))(k_qas:YC K (.ref f_qas)=true)(b_qas:L2.Binds K fd_qas ["_law_thing","_law_least","_law_most"] [])(G_qba:FnOk P w K mg base CX0 1 f_qba fd_qba ["_law_thing"] (liftSp K F_qba))(m_qba:mg "_law_whole"=some (.ref f_qba))(k_qba:YC K (.ref f_qba)=true)(b_qba:L2.Binds K fd_qba ["_law_thing"] [])(G_qae:FnOk P w K mg base CX0 3 f_qae fd_qae ["_law_clause","_law_houses"] (liftSp K F_qae))(m_qae:mg "_law_clause_fits"=some (.ref f_qae))(k_qae:YC K (.ref f_qae)=true)(b_qae:L2.Binds K fd_qae ["_law_clause","_law_houses"] [])(G_qam:FnOk P w K mg base CX0 3 f_qam fd_qam ["_law_event_here","_law_own","_law_shape"] (liftSp K F_qam))(m_qam:mg "_law_event_fits"=some (.ref f_qam))(k_qam:YC K (.ref f_qam)=true)(b_qam:L2.Binds K fd_qam ["_law_event_here","_law_own","_law_shape"] []):FnOk P w K mg base CX0 4 f_me fd_me ["_law_thing"] (liftSp K (F_qai)):=
 ZaD Fn ZbV fun cdv A outer s H E hr=>(@Zae _ _ _ _ _ (@Zas _ _ _ _ _ _ _ _ (ZaY (ZaA (Zao (Zan (ZaI 1e0 T.b_isinstance 1e0 (@Zaa _ _ _ _ _ (Zab 0) (@Zaa _ _ _ _ _ (ZaQ 1e0 T.b_tuple 1e0) Zad 1e0) 1e0)))) (ZaA (Zar (op_neD (hu64 hr)) Zbk.r (Zat 1e0 T.b_len 4e3) Zac 5e7) (ZaK (Zao (Zan (Zaf G_qas 1e2 1e0 m_qas k_qas b_qas (@Zaa _ _ _ _ _ 3e6 (@Zaa _ _ _ _ _ Zac 1e6 1e0) 1e0)))))))) 3e3 Zam) (@Zae _ _ _ _ _ (Zbl (Zab 0) (Za9 rfl (Zal (Zaj (i:=1) ZbV.nd rfl (Or.inr rfl)) (Zal (Zaj (i:=2) ZbV.nd rfl 2e5) (Zal (Zaj (i:=3) ZbV.nd rfl 2e5) (Zal (Zaj (i:=4) ZbV.nd rfl 2e5) ZaX)))))) (@Zae _ _ _ _ _ (@Zas _ _ _ _ _ _ _ _ (ZaY (ZaA (Zar (op_inD (hu64 hr)) inD_ok.r ZaB (Zab 1) rfl) (ZaA (Zao (Zan (Zaf G_qas 1e2 1e0 m_qas k_qas b_qas (@Zaa _ _ _ _ _ (Zab 2) (@Zaa _ _ _ _ _ Zac 1e6 1e0) 1e0)))) (ZaK (Zao (Zan (Zaf G_qba 1e2 1e0 m_qba k_qba b_qba (@Zaa _ _ _ _ _ (Zab 3) Zad 1e0)))))))) 3e3 Zam) (@Zae _ _ _ _ _ (@Zas _ _ _ _ _ _ _ _ (ZaY (ZaA (Zao (Zan (ZaI 1e0 T.b_isinstance 1e0 (@Zaa _ _ _ _ _ (Zab 4) (@Zaa _ _ _ _ _ (ZaQ 1e0 T.b_tuple 1e0) Zad 1e0) 1e0)))) (ZaK (Zao (Zcd op_le op_le le_ok.r le_ok.r Zac (Zat 1e0 T.b_len (@Zaa _ _ _ _ _ (Zab 4) Zad 1e0)) Zac))))) 3e3 Zam) (@Zae _ _ _ _ _ (@Zas _ _ _ _ _ _ _ _ (Zao (Zan (Zbd rfl 1e0 T.b_all 1e0 (@Zaa _ _ _ _ _ (Zaw (ZaM (vs:=["_law_clause"]) (fs:=["_law_houses"]) (fr:=[1]) 4e7 rfl (Za1 (Zab 4)) (fun _ _ _ _ _=>(Zaj (i:=0) (show ((["_law_clause"]:List Str)++(["_law_houses"]:List Str)).Nodup by decide +kernel) rfl 2e5)) (fun _ _ _ _ _=>ZaS) (fun _ _ _ _ _=>(Zaf G_qae 1e2 1e0 m_qae k_qae b_qae (@Zaa _ _ _ _ _ (Zab 0) (@Zaa _ _ _ _ _ (Zat 1e0 T.b_len (@Zaa _ _ _ _ _ (Zab 1) Zad 1e0)) Zad 1e0) 1e0))))) Zad 1e0)))) 3e3 Zam) (@Zae _ _ _ _ _ (Zap (i:=5) ZbV.nd rfl (Or.inr rfl) (ZaH (@Zaa _ _ _ _ _ (Zat 1e0 T.b_len (@Zaa _ _ _ _ _ (Zab 1) Zad 1e0)) (@Zaa _ _ _ _ _ (Zat 1e0 T.b_len (@Zaa _ _ _ _ _ (Zab 2) Zad 1e0)) (@Zaa _ _ _ _ _ (Zaw (ZaM (vs:=["_law_clause"]) (fs:=[]) (fr:=[]) 4e7 rfl (Za1 (Zab 4)) (fun _ _ _ _ _=>(Zaj (i:=0) (show ((["_law_clause"]:List Str)++([]:List Str)).Nodup by decide +kernel) rfl 2e5)) (fun _ _ _ _ _=>ZaS) (fun _ _ _ _ _=>3e6))) Zad 1e0) 1e0) 1e0))) (@Zae _ _ _ _ _ (ZbC Wh rfl (q_im_enumT 1e0 T.b_enumerate (@Zaa _ _ _ _ _ (Zab 4) Zad 1e0)) (Za9 rfl (Zal (Zaj (i:=6) ZbV.nd rfl (Or.inr rfl)) (Zal (Zaj (i:=7) ZbV.nd rfl 2e5) ZaX))) (@Zae _ _ _ _ _ (Zap (i:=8) ZbV.nd rfl 2e5 (ZaC (Zaw (Zbg 1e0 T.b_list 1e0 (@Zaa _ _ _ _ _ (Zah 6e5 (Zab 7) Zac) Zad 1e0))) (Zaw (Zbg 1e0 T.b_list 1e0 (@Zaa _ _ _ _ _ (ZaZ (Zah 6e5 (Zab 7) Zac) Za8 (Za7 Zac)) Zad 1e0))))) (@Zag _ _ _ (@Zas _ _ _ _ _ _ _ _ (ZaY (ZaA (Zao (Zan (Zbd rfl 1e0 T.b_all 1e0 (@Zaa _ _ _ _ _ (Zaw (ZaM (vs:=["_law_event_here"]) (fs:=["_law_own","_law_shape"]) (fr:=[6,5]) 4e7 rfl (Za1 (Zab 8)) (fun _ _ _ _ _=>(Zaj (i:=0) (show ((["_law_event_here"]:List Str)++(["_law_own","_law_shape"]:List Str)).Nodup by decide +kernel) rfl 2e5)) (fun _ _ _ _ _=>ZaS) (fun _ _ _ _ _=>(Zaf G_qam 1e2 1e0 m_qam k_qam b_qam (@Zaa _ _ _ _ _ (Zab 0) (@Zaa _ _ _ _ _ (Zab 1) (@Zaa _ _ _ _ _ (Zab 2) Zad 1e0) 1e0) 1e0))))) Zad 1e0)))) (ZaK (Zar (op_ltD (hu64 hr)) ltD_ok.r (Zbv rfl (hu64 hr) 1e0 T.b_len 1e0 T.b_set (@Zaa _ _ _ _ _ (Zab 8) Zad 1e0)) (Zat 1e0 T.b_len (@Zaa _ _ _ _ _ (Zab 8) Zad 1e0)) 5e7)))) 3e3 Zam)))) 3e3)))))))
end
section
variable {P:Yq}{w:World}{K:W.Frag}{mg:2e2}{base:Heap}
abbrev s_qau:Stmt:=top 39
theorem sc_qau:FnScope ["_law_left_here","_law_thing","_law_at","_law_way","_law_some"] ["_law_left_here","_law_thing"] (defScope s_qau):=1e1
theorem Zcm {f_me:Addr}{fd_me:Yw}{f_qaq:Addr}{fd_qaq:Yw}(Fn:Fun K "_law_spoilt" "_law_spoilt" s_qau f_me fd_me)(T:Txt mg)(G_qaq:FnOk P w K mg base CX0 1 f_qaq fd_qaq 4e4 (liftSp K F_qaq))(m_qaq:mg "_law_pick"=some (.ref f_qaq))(k_qaq:YC K (.ref f_qaq)=true)(b_qaq:L2.Binds K fd_qaq 4e4 [])(m_qau:mg "_law_spoilt"=some (.ref f_me))(k_qau:YC K (.ref f_me)=true)(b_qau:L2.Binds K fd_me ["_law_left_here","_law_thing"] []):∀n:Nat,FnOk P w K mg base CX0 (2 + n) f_me fd_me ["_law_left_here","_law_thing"] (liftSp K (F_qau n))
 | 0=>fn_none
 | n + 1=>by
  have G_qau:=Zcm Fn T G_qaq m_qaq k_qaq b_qaq m_qau k_qau b_qau n
  exact ZaD Fn sc_qau fun cdv A outer s H E hr=>(@Zae _ _ _ _ _ (@Zas _ _ _ _ _ _ _ _ (ZaY (ZbY (Zan (ZaI 1e0 T.b_isinstance 1e0 (@Zaa _ _ _ _ _ (Zab 1) (@Zaa _ _ _ _ _ (ZaQ 1e0 T.b_tuple 1e0) Zad 1e0) 1e0))) (ZbY (Zar (op_neE (hu64 hr)) emp_ok.r (Zab 1) (ZaH Zad) 5e7) (ZbX (Zar op_gt gt_ok.r (Zaf G_qaq (hr.mono (by show _<=2 + n;lia)) 1e0 m_qaq k_qaq b_qaq 6e4) Zac 5e7))))) (@Zae _ _ _ _ _ (Zap (i:=2) sc_qau.nd rfl 2e5 (Zaf G_qaq (hr.mono (by show _<=2 + n;lia)) 1e0 m_qaq k_qaq b_qaq (@Zaa _ _ _ _ _ (Zab 0) (@Zaa _ _ _ _ _ (Zat 1e0 T.b_len (@Zaa _ _ _ _ _ (Zab 1) Zad 1e0)) Zad 1e0) 1e0))) (@Zag _ _ _ (@Zak _ _ _ _ (Zbj (Zbj (ZaZ (Zab 1) Za8 (Za7 (Zab 2))) (ZaH (@Zaa _ _ _ _ _ (Zaf G_qau (hr.mono (by show _<=2 + n;lia)) 1e0 m_qau k_qau b_qau (@Zaa _ _ _ _ _ (Zab 0) (@Zaa _ _ _ _ _ (Zah 6e5 (Zab 1) (Zab 2)) Zad 1e0) 1e0)) Zad 1e0))) (ZaZ (Zab 1) (Za7 (Zbj (Zab 2) Zac)) Za8))))) Zam) (@Zae _ _ _ _ _ (Zap (i:=3) sc_qau.nd rfl 2e5 (Zaf G_qaq (hr.mono (by show _<=2 + n;lia)) 1e0 m_qaq k_qaq b_qaq 6e4)) (@Zae _ _ _ _ _ (@Zas _ _ _ _ _ _ _ _ (ZaY (ZbY (Zan (ZaI 1e0 T.b_isinstance 1e0 (@Zaa _ _ _ _ _ (Zab 1) (@Zaa _ _ _ _ _ (ZaQ 1e0 T.b_tuple 1e0) Zad 1e0) 1e0))) (ZbX (Zar (op_ltD (hu64 hr)) ltD_ok.r (Zab 3) Zac 5e7)))) (@Zag _ _ _ (@Zak _ _ _ _ (Zah 6e5 (Zaw (ZaE (@Zaa _ _ _ _ _ (Zaw (Zbg 1e0 T.b_list 1e0 (@Zaa _ _ _ _ _ (Zab 1) Zad 1e0))) (@Zaa _ _ _ _ _ (ZaZ (Zab 1) (Za7 Zac) Za8) (@Zaa _ _ _ _ _ (Zbj (Zab 1) (ZaZ (Zab 1) (Za7 (q_em_neg Zac)) Za8)) (@Zaa _ _ _ _ _ (Zbj (Zab 1) (ZaH 1e6)) Zad 1e0) 1e0) 1e0) 1e0))) (Zab 3)))) Zam) (@Zae _ _ _ _ _ (@Zas _ _ _ _ _ _ _ _ (ZaY (ZbY (Zan (ZaI 1e0 T.b_isinstance 1e0 (@Zaa _ _ _ _ _ (Zab 1) (@Zaa _ _ _ _ _ (ZaQ 1e0 T.b_int 1e0) Zad 1e0) 1e0))) (ZbX (Zar (op_ltD (hu64 hr)) ltD_ok.r (Zab 3) Zac 5e7)))) (@Zag _ _ _ (@Zak _ _ _ _ (Zbj (Zab 1) (Zah 6e5 (Zaw (ZaE (@Zaa _ _ _ _ _ Zac (@Zaa _ _ _ _ _ (q_em_neg Zac) (@Zaa _ _ _ _ _ Zac 1e6 1e0) 1e0) 1e0))) (Zab 3))))) Zam) (@Zae _ _ _ _ _ (Zap (i:=4) sc_qau.nd rfl 2e5 (Zaw (ZaE (@Zaa _ _ _ _ _ q_em_non (@Zaa _ _ _ _ _ Zaz (@Zaa _ _ _ _ _ Zaz (@Zaa _ _ _ _ _ (q_em_neg Zac) (@Zaa _ _ _ _ _ Zac (@Zaa _ _ _ _ _ Zac (@Zaa _ _ _ _ _ Zac (@Zaa _ _ _ _ _ Zac (@Zaa _ _ _ _ _ ZaB (@Zaa _ _ _ _ _ ZaB (@Zaa _ _ _ _ _ ZaB (@Zaa _ _ _ _ _ ZaB (@Zaa _ _ _ _ _ ZaB (@Zaa _ _ _ _ _ (ZaH Zad) (@Zaa _ _ _ _ _ (ZaH (@Zaa _ _ _ _ _ ZaB (@Zaa _ _ _ _ _ Zac (@Zaa _ _ _ _ _ ZaB Zad 1e0) 1e0) 1e0)) (@Zaa _ _ _ _ _ (ZaH (@Zaa _ _ _ _ _ ZaB 1e6 1e0)) Zad 1e0) 1e0) 1e0) 1e0) 1e0) 1e0) 1e0) 1e0) 1e0) 1e0) 1e0) 1e0) 1e0) 1e0) 1e0) 1e0)))) (@Zag _ _ _ (@Zak _ _ _ _ (Zah 6e5 (Zbj (Zab 4) (Zaw (ZaE (@Zaa _ _ _ _ _ (Zaw (ZaE Zad)) (@Zaa _ _ _ _ _ Zdf (@Zaa _ _ _ _ _ ZaB (@Zaa _ _ _ _ _ ZaB Zad 1e0) 1e0) 1e0) 1e0)))) (Zaf G_qaq (hr.mono (by show _<=2 + n;lia)) 1e0 m_qaq k_qaq b_qaq 6e4)))))))))
theorem ok_qau {f_me:Addr}{fd_me:Yw}{f_qaq:Addr}{fd_qaq:Yw}(Fn:Fun K "_law_spoilt" "_law_spoilt" s_qau f_me fd_me)(T:Txt mg)(G_qaq:FnOk P w K mg base CX0 1 f_qaq fd_qaq 4e4 (liftSp K F_qaq))(m_qaq:mg "_law_pick"=some (.ref f_qaq))(k_qaq:YC K (.ref f_qaq)=true)(b_qaq:L2.Binds K fd_qaq 4e4 [])(m_qau:mg "_law_spoilt"=some (.ref f_me))(k_qau:YC K (.ref f_me)=true)(b_qau:L2.Binds K fd_me ["_law_left_here","_law_thing"] []):FnOk P w K mg base CX0 14 f_me fd_me ["_law_left_here","_law_thing"] (liftSp K (F_qau 12)):=
 Zcm Fn T G_qaq m_qaq k_qaq b_qaq m_qau k_qau b_qau 12
end
section
variable {P:Yq}{w:World}{K:W.Frag}{mg:2e2}{base:Heap}
abbrev s_qaw:Stmt:=top 40
theorem sc_qaw:FnScope ["_law_found","_law_due"] ["_law_found","_law_due"] (defScope s_qaw):=1e1
theorem ok_qaw {f_me:Addr}{fd_me:Yw}(Fn:Fun K "_law_told" "_law_told" s_qaw f_me fd_me)(T:Txt mg):FnOk P w K mg base CX0 1 f_me fd_me ["_law_found","_law_due"] (liftSp K (F_qaw)):=
 ZaD Fn sc_qaw fun cdv A outer s H E hr=>(@Zag _ _ _ (@Zak _ _ _ _ (ZaG (ZaI 1e0 T.b_isinstance 1e0 (@Zaa _ _ _ _ _ (Zab 0) (@Zaa _ _ _ _ _ (ZaQ 1e0 T.b_bool 1e0) Zad 1e0) 1e0)) (ZaL (ZaP Zb1 Zb6.r (Zab 0) (Zab 1) 5e7)))))
end
section
variable {P:Yq}{w:World}{K:W.Frag}{mg:2e2}{base:Heap}
abbrev s_law:Stmt:=top 41
theorem Zcj:FnScope ["_law_script","_law_town_here","_law_names","_law_k","_law_left_here","_law_thing"] ["_law_script"] (defScope s_law):=1e1
theorem ok_law {f_me:Addr}{fd_me:Yw}{f_qay f_qbk f_qaw f_qao f_qaq f_qau f_qai d_EVENTS f_qbn f_qbs f_qbl:Addr}{fd_qay fd_qbk fd_qaw fd_qao fd_qaq fd_qau fd_qai:Yw}(Fn:Fun K "law" "law" s_law f_me fd_me)(T:Txt mg)(G_qay:FnOk P w K mg base CX0 4 f_qay fd_qay ["_law_script"] (liftSp K F_qay))(m_qay:mg "_law_town"=some (.ref f_qay))(k_qay:YC K (.ref f_qay)=true)(b_qay:L2.Binds K fd_qay ["_law_script"] [])(G_qbk:FnOk P w K mg base CX0 6 f_qbk fd_qbk ["thing"] (liftSp K (F_qbk d_EVENTS f_qbn f_qbs f_qbl)))(m_qbk:mg "is_deal"=some (.ref f_qbk))(k_qbk:YC K (.ref f_qbk)=true)(b_qbk:L2.Binds K fd_qbk ["thing"] [])(G_qaw:FnOk P w K mg base CX0 1 f_qaw fd_qaw ["_law_found","_law_due"] (liftSp K F_qaw))(m_qaw:mg "_law_told"=some (.ref f_qaw))(k_qaw:YC K (.ref f_qaw)=true)(b_qaw:L2.Binds K fd_qaw ["_law_found","_law_due"] [])(GF_qao:FnOk P w K mg base CX0 2 f_qao fd_qao ["_law_script","_law_k"] (liftSpF K FF_qao))(m_qao:mg "_law_left"=some (.ref f_qao))(k_qao:YC K (.ref f_qao)=true)(b_qao:L2.Binds K fd_qao ["_law_script","_law_k"] [])(G_qaq:FnOk P w K mg base CX0 1 f_qaq fd_qaq 4e4 (liftSp K F_qaq))(m_qaq:mg "_law_pick"=some (.ref f_qaq))(k_qaq:YC K (.ref f_qaq)=true)(b_qaq:L2.Binds K fd_qaq 4e4 [])(G_qau:FnOk P w K mg base CX0 14 f_qau fd_qau ["_law_left_here","_law_thing"] (liftSp K (F_qau 12)))(m_qau:mg "_law_spoilt"=some (.ref f_qau))(k_qau:YC K (.ref f_qau)=true)(b_qau:L2.Binds K fd_qau ["_law_left_here","_law_thing"] [])(G_qai:FnOk P w K mg base CX0 4 f_qai fd_qai ["_law_thing"] (liftSp K F_qai))(m_qai:mg "_law_deal_fits"=some (.ref f_qai))(k_qai:YC K (.ref f_qai)=true)(b_qai:L2.Binds K fd_qai ["_law_thing"] []):FnOk P w K mg base CX0 15 f_me fd_me ["_law_script"] (liftSp K (F_law d_EVENTS f_qbn f_qbs f_qbl)):=
 ZaD Fn Zcj fun cdv A outer s H E hr=>(@Zae _ _ _ _ _ (Zap (i:=1) Zcj.nd rfl (Or.inr rfl) (Zaf G_qay 1e2 1e0 m_qay k_qay b_qay 4e3)) (@Zae _ _ _ _ _ (Zap (i:=2) Zcj.nd rfl 2e5 (Zaw (q_fm_sorted3 rfl (hu64 hr) 1e0 T.b_sorted 1e0 (@Zaa _ _ _ _ _ (Zah 6e5 (Zab 1) Zac) Zad 1e0)))) (@Zae _ _ _ _ _ (@Zas _ _ _ _ _ _ _ _ (Zao (Zan (Zbd rfl 1e0 T.b_all 1e0 (@Zaa _ _ _ _ _ (Zaw (ZaM (vs:=["_law_name"]) (fs:=["_law_town_here"]) (fr:=[1]) 4e7 rfl (Za1 (Zab 2)) (fun _ _ _ _ _=>(Zaj (i:=0) (show ((["_law_name"]:List Str)++(["_law_town_here"]:List Str)).Nodup by decide +kernel) rfl 2e5)) (fun _ _ _ _ _=>ZaS) (fun _ _ _ _ _=>(Zaf G_qaw 1e2 1e0 m_qaw k_qaw b_qaw (@Zaa _ _ _ _ _ (Zaf G_qbk 1e2 1e0 m_qbk k_qbk b_qbk (@Zaa _ _ _ _ _ (Zah 6e5 (Zah 6e5 (Zab 1) Zac) (Zab 0)) Zad 1e0)) (@Zaa _ _ _ _ _ Zaz Zad 1e0) 1e0))))) Zad 1e0)))) 3e3 Zam) (@Zae _ _ _ _ _ (ZbC Wh rfl (ZaW 1e0 T.b_range (@Zaa _ _ _ _ _ (q_em_max rfl 1e0 T.b_max 1e0 (@Zaa _ _ _ _ _ Zac (@Zaa _ _ _ _ _ (q_em_min rfl 1e0 T.b_min 1e0 (@Zaa _ _ _ _ _ Zac (@Zaa _ _ _ _ _ (Zat 1e0 T.b_len 4e3) Zad 1e0) 1e0)) Zad 1e0) 1e0)) Zad 1e0)) (Zaj (i:=3) Zcj.nd rfl 2e5) (@Zae _ _ _ _ _ (Zbu (i:=4) Zcj.nd rfl 2e5 (ZbZ GF_qao 1e2 1e0 m_qao k_qao b_qao (@Zaa _ _ _ _ _ (Zab 0) (@Zaa _ _ _ _ _ (ZaC Zac (Zab 3)) Zad 1e0) 1e0))) (@Zae _ _ _ _ _ (Zap (i:=5) Zcj.nd rfl 2e5 (Zaf G_qau 1e2 1e0 m_qau k_qau b_qau (@Zaa _ _ _ _ _ (Zab 4) (@Zaa _ _ _ _ _ (Zah 6e5 (Zah 6e5 (Zab 1) Zac) (Zah 6e5 (Zab 2) (Zaf G_qaq 1e2 1e0 m_qaq k_qaq b_qaq (@Zaa _ _ _ _ _ (Zab 4) (@Zaa _ _ _ _ _ (Zat 1e0 T.b_len (@Zaa _ _ _ _ _ (Zab 2) Zad 1e0)) Zad 1e0) 1e0)))) Zad 1e0) 1e0))) (@Zae _ _ _ _ _ (@Zas _ _ _ _ _ _ _ _ (Zar Zb1 Zb6.r (Zaf G_qaq 1e2 1e0 m_qaq k_qaq b_qaq (@Zaa _ _ _ _ _ (Zab 4) 1e6 1e0)) Zac 5e7) (@Zag _ _ _ (Zap (i:=5) Zcj.nd rfl 2e5 (Zaf G_qau 1e2 1e0 m_qau k_qau b_qau (@Zaa _ _ _ _ _ (Zab 4) (@Zaa _ _ _ _ _ (Zab 5) Zad 1e0) 1e0)))) Zam) (@Zag _ _ _ (@Zas _ _ _ _ _ _ _ _ (Zao (Zan (Zaf G_qaw 1e2 1e0 m_qaw k_qaw b_qaw (@Zaa _ _ _ _ _ (Zaf G_qbk 1e2 1e0 m_qbk k_qbk b_qbk (@Zaa _ _ _ _ _ (Zab 5) Zad 1e0)) (@Zaa _ _ _ _ _ (Zaf G_qai 1e2 1e0 m_qai k_qai b_qai (@Zaa _ _ _ _ _ (Zab 5) Zad 1e0)) Zad 1e0) 1e0)))) 3e3 Zam)))))) (@Zae _ _ _ _ _ (ZbC Wh rfl (Za1 (Zaw (ZaE (@Zaa _ _ _ _ _ q_em_non (@Zaa _ _ _ _ _ Zaz (@Zaa _ _ _ _ _ Zac (@Zaa _ _ _ _ _ ZaB (@Zaa _ _ _ _ _ (ZaH Zad) (@Zaa _ _ _ _ _ (Zaw (ZaE Zad)) (@Zaa _ _ _ _ _ Zdf (@Zaa _ _ _ _ _ (Zab 1) (@Zaa _ _ _ _ _ (Zaw (Zbg 1e0 T.b_list 1e0 (@Zaa _ _ _ _ _ (Zah 6e5 (Zah 6e5 (Zab 1) Zac) (Zah 6e5 (Zab 2) Zac)) Zad 1e0))) Zad 1e0) 1e0) 1e0) 1e0) 1e0) 1e0) 1e0) 1e0) 1e0)))) (Zaj (i:=5) Zcj.nd rfl 2e5) (@Zag _ _ _ (@Zas _ _ _ _ _ _ _ _ (Zao (Zan (Zaf G_qaw 1e2 1e0 m_qaw k_qaw b_qaw (@Zaa _ _ _ _ _ (Zaf G_qbk 1e2 1e0 m_qbk k_qbk b_qbk (@Zaa _ _ _ _ _ (Zab 5) Zad 1e0)) (@Zaa _ _ _ _ _ Zaz Zad 1e0) 1e0)))) 3e3 Zam))) (@Zag _ _ _ (@Zak _ _ _ _ (Zaf G_qaw 1e2 1e0 m_qaw k_qaw b_qaw (@Zaa _ _ _ _ _ (Zaf G_qbk 1e2 1e0 m_qbk k_qbk b_qbk (@Zaa _ _ _ _ _ (Zah 6e5 (Zah 6e5 (Zab 1) Zac) (Zah 6e5 (Zab 2) Zac)) Zad 1e0)) (@Zaa _ _ _ _ _ Zaz Zad 1e0) 1e0)))))))))
end
local macro_rules
 | `(tactic| simp![$args,*])=>`(tactic| simp[mDef,mRet,mRetF,mAndV,mOrV,mNotV,mCB,mOp,mChain,mTest,mTru,mNotT,mAndT,mOrT,mIf,mIfS,mSeq,mSkip,mSet,mDrop,mTup,mLst,mVal,mFn,mFnF,mSlice,mMt,mDict,mDict0,mList,listH,bnd,opM,aCons,aNil,mVar,mC,Pu.ret,g1,g2,derefs,deref,isiH,isiP,tyN,mB,asB,intP,fin,truP,lenH,Pu.plain,oNo,oPart,Pu.intD,sliceD,sliceP,isTy,tyP,mtD,eqP,neP,scP,$args,*])
local macro_rules
 |`(#[$x])=>`(some (.v $x))
noncomputable def okv:PV->Bool
 | .dtt _ _=>false
 | .fn _=>false
 | .ty _=>false
 | _=>true
noncomputable def AZ:Str:="abcdefghijklmnopqrstuvwxyz"
def wordB (z:Str):Bool:=decide (1<=(z.length:Int))&&decide ((z.length:Int)<=12)&&z.cps.toList.all AZ.cps.contains
def wordP:PV->Bool
 | .str z=>wordB z
 | _=>false
noncomputable def numB (x:PV)(m:Int):Bool:=match x with
 | .int i=>decide (m<=i)
 | _=>false
noncomputable def belB (x:PV)(b:Int):Bool:=match x with
 | .int i=>decide (0<=i)&&decide (i < b)
 | _=>false
theorem Za4 (x:PV)(m:Int)(C:Cs)(h:okv x=true):F_qbp [.v x,.v (.int m)] C=some (.v (.bl (numB x m)),C):=by
  cases x<;>first
    | (cases h;done)
    | (simp![F_qbp,numB])
theorem Zay (x:PV)(b:Int)(C:Cs)(h:okv x=true):F_qbq [.v x,.v (.int b)] C=some (.v (.bl (belB x b)),C):=by
 cases x with
 | int i=>by_cases hi:(0:Int)<=i<;>simp![F_qbq,Za4 _ _ _ h,numB,belB,hi]
 | dtt a b=>cases h
 | fn a=>cases h
 | ty a=>cases h
 | _=>simp![F_qbq,Za4 _ _ _ h,numB,belB]
theorem ZaV {te:4e0}{f:PV->PV}:∀(xs:List PV) (ρ:PSt) (ys:List PV) (C:Cs),(∀x∈xs,te (ρ.set 0 #[x]) C=some (.v (f x),C))->compL 6e8 tOk te xs ρ ys C=some (ys++xs.map f,C)
 | [],ρ,ys,C,_=>by simp[compL,Pu.ret]
 | x::xs,ρ,ys,C,h=>by
  have h1:=h x 3e4
  have h2:=ZaV xs (ρ.set 0 #[x]) (ys++[f x]) C fun y hy=>by rw[VS];exact h y (by simp[hy])
  simp[compL,hName,bnd,tOk,Pu.ret,h1,h2]
theorem Zb9 {α:Type}(g:α->Bool):∀l:List α,boolsP (l.map fun c=>PV.bl (g c))=some (l.map g)
 | []=>rfl
 | a::l=>by simp[boolsP,Zb9 g l]
theorem strIn_one (c:Nat)(z:Str):strIn ⟨(List.toArray [c])⟩ z=z.cps.toList.contains c:=by
 unfold strIn
 rw[PySem.StrLaws.found_one]
 simp
theorem AZ_contains:AZ.cps.toList.contains=AZ.cps.contains:=by
 funext c;simp
theorem Zdi (x:PV)(C:Cs)(h:okv x=true):F_qbt [.v x] C=some (.v (.bl (wordP x)),C):=by
 cases x with
 | str z=>
  by_cases h1:1<=(z.length:Int)
  ·by_cases h2:(z.length:Int)<=12
   ·have hl:z.cps.size<=100000:=by
     have:z.cps.size=z.length:=rfl
     lia
    unfold F_qbt B_qbt
    generalize hte:mOp (g2 inP) 1e7 (mC (.str "abcdefghijklmnopqrstuvwxyz"))=te
    have key:compL 6e8 tOk te (z.cps.toList.map fun c=>.str ⟨(List.toArray [c])⟩) [none] [] C=some (z.cps.toList.map fun c=>PV.bl (AZ.cps.contains c),C):=by
     subst hte
     have:=ZaV (te:=mOp (g2 inP) 1e7 (mC (.str "abcdefghijklmnopqrstuvwxyz"))) (f:=fun p=>match p with | .str y=>.bl (strIn y AZ) | _=>.non) (z.cps.toList.map fun c=>.str ⟨(List.toArray [c])⟩) [none] [] C (fun x hx=>by
      obtain ⟨c,_,rfl⟩:=YM.mp hx
      simp[mOp,bnd,mVar,mC,opM,g2,deref,inP,inB,AZ])
     rw[this,Xa,Xb]
     congr 3
     funext c
     simp only[Function.comp,strIn_one]
     rw[AZ_contains]
    simp![h1,h2,mComp,mItems,itemsP,stIn',hl,key,allH,Zb9,wordP,wordB,Xw]
   ·simp![F_qbt,h1,h2,wordP,wordB]
  ·simp![F_qbt,h1,wordP,wordB]
 | dtt a b=>cases h
 | fn a=>cases h
 | ty a=>cases h
 | _=>simp![F_qbt,wordP]
theorem row_tup (ps:List PV)(a b:Int)(C:Cs):F_qbr [.v 5e9,.v (.int a),.v (.int b)] C=some (.v (.bl (decide (a<=ps.length)&&decide ((ps.length:Int)<=b))),C):=by
 by_cases h:a<=ps.length
 ·by_cases h2:(ps.length:Int)<=b<;>simp![F_qbr,h,h2]
 ·simp![F_qbr,h]
noncomputable def isT:PV->Bool
 | .tup _=>true
 | _=>false
theorem row_not (x:PV)(a b:Int)(C:Cs)(h:okv x=true)(ht:isT x=false):F_qbr [.v x,.v (.int a),.v (.int b)] C=some (.v (.bl false),C):=by
 cases x<;>first | (cases ht;done) | (cases h;done) | simp![F_qbr]
theorem tk (C:Cs)(k:Nat)(v:PV):(C.set k v).take C.length=C.set k v:=Ww 3e4
theorem setAt {C:Cs}{k:Nat}{v w:PV}(h:C[k]? = some w):(C.set k v)[k]? = some v:=by
 have:k < C.length:=by
  rcases YF k C.length with q | q
  ·exact q
  ·rw[Yl.mpr q] at h;cases h
 rw[Xz this]
theorem pick_spec (k:Nat)(x y m:Int)(C:Cs)(hC:C[k]? = some (.lst [.int x,.int y]))(hy:0<=y/\y < 2147483647)(hm:0 < m/\m < 1073741824):
  ∃d x' y',F_qaq [.c k,.v (.int m)] C=some (.v (.int d),C.set k (.lst [.int x',.int y']))/\0<=d/\d < m/\0<=y'/\y' < 2147483647:=by
 by_cases hx:0 < x
 ·refine ⟨x % m,x / m,y,?_,Y1 _ 1e3,YQ _ hm.1,hy.1,hy.2⟩
  simp![F_qaq,ixQ,ixP,atI,ixN,hC,hx,hm.1,hm.2,mSetIx,setC,tk]
 ·have h1:0<=(y * 48271 + 12345) % 2147483647:=Y1 _ 2e4
  have h2:(y * 48271 + 12345) % 2147483647 < 2147483647:=YQ _ 2e4
  refine ⟨(y * 48271 + 12345) % 2147483647 * ((y * 48271 + 12345) % 2147483647) % 1999999973 % m,x,(y * 48271 + 12345) % 2147483647,?_,Y1 _ 1e3,YQ _ hm.1,h1,h2⟩
  generalize hz:(y * 48271 + 12345) % 2147483647=z at h1 h2
  have c1:(-18446744073709551616 < z/\z < 18446744073709551616):=by lia
  simp![F_qaq,ixQ,ixP,atI,ixN,hC,hx,hm.1,hm.2,mSetIx,setC,tk,addP,setAt hC,hz,c1]
def GS (C:Cs)(k:Nat):Prop:=∃x y:Int,C[k]? = some (.lst [.int x,.int y])/\0<=y/\y < 2147483647
structure Adv (k:Nat)(C C':Cs):Prop where
 len:C'.length=C.length
 gs:GS C' k
 oth:∀j,j≠k->C'[j]? = C[j]?
theorem Adv.refl {k:Nat}{C:Cs}(h:GS C k):Adv k C C:=⟨rfl,h,fun _ _=>rfl⟩
theorem Adv.trans {k:Nat}{C C1 C2:Cs}(a:Adv k C C1)(b:Adv k C1 C2):Adv k C C2:=⟨b.len.trans a.len,b.gs,fun j h=>(b.oth j h).trans (a.oth j h)⟩
theorem Adv.take {k:Nat}{C C':Cs}(a:Adv k C C'):C'.take C.length=C':=Ww (by rw[a.len];exact Yk _)
theorem Zau (k:Nat)(m:Int)(C:Cs)(h:GS C k)(hm:0 < m/\m < 1073741824):∃d C',F_qaq [.c k,.v (.int m)] C=some (.v (.int d),C')/\0<=d/\d < m/\Adv k C C':=by
 obtain ⟨x,y,hC,h1,h2⟩:=h
 obtain ⟨d,x',y',e,a1,a2,a3,a4⟩:=pick_spec k x y m C hC ⟨h1,h2⟩ hm
 exact ⟨d,_,e,a1,a2,by simp,⟨x',y',setAt hC,a3,a4⟩,fun j hj=>by rw[YZ (XT hj)]⟩
theorem comp_adv {te:4e0}{k:Nat}{Pp:PV->Prop}:∀(xs:List PV) (ρ:PSt) (ys:List PV) (C:Cs),GS C k->(∀x C,GS C k->∃p C',te (ρ.set 0 #[x]) C=some (.v p,C')/\Pp p/\Adv k C C')->
  ∃zs C',compL 6e8 tOk te xs ρ ys C=some (ys++zs,C')/\zs.length=xs.length/\(∀p∈zs,Pp p)/\Adv k C C'
 | [],ρ,ys,C,g,h=>⟨[],C,by simp[compL,Pu.ret],rfl,by simp,Adv.refl g⟩
 | x::xs,ρ,ys,C,g,h=>by
  obtain ⟨p,C1,e1,hp,a1⟩:=h x C g
  obtain ⟨zs,C2,e2,hl,hz,a2⟩:=comp_adv (te:=te) (Pp:=Pp) xs (ρ.set 0 #[x]) (ys++[p]) C1 a1.gs fun y C' g'=>by rw[VS];exact h y C' g'
  refine ⟨p::zs,C2,?_,by simp[hl],fun q hq=>?_,a1.trans a2⟩
  ·simp[compL,hName,bnd,tOk,Pu.ret,e1,e2]
  ·rcases Yn.mp hq with rfl | hq
   ·exact hp
   ·exact hz q hq
theorem ix_all {okk:PV->Bool}(L:List PV)(h:L.all okk=true)(d:Int)(h1:0<=d)(h2:d < L.length):∃p,ixQ (.lst L) (.int d)=some p/\okk p=true:=by
 have hd:d.toNat < L.length:=by lia
 refine ⟨L[d.toNat],?_,Yt.mp h _ (Y5 hd)⟩
 simp[ixQ,ixP,atI,ixN,h1,h2,Ya hd]
theorem cut_len (xs:List PV)(lo hi:Option Int):(cutP xs lo hi).length<=xs.length:=by
 unfold cutP
 rw[Y7,XN]
 lia
theorem Zdn (ns:List Int)(i:Int)(C:Cs)(hi:0<=i):∃v:Int,F_qac [.v (.lst (ns.map .int)),.v (.int i)] C=some (.v (.int v),C):=by
 by_cases h:i < ns.length
 ·have hd:i.toNat < ns.length:=by lia
  refine ⟨ns[i.toNat],?_⟩
  simp![F_qac,ixQ,ixP,atI,ixN,hi,h,Ya hd]
 ·exact ⟨0,by simp![F_qac,h]⟩
theorem left_eq (ns:List Int)(k:Int)(C:Cs)(h1:0<=k)(h2:k<=1000):∃x y:Int,FF_qao [.v (.lst (ns.map .int)),.v (.int k)] C=some ([.int x,.int y],C)/\0<=y/\y < 2147483647:=by
 have hm:0 < (if (ns.length:Int) > 1 then (ns.length:Int) else 1):=by split<;>lia
 obtain ⟨v,ev⟩:=Zdn ns (k % (if (ns.length:Int) > 1 then (ns.length:Int) else 1)) C (Y1 _ 1e3)
 obtain ⟨u,eu⟩:=Zdn ns 0 C 2e4
 have c1:-18446744073709551616 < k/\k < 18446744073709551616:=by lia
 have hm':0 < (if 1 < (ns.length:Int) then (ns.length:Int) else 1):=hm
 have ev':F_qac [.v (.lst (ns.map .int)),.v (.int (k % (if 1 < (ns.length:Int) then (ns.length:Int) else 1)))] C=some (.v (.int v),C):=ev
 have hcast:(if 1 < (ns.length:Int) then (ns.length:Int) else 1)=if 1 < ns.length then (ns.length:Int) else 1:=by
  by_cases q:1 < ns.length
  ·rw[if_pos q,if_pos 1e3]
  ·rw[if_neg q,if_neg 1e3]
 have p40:(0:Int) < 10 ^ 40:=by decide
 by_cases hu:u % 2=0
 ·refine ⟨0,(v % 2147483629 + 7919 * k * k + 11) * 48271 % 2147483647,?_,Y1 _ 2e4,YQ _ 2e4⟩
  simp![FF_qao,mDefF,maxH,ev',eu,hm',c1,addP,hu]
 ·refine ⟨v % 10 ^ 40,(v % 2147483629 + 7919 * k * k + 11) * 48271 % 2147483647,?_,Y1 _ 2e4,YQ _ 2e4⟩
  simp![FF_qao,mDefF,maxH,ev',eu,hm',c1,addP,hu]
theorem loop_inv {g:5e4}{f:PSt->M PF}(Pi:PSt->Cs->Prop):∀(xs:List PV),(∀x∈xs,∀ρ C,Pi ρ C->∃ρ1 ρ2 C2,g x ρ=some ρ1/\f ρ1 C=some (.nx ρ2,C2)/\Pi ρ2 C2)->∀ρ C,Pi ρ C->∃ρ' C',loop g f xs ρ C=some (.nx ρ',C')/\Pi ρ' C'
 | [],_,ρ,C,h=>⟨ρ,C,rfl,h⟩
 | x::xs,hs,ρ,C,h=>by
  obtain ⟨ρ1,ρ2,C2,e1,e2,h2⟩:=hs x 3e4 ρ C h
  obtain ⟨ρ',C',e3,h3⟩:=loop_inv Pi xs (fun y hy=>hs y (by simp[hy])) ρ2 C2 h2
  refine ⟨ρ',C',?_,h3⟩
  unfold loop
  simp only[e1,bnd,e2,e3]
theorem Zbt (x:PV)(C:Cs)(h:okv x=true):F_qba [.v x] C=some (.v (.bl (numB x 0)),C):=by
  cases x<;>first
    | (cases h;done)
    | (simp![F_qba,numB])
theorem ZaT (x:PV)(b:Int)(C:Cs)(h:okv x=true):F_qaa [.v x,.v (.int b)] C=some (.v (.bl (belB x b)),C):=by
 cases x with
 | int i=>by_cases hi:(0:Int)<=i<;>simp![F_qaa,Zbt _ _ h,numB,belB,hi]
 | dtt a b=>cases h
 | fn a=>cases h
 | ty a=>cases h
 | _=>simp![F_qaa,Zbt _ _ h,numB,belB]
theorem l_word_eq (x:PV)(C:Cs)(h:okv x=true):F_qbc [.v x] C=some (.v (.bl (wordP x)),C):=by
 cases x with
 | str z=>
  by_cases h1:1<=(z.length:Int)
  ·have hz0:z≠"":=fun q=>by rw[q] at h1;exact absurd h1 2e4
   by_cases h2:(z.length:Int)<=12
   ·have h3:¬(12:Int) < z.length:=by lia
    have e:decide (Txt.stripChars z "abcdefghijklmnopqrstuvwxyz"="")=z.cps.toList.all AZ.cps.contains:=by
     have:=strip_empty z AZ AZ.cps.contains rfl
     by_cases hz:z.cps.toList.all AZ.cps.contains=true
     ·rw[hz];exact decide_eq_true (this.mpr hz)
     ·have hf:z.cps.toList.all AZ.cps.contains=false:=by simpa using hz
      rw[hf];exact decide_eq_false fun q=>hz (this.mp q)
    simp![F_qbc,h1,h2,h3,hz0,stripH,wordP,wordB,e]
   ·have h3:(12:Int) < z.length:=by lia
    simp![F_qbc,h1,h2,h3,hz0,wordP,wordB]
  ·have hz0:z="":=by
    have hl:z.cps.size=0:=by
     have:(z.length:Int)=z.cps.size:=rfl
     lia
    cases z with
    | mk cps=>exact congrArg Str.mk (Vo hl)
   subst hz0
   simp![F_qbc,wordP,wordB]
   exact fun q=>absurd q h1
 | dtt a b=>cases h
 | fn a=>cases h
 | ty a=>cases h
 | _=>simp![F_qbc,wordP]
def wordsB (x:PV)(a b:Int):Bool:=match x with
 | .tup ps=>decide (a<=(ps.length:Int))&&decide ((ps.length:Int)<=b)&&ps.all wordP&&(match keysP ps with | some ks=>decide ((Se.fm ks).length=ps.length) | none=>false)
 | _=>false
theorem ZbE:∀{ps:List PV},ps.all wordP=true->∃l:List Str,ps=l.map PV.str/\keysP ps=some (l.map XM)
 | [],_=>⟨[],rfl,rfl⟩
 | p::ps,h=>by
  rw[Y9,Yd] at h
  obtain ⟨l,rfl,e⟩:=ZbE h.2
  cases p with
  | str z=>exact ⟨z::l,rfl,by unfold keysP;rw[e];rfl⟩
  | _=>cases h.1
theorem all_bl (f:PV->Bool)(xs:List PV):allH [.lst (xs.map fun x=>.bl (f x))]=some (.bl (xs.all f)):=by
 simp[allH,Zb9,Xw]
theorem Zcr (x:PV)(a b:Int)(hb:b < 70)(C:Cs)(h:okv x=true)(hi:∀ps,x=.tup ps->ps.all okv=true):F_qbg [.v x,.v (.int a),.v (.int b)] C=some (.v (.bl (wordsB x a b)),C):=by
 cases ht:isT x with
 | false=>
  have hr:=row_not x a b C h ht
  have hw:wordsB x a b=false:=by cases x<;>first | rfl | cases ht
  rw[hw]
  generalize x=X at *
  simp![F_qbg,hr]
 | true=>
  obtain ⟨ps,rfl⟩:∃ps,x=.tup ps:=by cases x<;>first | exact ⟨_,rfl⟩ | cases ht
  have hok:=hi ps rfl
  have hr:=row_tup ps a b C
  unfold wordsB
  by_cases h1:a<=(ps.length:Int)
  ·by_cases h2:(ps.length:Int)<=b
   ·have hc:=ZaV (te:=mFn F_qbt 5e2) (f:=fun x=>.bl (wordP x)) ps [none] [] C (fun x hx=>by
     simp![Zdi x C (Yt.mp hok x hx)])
    rw[Xa] at hc
    have ha:=all_bl wordP ps
    have hll:ps.length<=100000:=by lia
    have hl7:ps.length < 76:=by lia
    cases hw:ps.all wordP with
    | false=>
     rw[hw] at ha
     generalize ps.map (fun x=>PV.bl (wordP x))=bs at hc ha
     unfold F_qbg B_qbg
     generalize mFn F_qbt 5e2=te at hc ⊢
     simp![hr,h1,h2,mComp,mItems,itemsP,stIn',hll,hc,ha,hw]
    | true=>
     obtain ⟨l,_,hk⟩:=ZbE hw
     rw[hw] at ha
     have hs:lenSetL ps=some (.int (Se.fm (l.map XM:List Key)).length):=by
      unfold lenSetL;rw[if_pos hl7,hk]
     generalize ps.map (fun x=>PV.bl (wordP x))=bs at hc ha
     unfold F_qbg B_qbg
     generalize mFn F_qbt 5e2=te at hc ⊢
     simp![hr,h1,h2,mComp,mItems,itemsP,stIn',hll,hc,ha,hw,lenSetH,hs,hk]
     lia
   ·simp![F_qbg,hr,h1,h2]
  ·simp![F_qbg,hr,h1]
theorem ZbT (x:PV)(a b:Int)(hb:b < 70)(C:Cs)(h:okv x=true)(hi:∀ps,x=.tup ps->ps.all okv=true):F_qas [.v x,.v (.int a),.v (.int b)] C=some (.v (.bl (wordsB x a b)),C):=by
 cases x with
 | tup ps=>
  have hok:=hi ps rfl
  unfold wordsB
  by_cases h1:a<=(ps.length:Int)
  ·by_cases h2:(ps.length:Int)<=b
   ·have hc:=ZaV (te:=mFn F_qbc 5e2) (f:=fun x=>.bl (wordP x)) ps [none] [] C (fun x hx=>by
     simp![l_word_eq x C (Yt.mp hok x hx)])
    rw[Xa] at hc
    have ha:=all_bl wordP ps
    have hll:ps.length<=100000:=by lia
    have hl7:ps.length < 76:=by lia
    cases hw:ps.all wordP with
    | false=>
     rw[hw] at ha
     generalize ps.map (fun x=>PV.bl (wordP x))=bs at hc ha
     unfold F_qas B_qas
     generalize mFn F_qbc 5e2=te at hc ⊢
     simp![h1,h2,mComp,mItems,itemsP,stIn',hll,hc,ha,hw]
    | true=>
     obtain ⟨l,_,hk⟩:=ZbE hw
     rw[hw] at ha
     have hs:lenSetL ps=some (.int (Se.fm (l.map XM:List Key)).length):=by
      unfold lenSetL;rw[if_pos hl7,hk]
     generalize ps.map (fun x=>PV.bl (wordP x))=bs at hc ha
     unfold F_qas B_qas
     generalize mFn F_qbc 5e2=te at hc ⊢
     simp![h1,h2,mComp,mItems,itemsP,stIn',hll,hc,ha,hw,lenSetH,hs,hk]
     lia
   ·simp![F_qas,h1,h2]
  ·simp![F_qas,h1]
 | dtt a b=>cases h
 | fn a=>cases h
 | ty a=>cases h
 | _=>simp![F_qas,wordsB]
def didB (own on:Int)(parts:List Int)(r0 r1 r2:PV):Bool:=belB r0 (on + 1)&&(match r0 with
 | .int k=>if 0 < k then belB r1 12&&belB r2 9 else belB r1 parts.length&&(match r1 with
  | .int c=>decide (c≠own)&&belB r2 ((parts[c.toNat]?).getD 0)
  | _=>false)
 | _=>false)
def joB (hn:Int):List PV->Bool
 | [r0]=>belB r0 hn
 | _=>false
def saB (hn:Int):List PV->Bool
 | [r0,r1]=>belB r0 hn&&wordP r1
 | _=>false
def diB (own on:Int)(parts:List Int):List PV->Bool
 | [r0,r1,r2]=>didB own on parts r0 r1 r2
 | _=>false
def evR (t:Str)(own hn on:Int)(parts:List Int)(r:List PV):Bool:=
 if t="joined" then joB hn r else if t="said" then saB hn r else if t="did" then diB own on parts r else false
def evB (own hn on:Int)(parts:List Int):PV->Bool
 | .tup (.str t::r)=>evR t own hn on parts r
 | _=>false
structure Sp (cls:List PV)(parts:List Int):Prop where
 len:cls.length=parts.length
 ix:∀i:Int,0<=i->i < parts.length->∃c,ixQ (.tup cls) (.int i)=some c/\ixQ c (.int 2)=some (.int ((parts[i.toNat]?).getD 0))
 sz:∀i:Int,0<=i->i < parts.length->ixQ (.lst (parts.map .int)) (.int i)=some (.int ((parts[i.toNat]?).getD 0))
section
variable (hs os cls:List PV)(close:PV)(own:Int)(parts:List Int)(C:Cs)
noncomputable abbrev dlP:PV:=.tup [.tup hs,.tup os,close,.tup cls]
theorem joined_eq (t:Str)(r:List PV)(hr:r.all okv=true):F_qbn [.v (.tup (.str t::r)),.v (.int own),.v (dlP hs os cls close)] C=some (.v (.bl (joB hs.length r)),C):=by
 match r,hr with
 | [],_=>simp![joB,F_qbn]
 | [r0],hr=>
  have h0:okv r0=true:=by simpa using hr
  simp![joB,F_qbn,ixQ,ixP,atI,ixN,Zay r0 _ C h0]
 | a::b::r,_=>
  have:¬((r.length:Int) + 1 + 1 + 1=2):=by lia
  simp![joB,F_qbn,this]
theorem said_eq (t:Str)(r:List PV)(hr:r.all okv=true):F_qbs [.v (.tup (.str t::r)),.v (.int own),.v (dlP hs os cls close)] C=some (.v (.bl (saB hs.length r)),C):=by
 match r,hr with
 | [],_=>simp![saB,F_qbs]
 | [a],_=>simp![saB,F_qbs]
 | [r0,r1],hr=>
  have h0:okv r0=true/\okv r1=true:=by simpa using hr
  have e1:=Zay r0 hs.length C h0.1
  have e2:=Zdi r1 C h0.2
  cases hb:belB r0 hs.length with
  | true=>rw[hb] at e1;simp![saB,F_qbs,ixQ,ixP,atI,ixN,e1,e2,hb]
  | false=>rw[hb] at e1;simp![saB,F_qbs,ixQ,ixP,atI,ixN,e1,hb]
 | a::b::c::r,_=>
  have:¬((r.length:Int) + 1 + 1 + 1 + 1=3):=by lia
  simp![saB,F_qbs,this]
theorem did_eq (sp:Sp cls parts)(t:Str)(r:List PV)(hr:r.all okv=true):F_qbl [.v (.tup (.str t::r)),.v (.int own),.v (dlP hs os cls close)] C=some (.v (.bl (diB own os.length parts r)),C):=by
 match r,hr with
 | [],_=>simp![diB,F_qbl]
 | [a],_=>simp![diB,F_qbl]
 | [a,b],_=>simp![diB,F_qbl]
 | [r0,r1,r2],hr=>
  obtain ⟨h0,h1,h2⟩:okv r0=true/\okv r1=true/\okv r2=true:=by simpa using hr
  have e1:=Zay r0 (os.length + 1) C h0
  have hsl:cutP [PV.str t,r0,r1,r2] (some 1) none=[r0,r1,r2]:=by simp[cutP,HT.sIx]
  have x1:ixQ (.tup [PV.str t,r0,r1,r2]) (.int 1)=some r0:=rfl
  have y1:ixQ (dlP hs os cls close) (.int 1)=some (.tup os):=rfl
  have y3:ixQ (dlP hs os cls close) (.int 3)=some (.tup cls):=rfl
  have sl:=sp.len
  unfold diB didB
  generalize dlP hs os cls close=DL at *
  cases hb:belB r0 (os.length + 1) with
  | false=>rw[hb] at e1;simp![F_qbl,x1,y1,addP,e1,hb]
  | true=>
   rw[hb] at e1
   cases r0 with
   | int k=>
    by_cases hk:0 < k
    ·have e2:=Zay r1 12 C h1
     have e3:=Zay r2 9 C h2
     cases hc:belB r1 12 with
     | false=>rw[hc] at e2;simp![F_qbl,x1,y1,addP,e1,hb,hsl,mAsg,hTup,hCons,hName,hNil,gtP,intP,hk,e2,hc]
     | true=>rw[hc] at e2;simp![F_qbl,x1,y1,addP,e1,hb,hsl,mAsg,hTup,hCons,hName,hNil,gtP,intP,hk,e2,e3,hc]
    ·have e2:=Zay r1 cls.length C h1
     rw[sp.len] at e2
     cases hc:belB r1 parts.length with
     | false=>rw[hc] at e2;simp![F_qbl,x1,y1,y3,addP,e1,hb,hsl,mAsg,hTup,hCons,hName,hNil,gtP,intP,hk,sl,e2,hc]
     | true=>
      rw[hc] at e2
      cases r1 with
      | int c=>
       have hc':=hc
       simp[belB] at hc'
       obtain ⟨cp,i1,i2⟩:=sp.ix c hc'.1 hc'.2
       have e3:=Zay r2 ((parts[c.toNat]?).getD 0) C h2
       by_cases ho:c=own
       ·subst ho
        simp![F_qbl,x1,y1,y3,addP,e1,hb,hsl,mAsg,hTup,hCons,hName,hNil,gtP,intP,hk,sl,e2,hc]
       ·simp![F_qbl,x1,y1,y3,addP,e1,hb,hsl,mAsg,hTup,hCons,hName,hNil,gtP,intP,hk,sl,e2,hc,ho,i1,i2,e3]
      | _=>cases hc
   | _=>cases hb
 | a::b::c::d::r,_=>
  have:¬((r.length:Int) + 1 + 1 + 1 + 1 + 1=4):=by lia
  simp![diB,F_qbl,this]
end
theorem x0_eq (t:PV)(r:List PV):ixQ (.tup (t::r)) (.int 0)=some t:=by
 simp[ixQ,ixP,atI,ixN]
section
variable (e f1 f2 f3:Addr)(hs os cls:List PV)(close:PV)(own:Int)(parts:List Int)(C:Cs)
theorem tab_eq (t:Str):(Zbb f1 f2 f3).lookup t=if t="joined" then some f1 else if t="said" then some f2 else if t="did" then some f3 else none:=by
 unfold Zbb
 simp only[YJ,List.lookup_nil]
 by_cases h1:t="joined"
 ·subst h1;rfl
 ·rw[if_neg h1,beq_eq_false_iff_ne.mpr h1]
  by_cases h2:t="said"
  ·subst h2;rfl
  ·rw[if_neg h2,beq_eq_false_iff_ne.mpr h2]
   by_cases h3:t="did"
   ·subst h3;rfl
   ·rw[if_neg h3,beq_eq_false_iff_ne.mpr h3]
theorem is_event_eq (d1:f2≠f1)(d2:f3≠f1)(d3:f3≠f2)(sp:Sp cls parts)(x:PV)(h:okv x=true)(hi:∀ps,x=.tup ps->ps.all okv=true):
  F_qbm e f1 f2 f3 [.v x,.v (.int own),.v (dlP hs os cls close)] C=some (.v (.bl (evB own hs.length os.length parts x)),C):=by
 have w1:(Za5 f1 f2 f3).lookup f1=some F_qbn:=by simp[Za5,YJ]
 have w2:(Za5 f1 f2 f3).lookup f2=some F_qbs:=by simp[Za5,YJ,beq_eq_false_iff_ne.mpr d1]
 have w3:(Za5 f1 f2 f3).lookup f3=some F_qbl:=by simp[Za5,YJ,beq_eq_false_iff_ne.mpr d2,beq_eq_false_iff_ne.mpr d3]
 cases x with
 | tup ps=>
  cases ps with
  | nil=>simp![F_qbm,evB]
  | cons p r=>
   have hr:r.all okv=true:=by have:=hi _ rfl;simp at this;simpa using this.2
   have x0:=x0_eq p r
   cases p with
   | str t=>
    have tb:=tab_eq f1 f2 f3 t
    have j1:=joined_eq hs os cls close own C t r hr
    have j2:=said_eq hs os cls close own C t r hr
    have j3:=did_eq hs os cls close own parts C sp t r hr
    have ev:evB own hs.length os.length parts (.tup (.str t::r))=evR t own hs.length os.length parts r:=rfl
    rw[ev]
    unfold evR
    generalize dlP hs os cls close=DL at *
    by_cases h1:t="joined"
    ·rw[if_pos h1] at tb ⊢
     generalize joB hs.length r=b at j1 ⊢
     simp![F_qbm,x0,topI,topG,tb,mCallV,callF,w1,j1]
    ·rw[if_neg h1] at tb ⊢
     by_cases h2:t="said"
     ·rw[if_pos h2] at tb ⊢
      generalize saB hs.length r=b at j2 ⊢
      simp![F_qbm,x0,topI,topG,tb,mCallV,callF,w2,j2]
     ·rw[if_neg h2] at tb ⊢
      by_cases h3:t="did"
      ·rw[if_pos h3] at tb ⊢
       generalize diB own os.length parts r=b at j3 ⊢
       simp![F_qbm,x0,topI,topG,tb,mCallV,callF,w3,j3]
      ·rw[if_neg h3] at tb ⊢
       simp![F_qbm,x0,topI,topG,tb]
   | dtt a b=>have:=hi _ rfl;simp[okv] at this
   | fn a=>have:=hi _ rfl;simp[okv] at this
   | ty a=>have:=hi _ rfl;simp[okv] at this
   | _=>simp![F_qbm,x0,evB]
 | dtt a b=>cases h
 | fn a=>cases h
 | ty a=>cases h
 | _=>simp![F_qbm,evB]
theorem get_eq (t:Str):getH2 (.dct [.str "joined",.str "said",.str "did"] [.int 2,.int 3,.int 4]) [.str t,.int 0]=some (.int (if t="joined" then 2 else if t="said" then 3 else if t="did" then 4 else 0)):=by
 unfold getH2
 simp only[keyP]
 unfold lookP
 by_cases h1:t="joined"
 ·subst h1;rfl
 ·rw[if_neg h1,if_neg (fun q=>h1 (by simpa[keyP] using q.symm))]
  unfold lookP
  by_cases h2:t="said"
  ·subst h2;rfl
  ·rw[if_neg h2,if_neg (fun q=>h2 (by simpa[keyP] using q.symm))]
   unfold lookP
   by_cases h3:t="did"
   ·subst h3;rfl
   ·rw[if_neg h3,if_neg (fun q=>h3 (by simpa[keyP] using q.symm))]
    rfl
end
theorem Za0 (a b:Int):deepP (fun p q=>!eqD p q) (.int a) (.int b)=some (.bl (!(a==b))):=by simp[deepP,dat,dep,eqD]
theorem Zbw (a b:Int):deepP eqD (.int a) (.int b)=some (.bl (a==b)):=by simp[deepP,dat,dep,eqD]
theorem dne_str (a b:Str):deepP (fun p q=>!eqD p q) (.str a) (.str b)=some (.bl (!(a==b))):=by simp[deepP,dat,dep,eqD]
theorem deq_str (a b:Str):deepP eqD (.str a) (.str b)=some (.bl (a==b)):=by simp[deepP,dat,dep,eqD]
theorem jd:¬(("joined":Str)="did"):=by decide
theorem sd:¬(("said":Str)="did"):=by decide
theorem sj:¬(("said":Str)="joined"):=by decide
theorem dict3 (C:Cs)(ρ:PSt):mDict ["joined","said","did"] (aCons 3e2 (aCons 6e9 (aCons 5e6 aNil))) ρ C=some (.v (.dct [.str "joined",.str "said",.str "did"] [.int 2,.int 3,.int 4]),C):=by
 simp[mDict,aCons,aNil,mC,bnd,opM,Pu.ret,Pu.plain]
abbrev ef0:PSt->M PF:=(mAsg 4e9 (hTup (hCons (hName 3) (hCons (hName 4) (hCons (hName 5) hNil))) 3))
abbrev ef1:PSt->M PF:=(mIfS (mOrT (mNotT (mTru (mCB (g1 isiH) (aCons 1e7 5e5)))) (mOrT (mTest (mOp (g2 (empP id)) 1e7 (mTup aNil))) (mNotT (mTru (mCB (g1 isiH) (aCons (mOp 2e7 1e7 2e6) (aCons (mC (.ty "str")) aNil))))))) 2e1 mSkip)
abbrev ef2:PSt->M PF:=(mIfS (mTest (mOp (g2 (deepP fun p q=>!eqD p q)) (mMt "dict" getH2 (mDict ["joined","said","did"] (aCons 3e2 (aCons 6e9 (aCons 5e6 aNil)))) (aCons (mOp 2e7 1e7 2e6) (aCons 2e6 aNil))) (mCB 6e0 5e2))) 2e1 mSkip)
abbrev ef3:PSt->M PF:=(mIfS (mTest (mOp (g2 (deepP fun p q=>!eqD p q)) (mOp 2e7 1e7 2e6) (mC (.str "did")))) (mRet (mAndV (mFn F_qaa (aCons (mOp 2e7 1e7 1e5) (aCons (mVar 3) aNil))) (mOrV (mOp (g2 (deepP eqD)) (mOp 2e7 1e7 2e6) (mC (.str "joined"))) (mFn F_qbc (aCons (mOp 2e7 1e7 3e2) aNil))))) mSkip)
abbrev ef4:PSt->M PF:=(mIfS (mNotT (mTru (mFn F_qaa (aCons (mOp 2e7 1e7 1e5) (aCons (mOp 6e7 7e0 1e5) aNil))))) 2e1 mSkip)
abbrev ef5:PSt->M PF:=(mIfS (mTest (mOp (g2 gtP) (mOp 2e7 1e7 1e5) 2e6)) (mRet (mAndV (mFn F_qaa (aCons (mOp 2e7 1e7 3e2) (aCons (mC (.int 12)) aNil))) (mFn F_qaa (aCons (mOp 2e7 1e7 6e9) (aCons (mC (.int 9)) aNil))))) mSkip)
abbrev ef6:PSt->M PF:=(mRet (mAndV (mFn F_qaa (aCons (mOp 2e7 1e7 3e2) (aCons (mCB 6e0 (aCons (mVar 5) aNil)) aNil))) (mAndV (mOp (g2 (deepP fun p q=>!eqD p q)) (mOp 2e7 1e7 3e2) 2e9) (mFn F_qaa (aCons (mOp 2e7 1e7 6e9) (aCons (mOp 2e7 (mVar 5) (mOp 2e7 1e7 3e2)) aNil))))))
theorem ef_is:B_qam=mSeq ef0 (mSeq ef1 (mSeq ef2 (mSeq ef3 (mSeq ef4 (mSeq ef5 ef6))))):=rfl
theorem ZbL {f g:PSt->M PF}{ρ ρ1:PSt}{C C1:Cs}(h:f ρ C=some (.nx ρ1,C1)):mSeq f g ρ C=g ρ1 C1:=by
 unfold mSeq bnd;rw[h]
theorem Zcs {f g:PSt->M PF}{ρ:PSt}{r:SV}{C C1:Cs}(h:f ρ C=some (.rt r,C1)):mSeq f g ρ C=some (.rt r,C1):=by
 unfold mSeq bnd;rw[h];rfl
noncomputable def gd (b:Bool)(ρ:PSt)(C:Cs):Option (PF×Cs):=if b then some (.nx ρ,C) else some (.rt (.v (.bl false)),C)
theorem len1 {r:List PV}(h:r.length=1):∃a,r=[a]:=by
 match r,h with
 | [a],_=>exact ⟨a,rfl⟩
theorem len2 {r:List PV}(h:r.length=2):∃a b,r=[a,b]:=by
 match r,h with
 | [a,b],_=>exact ⟨a,b,rfl⟩
theorem len3 {r:List PV}(h:r.length=3):∃a b c,r=[a,b,c]:=by
 match r,h with
 | [a,b,c],_=>exact ⟨a,b,c,rfl⟩
noncomputable def strHd:PV->Bool
 | .tup (.str _::_)=>true
 | _=>false
def didT (own:Int)(parts:List Int)(r1 r2:PV):Bool:=match r1 with
 | .int c=>decide (c≠own)&&belB r2 ((parts[c.toNat]?).getD 0)
 | _=>false
noncomputable def ari (t:Str):Int:=if t="joined" then 2 else if t="said" then 3 else if t="did" then 4 else 0
section
variable (A B D E F:Option SV)(C:Cs)
theorem ef1_eq (x:PV)(h:okv x=true)(hi:∀ps,x=.tup ps->ps.all okv=true):ef1 [#[x],A,B,D,E,F] C=gd (strHd x) [#[x],A,B,D,E,F] C:=by
 cases x with
 | tup ps=>
  cases ps with
  | nil=>simp![ef1,empP,strHd,gd]
  | cons p r=>
   have x0:=x0_eq p r
   cases p with
   | dtt a b=>have:=hi _ rfl;simp[okv] at this
   | fn a=>have:=hi _ rfl;simp[okv] at this
   | ty a=>have:=hi _ rfl;simp[okv] at this
   | _=>simp![ef1,empP,x0,strHd,gd]
 | dtt a b=>cases h
 | fn a=>cases h
 | ty a=>cases h
 | _=>simp![ef1,strHd,gd]
theorem ef2_eq (t:Str)(r:List PV):ef2 [#[.tup (.str t::r)],A,B,D,E,F] C=gd (decide (ari t=(r.length:Int) + 1)) [#[.tup (.str t::r)],A,B,D,E,F] C:=by
 have x0:=x0_eq (.str t) r
 have ge:=get_eq t
 have ge:getH2 (.dct [.str "joined",.str "said",.str "did"] [.int 2,.int 3,.int 4]) [.str t,.int 0]=some (.int (ari t)):=ge
 generalize ari t=n at *
 by_cases q:n=(r.length:Int) + 1<;>simp![ef2,x0,dict3,ge,Za0,q,gd]
theorem ari_not {own hn on:Int}{parts:List Int}{t:Str}{r:List PV}(h:ari t≠(r.length:Int) + 1):evR t own hn on parts r=false:=by
 unfold ari at h
 unfold evR
 by_cases h1:t="joined"
 ·rw[if_pos h1] at h ⊢
  match r,h with
  | [],_=>rfl
  | [a],h=>exact absurd rfl h
  | a::b::r,_=>rfl
 ·rw[if_neg h1] at h ⊢
  by_cases h2:t="said"
  ·rw[if_pos h2] at h ⊢
   match r,h with
   | [],_=>rfl
   | [a],_=>rfl
   | [a,b],h=>exact absurd rfl h
   | a::b::c::r,_=>rfl
  ·rw[if_neg h2] at h ⊢
   by_cases h3:t="did"
   ·rw[if_pos h3] at h ⊢
    match r,h with
    | [],_=>rfl
    | [a],_=>rfl
    | [a,b],_=>rfl
    | [a,b,c],h=>exact absurd rfl h
    | a::b::c::d::r,_=>rfl
   ·rw[if_neg h3]
theorem ef3_jo (hn:Int)(r0:PV)(h0:okv r0=true):ef3 [#[.tup [.str "joined",r0]],A,B,#[.int hn],E,F] C=some (.rt (.v (.bl (belB r0 hn))),C):=by
 have x0:=x0_eq (.str "joined") [r0]
 have x1:ixQ (.tup [PV.str "joined",r0]) (.int 1)=some r0:=rfl
 have e1:=ZaT r0 hn C h0
 generalize belB r0 hn=b at *
 cases b<;>simp![ef3,x0,dne_str,deq_str,jd,x1,e1]
theorem ef3_sa (hn:Int)(r0 r1:PV)(h0:okv r0=true)(h1:okv r1=true):ef3 [#[.tup [.str "said",r0,r1]],A,B,#[.int hn],E,F] C=some (.rt (.v (.bl (belB r0 hn&&wordP r1))),C):=by
 have x0:=x0_eq (.str "said") [r0,r1]
 have x1:ixQ (.tup [PV.str "said",r0,r1]) (.int 1)=some r0:=rfl
 have x2:ixQ (.tup [PV.str "said",r0,r1]) (.int 2)=some r1:=rfl
 have e1:=ZaT r0 hn C h0
 have e2:=l_word_eq r1 C h1
 generalize belB r0 hn=b at *
 cases b<;>simp![ef3,x0,dne_str,deq_str,sd,sj,x1,x2,e1,e2]
theorem ef3_di (r:List PV):ef3 [#[.tup (.str "did"::r)],A,B,D,E,F] C=some (.nx [#[.tup (.str "did"::r)],A,B,D,E,F],C):=by
 have x0:=x0_eq (.str "did") r
 simp![ef3,x0,dne_str]
theorem ef4_eq (on:Int)(r0 r1 r2:PV)(h0:okv r0=true):ef4 [#[.tup [.str "did",r0,r1,r2]],A,B,D,#[.int on],F] C=gd (belB r0 (on + 1)) [#[.tup [.str "did",r0,r1,r2]],A,B,D,#[.int on],F] C:=by
 have x1:ixQ (.tup [PV.str "did",r0,r1,r2]) (.int 1)=some r0:=rfl
 have e1:=ZaT r0 (on + 1) C h0
 generalize belB r0 (on + 1)=b at *
 cases b<;>simp![ef4,x1,addP,e1,gd]
theorem ef5_eq (k:Int)(r1 r2:PV)(h1:okv r1=true)(h2:okv r2=true):ef5 [#[.tup [.str "did",.int k,r1,r2]],A,B,D,E,F] C=if 0 < k then some (.rt (.v (.bl (belB r1 12&&belB r2 9))),C) else some (.nx [#[.tup [.str "did",.int k,r1,r2]],A,B,D,E,F],C):=by
 have x1:ixQ (.tup [PV.str "did",.int k,r1,r2]) (.int 1)=some (.int k):=rfl
 have x2:ixQ (.tup [PV.str "did",.int k,r1,r2]) (.int 2)=some r1:=rfl
 have x3:ixQ (.tup [PV.str "did",.int k,r1,r2]) (.int 3)=some r2:=rfl
 have e1:=ZaT r1 12 C h1
 have e2:=ZaT r2 9 C h2
 by_cases hk:0 < k
 ·generalize belB r1 12=b at *
  cases b<;>simp![ef5,x1,x2,x3,gtP,hk,e1,e2]
 ·simp![ef5,x1,gtP,hk]
theorem ef6_eq (own:Int)(parts:List Int){cls:List PV}(sp:Sp cls parts)(k:PV)(r1 r2:PV)(h1:okv r1=true)(h2:okv r2=true):ef6 [#[.tup [.str "did",k,r1,r2]],#[.int own],B,D,E,#[.lst (parts.map .int)]] C=some (.rt (.v (.bl (belB r1 parts.length&&didT own parts r1 r2))),C):=by
 have x2:ixQ (.tup [PV.str "did",k,r1,r2]) (.int 2)=some r1:=rfl
 have x3:ixQ (.tup [PV.str "did",k,r1,r2]) (.int 3)=some r2:=rfl
 have lp:lenH [.lst (parts.map PV.int)]=some (.int parts.length):=by simp[lenH]
 have e1:=ZaT r1 parts.length C h1
 cases hc:belB r1 parts.length with
 | false=>
  rw[hc] at e1
  generalize parts.map PV.int=PS at *
  simp[ef6,mRet,mAndV,mCB,mOp,mFn,bnd,opM,aCons,aNil,mVar,mC,Pu.ret,g1,g2,derefs,deref,mB,asB,truP,x2,lp,e1]
 | true=>
  rw[hc] at e1
  cases r1 with
  | int c=>
   have hc':=hc
   simp[belB] at hc'
   have i1:=sp.sz c hc'.1 hc'.2
   have e3:=ZaT r2 ((parts[c.toNat]?).getD 0) C h2
   generalize parts.map PV.int=PS at *
   by_cases ho:c=own
   ·subst ho
    simp[ef6,mRet,mAndV,mCB,mOp,mFn,bnd,opM,aCons,aNil,mVar,mC,Pu.ret,g1,g2,derefs,deref,mB,asB,truP,x2,lp,e1,Za0,didT]
   ·simp[ef6,mRet,mAndV,mCB,mOp,mFn,bnd,opM,aCons,aNil,mVar,mC,Pu.ret,g1,g2,derefs,deref,mB,asB,truP,x2,x3,lp,e1,Za0,didT,ho,i1,e3]
  | _=>cases hc
end
section
variable (hn on:Int)(own:Int)(parts:List Int)(C:Cs)
noncomputable abbrev shP:PV:=.tup [.int hn,.int on,.lst (parts.map .int)]
theorem ev_fits_eq {cls:List PV}(sp:Sp cls parts)(x:PV)(h:okv x=true)(hi:∀ps,x=.tup ps->ps.all okv=true):
  F_qam [.v x,.v (.int own),.v (shP hn on parts)] C=some (.v (.bl (evB own hn on parts x)),C):=by
 have s0:ef0 [#[x],#[.int own],#[shP hn on parts],none,none,none] C=some (.nx [#[x],#[.int own],#[shP hn on parts],#[.int hn],#[.int on],#[.lst (parts.map .int)]],C):=by
  simp[ef0,mAsg,hTup,hCons,hName,hNil,mVar,bnd,deref,Pu.ret]
 have key:mSeq ef0 (mSeq ef1 (mSeq ef2 (mSeq ef3 (mSeq ef4 (mSeq ef5 ef6))))) [#[x],#[.int own],#[shP hn on parts],none,none,none] C=some (.rt (.v (.bl (evB own hn on parts x))),C):=by
  rw[ZbL s0]
  generalize hSH:some (SV.v (shP hn on parts))=SH
  have s1:=ef1_eq #[.int own] SH #[.int hn] #[.int on] #[.lst (parts.map .int)] C x h hi
  cases hs:strHd x with
  | false=>
   rw[hs] at s1
   rw[Zcs s1]
   have:evB own hn on parts x=false:=by
    unfold evB
    split
    ·cases hs
    ·rfl
   rw[this]
  | true=>
   rw[hs] at s1
   rw[ZbL s1]
   obtain ⟨t,r,rfl⟩:∃t r,x=.tup (.str t::r):=by
    unfold strHd at hs
    split at hs
    ·exact ⟨_,_,rfl⟩
    ·cases hs
   have hr:r.all okv=true:=by have:=hi _ rfl;simp at this;simpa using this.2
   have ev:evB own hn on parts (.tup (.str t::r))=evR t own hn on parts r:=rfl
   rw[ev]
   have s2:=ef2_eq #[.int own] SH #[.int hn] #[.int on] #[.lst (parts.map .int)] C t r
   by_cases ha:ari t=(r.length:Int) + 1
   ·rw[decide_eq_true ha] at s2
    rw[ZbL s2]
    unfold evR
    by_cases h1:t="joined"
    ·subst h1
     rw[if_pos rfl]
     have hl:r.length=1:=by have:(2:Int)=(r.length:Int) + 1:=ha;lia
     obtain ⟨r0,rfl⟩:=len1 hl
     exact Zcs (ef3_jo _ _ _ _ C hn r0 (by simpa using hr))
    ·rw[if_neg h1]
     by_cases h2:t="said"
     ·subst h2
      rw[if_pos rfl]
      have hl:r.length=2:=by have:(3:Int)=(r.length:Int) + 1:=ha;lia
      obtain ⟨r0,r1,rfl⟩:=len2 hl
      have hr:okv r0=true/\okv r1=true:=by simpa using hr
      exact Zcs (ef3_sa _ _ _ _ C hn r0 r1 hr.1 hr.2)
     ·rw[if_neg h2]
      by_cases h3:t="did"
      ·subst h3
       rw[if_pos rfl]
       have hl:r.length=3:=by have:(4:Int)=(r.length:Int) + 1:=ha;lia
       obtain ⟨r0,r1,r2,rfl⟩:=len3 hl
       obtain ⟨o0,o1,o2⟩:okv r0=true/\okv r1=true/\okv r2=true:=by simpa using hr
       rw[ZbL (ef3_di _ _ _ _ _ C [r0,r1,r2])]
       have s4:=ef4_eq #[.int own] SH #[.int hn] #[.lst (parts.map .int)] C on r0 r1 r2 o0
       show _=some (PF.rt (.v (.bl (didB own on parts r0 r1 r2))),C)
       unfold didB
       cases hb:belB r0 (on + 1) with
       | false=>rw[hb] at s4;rw[Zcs s4];rfl
       | true=>
        rw[hb] at s4
        rw[ZbL s4]
        cases r0 with
        | int k=>
         have s5:=ef5_eq #[.int own] SH #[.int hn] #[.int on] #[.lst (parts.map .int)] C k r1 r2 o1 o2
         dsimp only
         rw[XV]
         by_cases hk:0 < k
         ·rw[if_pos hk] at s5
          rw[Zcs s5,if_pos hk]
         ·rw[if_neg hk] at s5
          rw[ZbL s5,if_neg hk]
          exact ef6_eq SH #[.int hn] #[.int on] C own parts sp (.int k) r1 r2 o1 o2
        | _=>cases hb
      ·exact absurd ha (by unfold ari;rw[if_neg h1,if_neg h2,if_neg h3];lia)
   ·rw[decide_eq_false ha] at s2
    rw[Zcs s2,ari_not ha]
 unfold F_qam
 rw[ef_is]
 show (match mSeq _ _ [some (.v x),some (.v (.int own)),some (.v (shP hn on parts)),none,none,none] C with
  | some (.rt r,C')=>fin C.length C' r
  | some (.nx _,C')=>some (.v .non,C'.take C.length)
  | some (.rf ps,C')=>some (.v 6e6,C'.take C.length)
  | some (.rq qs,C')=>(finQ C.length C' qs).map fun ps=>(.v 5e9,C'.take C.length)
  | _=>none)=_
 rw[key]
 simp[fin]
end
def lvB:PV->Bool
 | .tup []=>true
 | .tup [_,n]=>numB n 1
 | _=>false
noncomputable def csB:PV->Bool
 | .tup l=>decide ((l.length:Int)<=8)
 | _=>false
noncomputable def ptB:PV->Bool
 | .int i=>decide (1<=i)&&decide (i<=9)
 | _=>false
noncomputable def unB:PV->PV->Bool
 | .int a,.int b=>decide (a≠b)
 | _,_=>false
def cl6 (h:Int)(d c p w cs lv:PV):Bool:=belB d h&&belB c h&&unB d c&&ptB p&&numB w 1&&csB cs&&lvB lv
def clB (h:Int):PV->Bool
 | .tup [d,c,p,w,cs,lv]=>cl6 h d c p w cs lv
 | _=>false
theorem clB_not (h:Int)(ps:List PV)(hl:ps.length≠6):clB h 5e9=false:=by
 unfold clB
 split
 ·rename_i e;cases e;simp at hl
 ·rfl
theorem Zdc (x:PV)(a b:Int)(C:Cs)(h:okv x=true):F_qbr [.v x,.v (.int a),.v (.int b)] C=some (.v (.bl (match x with | .tup ps=>decide (a<=(ps.length:Int))&&decide ((ps.length:Int)<=b) | _=>false)),C):=by
 cases x with
 | tup ps=>exact row_tup ps a b C
 | dtt a b=>cases h
 | fn a=>cases h
 | ty a=>cases h
 | _=>exact row_not _ a b C h rfl
theorem leave_eq (x:PV)(C:Cs)(h:okv x=true)(hi:∀ps,x=.tup ps->ps.all okv=true):F_qbo [.v x] C=some (.v (.bl (lvB x)),C):=by
 have r0:=Zdc x 0 0 C h
 have r2:=Zdc x 2 2 C h
 cases x with
 | tup ps=>
  match ps,hi with
  | [],_=>simp at r0;simp![F_qbo,r0,lvB]
  | [a],_=>simp at r0 r2;simp![F_qbo,r0,r2,lvB]
  | [a,n],hi=>
   have hn:okv n=true:=by have:=hi _ rfl;simp at this;exact this.2
   have x1:ixQ (.tup [a,n]) (.int 1)=some n:=rfl
   have e:=Za4 n 1 C hn
   simp at r0 r2
   simp![F_qbo,r0,r2,x1,e,lvB]
  | a::b::c::r,_=>
   have q1:¬((r.length:Int) + 1 + 1 + 1<=0):=by lia
   have q2:¬((r.length:Int) + 1 + 1 + 1<=2):=by lia
   simp[q1,q2] at r0 r2
   simp![F_qbo,r0,r2,lvB]
 | dtt a b=>cases h
 | fn a=>cases h
 | ty a=>cases h
 | _=>simp at r0 r2;simp![F_qbo,r0,r2,lvB]
abbrev ic0:PSt->M PF:=(mIfS (mNotT (mTru (mFn F_qbr (aCons 1e7 (aCons (mC (.int 6)) (aCons (mC (.int 6)) aNil)))))) 2e1 mSkip)
abbrev ic1:PSt->M PF:=(mAsg 1e7 (hTup (hCons (hName 2) (hCons (hName 3) (hCons (hName 4) (hCons (hName 5) (hCons (hName 6) (hCons (hName 7) hNil)))))) 6))
abbrev ic2:PSt->M PF:=(mIfS (mOrT (mNotT (mTru (mFn F_qbq (aCons 4e9 6e3)))) (mOrT (mNotT (mTru (mFn F_qbq (aCons (mVar 3) 6e3)))) (mTest (mOp (g2 eqP) 4e9 (mVar 3))))) 2e1 mSkip)
abbrev ic3:PSt->M PF:=(mIfS (mOrT (mNotT (mTru (mFn F_qbp (aCons 7e0 (aCons 1e5 aNil))))) (mOrT (mTest (mOp (g2 gtP) 7e0 (mC (.int 9)))) (mNotT (mTru (mFn F_qbp (aCons (mVar 5) (aCons 1e5 aNil))))))) 2e1 mSkip)
abbrev ic4:PSt->M PF:=(mRet (mAndV (mFn F_qbr (aCons (mVar 6) (aCons 2e6 4e2))) (mFn F_qbo (aCons (mVar 7) aNil))))
theorem ic_is:B_qbj=mSeq ic0 (mSeq ic1 (mSeq ic2 (mSeq ic3 ic4))):=rfl
section
variable (X H P W CS LV D E:Option SV)(C:Cs)
theorem ic2_eq (h:Int)(d c:PV)(od:okv d=true)(oc:okv c=true):ic2 [X,#[.int h],#[d],#[c],P,W,CS,LV] C=gd (belB d h&&belB c h&&unB d c) [X,#[.int h],#[d],#[c],P,W,CS,LV] C:=by
 have e1:=Zay d h C od
 have e2:=Zay c h C oc
 cases b1:belB d h with
 | false=>rw[b1] at e1;simp![ic2,e1,gd]
 | true=>
  rw[b1] at e1
  cases b2:belB c h with
  | false=>rw[b2] at e2;simp![ic2,e1,e2,gd]
  | true=>
   rw[b2] at e2
   cases d with
   | int dd=>
    cases c with
    | int cc=>by_cases q:dd=cc<;>simp![ic2,e1,e2,unB,q,gd]
    | _=>cases b2
   | _=>cases b1
theorem ic3_eq (p w:PV)(op:okv p=true)(ow:okv w=true):ic3 [X,H,D,E,#[p],#[w],CS,LV] C=gd (ptB p&&numB w 1) [X,H,D,E,#[p],#[w],CS,LV] C:=by
 have e3:=Za4 p 1 C op
 have e4:=Za4 w 1 C ow
 cases b3:numB p 1 with
 | false=>
  have:ptB p=false:=by
   cases p with
   | int i=>simp[numB] at b3;simp[ptB];lia
   | _=>rfl
  rw[b3] at e3;rw[this];simp![ic3,e3,gd]
 | true=>
  rw[b3] at e3
  cases p with
  | int pp=>
   have p1:1<=pp:=by simpa[numB] using b3
   by_cases p9:9 < pp
   ·have p9':¬pp<=9:=by lia
    simp![ic3,e3,gtP,p9,p9',ptB,gd]
   ·have p9':pp<=9:=by lia
    generalize numB w 1=b at *
    cases b<;>simp![ic3,e3,gtP,p9,p9',p1,ptB,e4,gd]
  | _=>cases b3
theorem ic4_eq (cs lv:PV)(oc:okv cs=true)(ol:okv lv=true)(hi:∀ps,lv=.tup ps->ps.all okv=true):ic4 [X,H,D,E,P,W,#[cs],#[lv]] C=some (.rt (.v (.bl (csB cs&&lvB lv))),C):=by
 have e5:=Zdc cs 0 8 C oc
 have e6:=leave_eq lv C ol hi
 have e5':F_qbr [.v cs,.v (.int 0),.v (.int 8)] C=some (.v (.bl (csB cs)),C):=by
  rw[e5];congr 4;cases cs<;>simp[csB]
 generalize csB cs=b at *
 cases b<;>simp[ic4,mRet,mAndV,mFn,bnd,opM,aCons,aNil,mVar,mC,Pu.ret,mB,asB,e5',e6]
end
theorem is_clause_eq (x:PV)(h:Int)(C:Cs)(hx:okv x=true)(hi:∀ps,x=.tup ps->ps.all okv=true/\∀p∈ps,∀qs,p=.tup qs->qs.all okv=true):F_qbj [.v x,.v (.int h)] C=some (.v (.bl (clB h x)),C):=by
 have r6:=Zdc x 6 6 C hx
 cases x with
 | tup ps=>
  by_cases hl:ps.length=6
  ·match ps,hl,hi with
   | [d,c,p,w,cs,lv],_,hi=>
    obtain ⟨ho,hq⟩:=hi _ rfl
    obtain ⟨od,oc,op,ow,ocs,ol⟩:okv d=true/\okv c=true/\okv p=true/\okv w=true/\okv cs=true/\okv lv=true:=by simpa using ho
    simp at r6
    have ec:clB h (.tup [d,c,p,w,cs,lv])=cl6 h d c p w cs lv:=rfl
    rw[ec]
    have s0:ic0 [#[.tup [d,c,p,w,cs,lv]],#[.int h],none,none,none,none,none,none] C=some (.nx [#[.tup [d,c,p,w,cs,lv]],#[.int h],none,none,none,none,none,none],C):=by
     simp[ic0,mIfS,mNotT,mTru,mFn,bnd,aCons,aNil,mVar,mC,Pu.ret,mB,asB,truP,deref,mSkip,opM,r6]
    have s1:ic1 [#[.tup [d,c,p,w,cs,lv]],#[.int h],none,none,none,none,none,none] C=some (.nx [#[.tup [d,c,p,w,cs,lv]],#[.int h],#[d],#[c],#[p],#[w],#[cs],#[lv]],C):=by
     simp![ic1,mAsg,hTup,hCons,hName,hNil]
    have key:mSeq ic0 (mSeq ic1 (mSeq ic2 (mSeq ic3 ic4))) [#[.tup [d,c,p,w,cs,lv]],#[.int h],none,none,none,none,none,none] C=some (.rt (.v (.bl (cl6 h d c p w cs lv))),C):=by
     rw[ZbL s0,ZbL s1]
     have s2:=ic2_eq #[.tup [d,c,p,w,cs,lv]] #[p] #[w] #[cs] #[lv] C h d c od oc
     have s3:=ic3_eq #[.tup [d,c,p,w,cs,lv]] #[.int h] #[cs] #[lv] #[d] #[c] C p w op ow
     have s4:=ic4_eq #[.tup [d,c,p,w,cs,lv]] #[.int h] #[p] #[w] #[d] #[c] C cs lv ocs ol (hq lv 3e4)
     unfold cl6
     cases b2:belB d h&&belB c h&&unB d c with
     | false=>rw[b2] at s2;rw[Zcs s2];rfl
     | true=>
      rw[b2] at s2
      rw[ZbL s2,XV]
      cases b3:ptB p&&numB w 1 with
      | false=>rw[b3] at s3;rw[Zcs s3];rfl
      | true=>
       rw[b3] at s3
       rw[ZbL s3,XV]
       exact s4
    unfold F_qbj
    rw[ic_is]
    show (match mSeq _ _ [some (.v (.tup [d,c,p,w,cs,lv])),some (.v (.int h)),none,none,none,none,none,none] C with
     | some (.rt r,C')=>fin C.length C' r
     | some (.nx _,C')=>some (.v .non,C'.take C.length)
     | some (.rf ps,C')=>some (.v 6e6,C'.take C.length)
     | some (.rq qs,C')=>(finQ C.length C' qs).map fun ps=>(.v 5e9,C'.take C.length)
     | _=>none)=_
    rw[key]
    simp[fin]
  ·rw[clB_not h ps hl]
   have q:(decide ((6:Int)<=(ps.length:Int))&&decide ((ps.length:Int)<=6))=false:=by
    by_cases z:(6:Int)<=(ps.length:Int)
    ·have:¬((ps.length:Int)<=6):=by lia
     simp[this]
    ·simp[z]
   dsimp only at r6
   rw[q] at r6
   simp![F_qbj,r6]
 | dtt a b=>cases hx
 | fn a=>cases hx
 | ty a=>cases hx
 | _=>simp at r6;simp![F_qbj,r6,clB]
abbrev cf0:PSt->M PF:=(mIfS (mOrT (mNotT (mTru (mCB (g1 isiH) (aCons 1e7 5e5)))) (mTest (mOp (g2 (deepP fun p q=>!eqD p q)) (mCB 6e0 5e2) (mC (.int 6))))) 2e1 mSkip)
abbrev cf1:PSt->M PF:=(mAsg 1e7 (hTup (hCons (hName 2) (hCons (hName 3) (hCons (hName 4) (hCons (hName 5) (hCons (hName 6) (hCons (hName 7) hNil)))))) 6))
abbrev cf2:PSt->M PF:=(mIfS (mOrT (mNotT (mTru (mFn F_qaa (aCons 4e9 6e3)))) (mOrT (mNotT (mTru (mFn F_qaa (aCons (mVar 3) 6e3)))) (mTest (mOp (g2 (deepP eqD)) 4e9 (mVar 3))))) 2e1 mSkip)
abbrev cf3:PSt->M PF:=(mIfS (mOrT (mNotT (mTru (mFn F_qaa (aCons 7e0 (aCons (mC (.int 10)) aNil))))) (mOrT (mTest (mOp (g2 (deepP eqD)) 7e0 2e6)) (mOrT (mNotT (mTru (mFn F_qba (aCons (mVar 5) aNil)))) (mTest (mOp (g2 (deepP eqD)) (mVar 5) 2e6))))) 2e1 mSkip)
abbrev cf4:PSt->M PF:=(mIfS (mOrT (mNotT (mTru (mCB (g1 isiH) (aCons (mVar 6) 5e5)))) (mOrT (mTest (mOp (g2 gtP) (mCB 6e0 (aCons (mVar 6) aNil)) (mC (.int 8)))) (mNotT (mTru (mCB (g1 isiH) (aCons (mVar 7) 5e5)))))) 2e1 mSkip)
abbrev cf5:PSt->M PF:=(mRet (mOrV (mOp (g2 (empP id)) (mVar 7) (mTup aNil)) (mAndV (mOp (g2 (deepP eqD)) (mCB 6e0 (aCons (mVar 7) aNil)) 3e2) (mAndV (mFn F_qba (aCons (mOp 2e7 (mVar 7) 1e5) aNil)) (mOp (g2 gtP) (mOp 2e7 (mVar 7) 1e5) 2e6)))))
theorem cf_is:B_qae=mSeq cf0 (mSeq cf1 (mSeq cf2 (mSeq cf3 (mSeq cf4 cf5)))):=rfl
section
variable (X H P W CS LV D E:Option SV)(C:Cs)
theorem cf2_eq (h:Int)(d c:PV)(od:okv d=true)(oc:okv c=true):cf2 [X,#[.int h],#[d],#[c],P,W,CS,LV] C=gd (belB d h&&belB c h&&unB d c) [X,#[.int h],#[d],#[c],P,W,CS,LV] C:=by
 have e1:=ZaT d h C od
 have e2:=ZaT c h C oc
 cases b1:belB d h with
 | false=>rw[b1] at e1;simp![cf2,e1,gd]
 | true=>
  rw[b1] at e1
  cases b2:belB c h with
  | false=>rw[b2] at e2;simp![cf2,e1,e2,gd]
  | true=>
   rw[b2] at e2
   cases d with
   | int dd=>
    cases c with
    | int cc=>by_cases q:dd=cc<;>simp![cf2,e1,e2,Zbw,unB,q,gd]
    | _=>cases b2
   | _=>cases b1
theorem pt_bel {p:PV}(h:belB p 10=false):ptB p=false:=by
 cases p with
 | int i=>
  cases q:ptB (.int i) with
  | false=>rfl
  | true=>
   simp[ptB] at q
   have:belB (.int i) 10=true:=by simp[belB];lia
   rw[this] at h;cases h
 | _=>rfl
theorem num01 {p:PV}(h:numB p 0=false):numB p 1=false:=by
 cases p with
 | int i=>
  cases q:numB (.int i) 1 with
  | false=>rfl
  | true=>
   simp[numB] at q
   have:numB (.int i) 0=true:=by simp[numB];lia
   rw[this] at h;cases h
 | _=>rfl
theorem cf3_eq (p w:PV)(op:okv p=true)(ow:okv w=true):cf3 [X,H,D,E,#[p],#[w],CS,LV] C=gd (ptB p&&numB w 1) [X,H,D,E,#[p],#[w],CS,LV] C:=by
 have e3:=ZaT p 10 C op
 have e4:=Zbt w C ow
 cases b3:belB p 10 with
 | false=>rw[b3] at e3;rw[pt_bel b3];simp![cf3,e3,gd]
 | true=>
  rw[b3] at e3
  cases p with
  | int pp=>
   by_cases p0:pp=0
   ·subst p0;simp![cf3,e3,Zbw,ptB,gd]
   ·have pz:ptB (.int pp)=true:=by simp[belB] at b3;simp[ptB];lia
    rw[pz,XV]
    cases b4:numB w 0 with
    | false=>rw[b4] at e4;rw[num01 b4];simp![cf3,e3,Zbw,p0,e4,gd]
    | true=>
     rw[b4] at e4
     cases w with
     | int ww=>
      by_cases w0:ww=0
      ·subst w0;simp![cf3,e3,Zbw,p0,e4,numB,gd]
      ·have wz:numB (.int ww) 1=true:=by simp[numB] at b4 ⊢;lia
       rw[wz];simp![cf3,e3,Zbw,p0,e4,w0,gd]
     | _=>cases b4
  | _=>cases b3
theorem cf4_eq (cs lv:PV)(oc:okv cs=true)(ol:okv lv=true):cf4 [X,H,D,E,P,W,#[cs],#[lv]] C=gd (csB cs&&isT lv) [X,H,D,E,P,W,#[cs],#[lv]] C:=by
 cases cs with
 | tup l=>
  by_cases l8:(l.length:Int)<=8
  ·have l9:¬(8:Int) < l.length:=by lia
   cases lv with
   | dtt a b=>cases ol
   | fn a=>cases ol
   | ty a=>cases ol
   | _=>simp![cf4,csB,l8,l9,gtP,intP,isT,gd]
  ·have l9:(8:Int) < l.length:=by lia
   simp![cf4,csB,l8,l9,gtP,intP,gd]
 | dtt a b=>cases oc
 | fn a=>cases oc
 | ty a=>cases oc
 | _=>simp![cf4,csB,gd]
theorem cf5_eq (vs:List PV)(hv:vs.all okv=true):cf5 [X,H,D,E,P,W,CS,#[.tup vs]] C=some (.rt (.v (.bl (lvB (.tup vs)))),C):=by
 match vs,hv with
 | [],_=>simp![cf5,empP,lvB]
 | [a],_=>simp![cf5,empP,lvB,Zbw]
 | [a,n],hv=>
  have hn:okv n=true:=by simp at hv;exact hv.2
  have x1:ixQ (.tup [a,n]) (.int 1)=some n:=rfl
  have e:=Zbt n C hn
  have el:lvB (.tup [a,n])=numB n 1:=rfl
  rw[el]
  cases b:numB n 0 with
  | false=>rw[b] at e;rw[num01 b];simp![cf5,empP,Zbw,x1,e]
  | true=>
   rw[b] at e
   cases n with
   | int nn=>
    have q:(decide (0 < nn))=numB (.int nn) 1:=by simp only[numB];congr 1
    simp![cf5,empP,Zbw,x1,e,gtP,←q]
   | _=>cases b
 | a::b::c::r,_=>
  have hne:¬((r.length:Int) + 1 + 1 + 1=2):=by lia
  simp![cf5,empP,Zbw,hne,lvB]
end
theorem Zc9 (x:PV)(h:Int)(C:Cs)(hx:okv x=true)(hi:∀ps,x=.tup ps->ps.all okv=true/\∀p∈ps,∀qs,p=.tup qs->qs.all okv=true):F_qae [.v x,.v (.int h)] C=some (.v (.bl (clB h x)),C):=by
 cases x with
 | tup ps=>
  by_cases hl:ps.length=6
  ·match ps,hl,hi with
   | [d,c,p,w,cs,lv],_,hi=>
    obtain ⟨ho,hq⟩:=hi _ rfl
    obtain ⟨od,oc,op,ow,ocs,ol⟩:okv d=true/\okv c=true/\okv p=true/\okv w=true/\okv cs=true/\okv lv=true:=by simpa using ho
    have ec:clB h (.tup [d,c,p,w,cs,lv])=cl6 h d c p w cs lv:=rfl
    rw[ec]
    have s0:cf0 [#[.tup [d,c,p,w,cs,lv]],#[.int h],none,none,none,none,none,none] C=some (.nx [#[.tup [d,c,p,w,cs,lv]],#[.int h],none,none,none,none,none,none],C):=by
     simp![cf0,Za0]
    have s1:cf1 [#[.tup [d,c,p,w,cs,lv]],#[.int h],none,none,none,none,none,none] C=some (.nx [#[.tup [d,c,p,w,cs,lv]],#[.int h],#[d],#[c],#[p],#[w],#[cs],#[lv]],C):=by
     simp![cf1,mAsg,hTup,hCons,hName,hNil]
    have key:mSeq cf0 (mSeq cf1 (mSeq cf2 (mSeq cf3 (mSeq cf4 cf5)))) [#[.tup [d,c,p,w,cs,lv]],#[.int h],none,none,none,none,none,none] C=some (.rt (.v (.bl (cl6 h d c p w cs lv))),C):=by
     rw[ZbL s0,ZbL s1]
     have s2:=cf2_eq #[.tup [d,c,p,w,cs,lv]] #[p] #[w] #[cs] #[lv] C h d c od oc
     have s3:=cf3_eq #[.tup [d,c,p,w,cs,lv]] #[.int h] #[cs] #[lv] #[d] #[c] C p w op ow
     have s4:=cf4_eq #[.tup [d,c,p,w,cs,lv]] #[.int h] #[p] #[w] #[d] #[c] C cs lv ocs ol
     unfold cl6
     cases b2:belB d h&&belB c h&&unB d c with
     | false=>rw[b2] at s2;rw[Zcs s2];rfl
     | true=>
      rw[b2] at s2
      rw[ZbL s2,XV]
      cases b3:ptB p&&numB w 1 with
      | false=>rw[b3] at s3;rw[Zcs s3];rfl
      | true=>
       rw[b3] at s3
       rw[ZbL s3,XV]
       cases b4:csB cs with
       | false=>rw[b4] at s4;rw[Zcs s4];rfl
       | true=>
        rw[b4,XV] at s4
        cases lv with
        | tup vs=>rw[ZbL s4,XV];exact cf5_eq _ _ _ _ _ _ _ C vs (hq (.tup vs) 3e4 vs rfl)
        | _=>rw[Zcs s4];rfl
    unfold F_qae
    rw[cf_is]
    show (match mSeq _ _ [some (.v (.tup [d,c,p,w,cs,lv])),some (.v (.int h)),none,none,none,none,none,none] C with
     | some (.rt r,C')=>fin C.length C' r
     | some (.nx _,C')=>some (.v .non,C'.take C.length)
     | some (.rf ps,C')=>some (.v 6e6,C'.take C.length)
     | some (.rq qs,C')=>(finQ C.length C' qs).map fun ps=>(.v 5e9,C'.take C.length)
     | _=>none)=_
    rw[key]
    simp[fin]
  ·rw[clB_not h ps hl]
   have q:¬((ps.length:Int)=6):=by lia
   simp![F_qae,Za0,q]
 | dtt a b=>cases hx
 | fn a=>cases hx
 | ty a=>cases hx
 | _=>simp![F_qae,clB]
mutual
noncomputable def okA:PV->Bool
 | .tup ps=>okAs ps
 | .lst ps=>okAs ps
 | .dtt _ _=>false
 | .fn _=>false
 | .ty _=>false
 | _=>true
noncomputable def okAs:List PV->Bool
 | []=>true
 | p::ps=>okA p&&okAs ps
end
theorem Zce {p:PV}(h:okA p=true):okv p=true:=by cases p<;>first | rfl | (unfold okA at h;cases h)
theorem Zcx:∀{ps:List PV},okAs ps=true↔∀p∈ps,okA p=true
 | []=>⟨(fun _ _ h=>(nomatch h)),fun _=>rfl⟩
 | p::ps=>by
  unfold okAs
  rw[Yd,Zcx (ps:=ps)]
  constructor
  ·rintro ⟨a,b⟩ q hq
   rcases Yn.mp hq with rfl | hq
   ·exact a
   ·exact b q hq
  ·intro h;exact ⟨h p 3e4,fun q hq=>h q (by simp[hq])⟩
theorem Za2 {ps:List PV}(h:okA 5e9=true):∀p∈ps,okA p=true:=Zcx.mp (by unfold okA at h;exact h)
theorem okA_all {ps:List PV}(h:okA 5e9=true):ps.all okv=true:=Yt.mpr fun p hp=>Zce (Za2 h p hp)
theorem ZcQ {x:PV}(h:okA x=true):∀ps,x=.tup ps->ps.all okv=true:=fun ps e=>okA_all (by rw[←e];exact h)
theorem okA_in2 {x:PV}(h:okA x=true):∀ps,x=.tup ps->ps.all okv=true/\∀p∈ps,∀qs,p=.tup qs->qs.all okv=true:=fun ps e=>by
 subst e
 exact ⟨okA_all h,fun p hp qs e=>ZcQ (Za2 h p hp) qs e⟩
noncomputable def evsOf:PV->List PV
 | .tup [_,_,_,_,.tup l,.tup v]=>l++v.take 1
 | _=>[]
noncomputable def partOf:PV->Int
 | .tup [_,_,.int p,_,_,_]=>p
 | _=>0
theorem Zbo {h:Int}{x:PV}(b:clB h x=true):∃d c p w l v,x=.tup [d,c,.int p,w,.tup l,.tup v]/\l.length<=8/\v.length<=2/\1<=p/\p<=9:=by
 unfold clB at b
 split at b
 ·rename_i d c p w cs lv
  unfold cl6 at b
  simp only[Yd] at b
  obtain ⟨⟨⟨⟨⟨⟨_,_⟩,_⟩,b4⟩,_⟩,b6⟩,b7⟩:=b
  cases p with
  | int p=>
   cases cs with
   | tup l=>
    cases lv with
    | tup v=>
     simp[ptB] at b4
     simp[csB] at b6
     refine ⟨d,c,p,w,l,v,rfl,by lia,?_,b4.1,b4.2⟩
     match v,b7 with
     | [],_=>simp
     | [a,n],_=>simp
    | _=>cases b7
   | _=>cases b6
  | _=>cases b4
 ·cases b
theorem take1 (v:List PV):cutP v none (some 1)=v.take 1:=by
 cases v with
 | nil=>rfl
 | cons a r=>simp[cutP,HT.sIx]
theorem events_of_eq {h:Int}{x:PV}(b:clB h x=true)(C:Cs):F_qbh [.v x] C=some (.v (.lst (evsOf x)),C):=by
 obtain ⟨d,c,p,w,l,v,rfl,hl,hv,_⟩:=Zbo b
 have hcut:cutP [d,c,.int p,w,.tup l,.tup v] (some 4) none=[.tup l,.tup v]:=by simp[cutP,HT.sIx]
 have ht:=take1 v
 have h1:l.length + (v.take 1).length<=1000000:=by
  have:(v.take 1).length<=1:=by simp;lia
  lia
 show F_qbh _ C=some (.v (.lst (l++v.take 1)),C)
 generalize v.take 1=V1 at *
 simp![F_qbh,hcut,mAsg,hTup,hCons,hName,hNil,ht,addP,h1]
theorem ev_flat {own hn on:Int}{parts:List Int}{x:PV}(b:evB own hn on parts x=true):∃qs k,x=.tup qs/\keysP qs=some k:=by
 unfold evB at b
 split at b
 ·rename_i t r
  unfold evR at b
  split at b
  ·unfold joB at b
   split at b
   ·rename_i r0
    cases r0 with
    | int i=>exact ⟨_,[.inr t,.inl i],rfl,rfl⟩
    | _=>cases b
   ·cases b
  ·split at b
   ·unfold saB at b
    split at b
    ·rename_i r0 r1
     rw[Yd] at b
     cases r0 with
     | int i=>
      cases r1 with
      | str z=>exact ⟨_,[.inr t,.inl i,.inr z],rfl,rfl⟩
      | _=>cases b.2
     | _=>cases b.1
    ·cases b
   ·split at b
    ·unfold diB at b
     split at b
     ·rename_i r0 r1 r2
      unfold didB at b
      rw[Yd] at b
      cases r0 with
      | int i=>
       have b2:=b.2
       dsimp only at b2
       split at b2
       ·rw[Yd] at b2
        cases r1 with
        | int j=>
         cases r2 with
         | int k=>exact ⟨_,[.inr t,.inl i,.inl j,.inl k],rfl,rfl⟩
         | _=>cases b2.2
        | _=>cases b2.1
       ·rw[Yd] at b2
        cases r1 with
        | int j=>
         have b3:=b2.2
         dsimp only at b3
         rw[Yd] at b3
         cases r2 with
         | int k=>exact ⟨_,[.inr t,.inl i,.inl j,.inl k],rfl,rfl⟩
         | _=>cases b3.2
        | _=>cases b2.1
      | _=>cases b.1
     ·cases b
    ·cases b
 ·cases b
theorem evs_flat {own hn on:Int}{parts:List Int}:∀{es:List PV},es.all (evB own hn on parts)=true->∃ks,tupKeysP es=some ks
 | [],_=>⟨[],rfl⟩
 | x::es,h=>by
  rw[Y9,Yd] at h
  obtain ⟨qs,k,rfl,hk⟩:=ev_flat h.1
  obtain ⟨ks,e⟩:=evs_flat h.2
  exact ⟨k::ks,by unfold tupKeysP;rw[hk,e]⟩
theorem len_evs {own hn on:Int}{parts:List Int}{es:List PV}(h:es.all (evB own hn on parts)=true)(hl:es.length < 76):∃n:Nat,lenSetL es=some (.int n)/\n<=es.length:=by
 obtain ⟨ks,e⟩:=evs_flat h
 have hkl:=Zbi e
 unfold lenSetL
 rw[if_pos hl]
 cases es with
 | nil=>exact ⟨0,rfl,Yk _⟩
 | cons x es=>
  obtain ⟨qs,k,rfl,_⟩:=ev_flat (Yt.mp h x 3e4)
  have hn:keysP (.tup qs::es)=none:=by unfold keysP;rfl
  rw[hn,e]
  exact ⟨_,rfl,by rw[←hkl];exact Se.fm_length ks⟩
def setB (es:List PV):Bool:=match lenSetL es with
 | some (.int n)=>decide (n=(es.length:Int))
 | _=>false
def gdB (own hn on:Int)(parts:List Int)(c:PV):Bool:=(evsOf c).all (evB own hn on parts)&&setB (evsOf c)
section
variable (e f1 f2 f3:Addr)(d1:f2≠f1)(d2:f3≠f1)(d3:f3≠f2)
include d1 d2 d3
theorem evs_ok {h:Int}{c:PV}(b:clB h c=true)(o:okA c=true):∀x∈evsOf c,okA x=true:=by
 obtain ⟨d,c',p,w,l,v,rfl,hl,hv,_⟩:=Zbo b
 intro x hx
 have hx:x∈l++v.take 1:=hx
 rcases YX.mp hx with hx | hx
 ·exact Za2 (Za2 o (.tup l) 3e4) x hx
 ·exact Za2 (Za2 o (.tup v) 3e4) x (Xv hx)
theorem evs_len {h:Int}{c:PV}(b:clB h c=true):(evsOf c).length<=9:=by
 obtain ⟨d,c',p,w,l,v,rfl,hl,hv,_⟩:=Zbo b
 show (l++v.take 1).length<=9
 have:(v.take 1).length<=1:=by simp;lia
 simp;lia
theorem good_eq (hs os cls:List PV)(close:PV)(parts:List Int)(C:Cs)(sp:Sp cls parts)(i:Int)(c:PV)(hc:ixQ (.tup cls) (.int i)=some c)(h:Int)(b:clB h c=true)(o:okA c=true):
  F_qbi e f1 f2 f3 [.v (.int i),.v (dlP hs os cls close)] C=some (.v (.bl (gdB i hs.length os.length parts c)),C):=by
 have ee:=events_of_eq b C
 have ok:=evs_ok f1 f2 f3 d1 d2 d3 b o
 have hl:=evs_len f1 f2 f3 d1 d2 d3 b
 have y3:ixQ (dlP hs os cls close) (.int 3)=some (.tup cls):=rfl
 have hcm:=ZaV (te:=mFn (F_qbm e f1 f2 f3) (aCons 1e7 (aCons 2e9 (aCons 4e9 aNil)))) (f:=fun x=>.bl (evB i hs.length os.length parts x)) (evsOf c) [none,#[.int i],#[dlP hs os cls close]] [] C (fun x hx=>by
  have:=is_event_eq e f1 f2 f3 hs os cls close i parts C d1 d2 d3 sp x (Zce (ok x hx)) (ZcQ (ok x hx))
  generalize dlP hs os cls close=DL at *
  simp[mFn,aCons,aNil,mVar,bnd,Pu.ret,this])
 rw[Xa] at hcm
 have ha:=all_bl (evB i hs.length os.length parts) (evsOf c)
 unfold gdB
 generalize dlP hs os cls close=DL at *
 have hll:(evsOf c).length<=100000:=by lia
 cases hw:(evsOf c).all (evB i hs.length os.length parts) with
 | false=>
  rw[hw] at ha
  generalize (evsOf c).map (fun x=>PV.bl (evB i hs.length os.length parts x))=bs at hcm ha
  unfold F_qbi B_qbi
  generalize mFn (F_qbm e f1 f2 f3) (aCons 1e7 (aCons 2e9 (aCons 4e9 aNil)))=te at hcm ⊢
  generalize evsOf c=es at *
  simp![y3,hc,ee,mComp,mItems,itemsP,stIn',hll,hcm,ha]
 | true=>
  obtain ⟨n,hn,_⟩:=len_evs hw 1e3
  rw[hw] at ha
  have hsb:setB (evsOf c)=decide ((n:Int)=((evsOf c).length:Int)):=by unfold setB;rw[hn]
  rw[hsb]
  generalize (evsOf c).map (fun x=>PV.bl (evB i hs.length os.length parts x))=bs at hcm ha
  unfold F_qbi B_qbi
  generalize mFn (F_qbm e f1 f2 f3) (aCons 1e7 (aCons 2e9 (aCons 4e9 aNil)))=te at hcm ⊢
  generalize evsOf c=es at *
  simp![y3,hc,ee,mComp,mItems,itemsP,stIn',hll,hcm,ha,lenSetH,hn]
end
noncomputable def isBell:PV->Bool
 | .str z=>decide (z="bell")
 | _=>false
def bellB:PV->Bool
 | .tup hl=>hl.any isBell
 | _=>false
noncomputable def lenP:PV->Int
 | .tup l=>l.length
 | _=>0
def goodsB (hn on:Int)(cls:List PV):Bool:=(Yg cls.length).all fun i=>gdB i hn on (cls.map partOf) (cls.getD i .non)
def csetB (hn on:Int):PV->Bool
 | .tup l=>decide (1<=(l.length:Int))&&decide ((l.length:Int)<=12)&&l.all (clB hn)&&goodsB hn on l
 | _=>false
def deal4 (h o cl cs:PV):Bool:=wordsB h 1 8&&!bellB h&&wordsB o 0 4&&numB cl 0&&csetB (lenP h) (lenP o) cs
def dealB:PV->Bool
 | .tup [h,o,cl,cs]=>deal4 h o cl cs
 | _=>false
theorem dealB_not (ps:List PV)(hl:ps.length≠4):dealB 5e9=false:=by
 unfold dealB
 split
 ·rename_i e;cases e;simp at hl
 ·rfl
theorem ZbP {x:PV}{a b:Int}(h:wordsB x a b=true):∃l:List Str,x=.tup (l.map .str)/\(l.length:Int)<=b:=by
 cases x with
 | tup ps=>
  unfold wordsB at h
  simp only[Yd,decide_eq_true_eq] at h
  obtain ⟨l,rfl,_⟩:=ZbE h.1.2
  exact ⟨l,rfl,by simpa using h.1.1.2⟩
 | _=>cases h
theorem bell_any (l:4e6):bellB (.tup (l.map PV.str))=l.any fun z=>z==("bell":Str):=by
 show (l.map PV.str).any isBell=_
 rw[Ut]
 congr 1
theorem bell_in (l:4e6):inP (.str "bell") (.tup (l.map PV.str))=some (.bl (bellB (.tup (l.map PV.str)))):=by
 have h1:(l.map PV.str).all flatP=true:=by rw[Xw];exact Yt.mpr fun _ _=>rfl
 have h2:((l.map PV.str).any fun y=>eqF y (.str "bell"))=bellB (.tup (l.map PV.str)):=by
  rw[bell_any,Ut];rfl
 unfold inP inB
 simp only[h1,h2]
 rfl
theorem dats_strs:∀l:List Str,dats (l.map PV.str)=true/\deps (l.map PV.str)=0
 | []=>⟨rfl,rfl⟩
 | z::l=>by
  obtain ⟨a,b⟩:=dats_strs l
  rw[YO]
  unfold dats deps
  rw[a,b];exact ⟨rfl,rfl⟩
theorem bell_inD (l:4e6):inDP false (.str "bell") (.tup (l.map PV.str))=some (.bl (bellB (.tup (l.map PV.str)))):=by
 obtain ⟨h1,h3⟩:=dats_strs l
 have h2:((l.map PV.str).any fun p=>eqD p (.str "bell"))=bellB (.tup (l.map PV.str)):=by
  rw[bell_any,Ut];rfl
 unfold inDP
 have h4:deps (l.map PV.str)<=50:=by lia
 simp[h1,h2,h4,dat]
theorem sp_of {hn:Int}{cls:List PV}(h:cls.all (clB hn)=true):Sp cls (cls.map partOf):=by
 have get:∀i:Int,0<=i->i < cls.length->∃c,cls[i.toNat]? = some c/\clB hn c=true:=fun i h0 h1=>by
  have hi:i.toNat < cls.length:=by lia
  exact ⟨cls[i.toNat],Ya hi,Yt.mp h _ (Y5 hi)⟩
 refine ⟨by simp,fun i h0 h1=>?_,fun i h0 h1=>?_⟩
 ·obtain ⟨c,e,b⟩:=get i h0 (by simpa using h1)
  refine ⟨c,?_,?_⟩
  ·have h1':i < cls.length:=by simpa using h1
   simp only[ixQ,ixP,atI,ixN]
   rw[if_pos h0,if_pos h1']
   exact e
  ·rw[YK,e]
   obtain ⟨d,c',p,w,l,v,rfl,_⟩:=Zbo b
   rfl
 ·have h1':i < cls.length:=by simpa using h1
  obtain ⟨c,e,b⟩:=get i h0 h1'
  simp[ixQ,ixP,atI,ixN,h0,h1',e]
section
variable (e f1 f2 f3:Addr)(d1:f2≠f1)(d2:f3≠f1)(d3:f3≠f2)
include d1 d2 d3
abbrev ctE:PSt->M SV:=mFn F_qbj (aCons 1e7 (aCons (mCB 6e0 6e3) aNil))
abbrev gtE:PSt->M SV:=mFn (F_qbi e f1 f2 f3) (aCons 1e7 6e3)
theorem cls_comp (hl:List PV)(cs:List PV)(C:Cs)(ho:∀c∈cs,okA c=true):compL 6e8 tOk ctE cs [none,#[.tup hl]] [] C=some (cs.map fun c=>.bl (clB hl.length c),C):=by
 have hc:=ZaV (te:=ctE) (f:=fun c=>.bl (clB hl.length c)) cs [none,#[.tup hl]] [] C (fun c hc=>by
  have:=is_clause_eq c hl.length C (Zce (ho c hc)) (okA_in2 (ho c hc))
  simp[ctE,mFn,aCons,aNil,mVar,mCB,g1,derefs,deref,bnd,opM,Pu.ret,lenH,this])
 rw[Xa] at hc;exact hc
theorem gds_comp (hs os cls:List PV)(close:PV)(C:Cs)(hb:cls.all (clB hs.length)=true)(ho:∀c∈cls,okA c=true):compL 6e8 tOk (gtE e f1 f2 f3) ((Yg cls.length).map fun (q:Nat)=>PV.int (0 + q)) [none,#[dlP hs os cls close]] [] C=some ((Yg cls.length).map fun (i:Nat)=>PV.bl (gdB i hs.length os.length (cls.map partOf) (cls.getD i .non)),C):=by
 have hc:=ZaV (te:=gtE e f1 f2 f3) (f:=fun p=>match p with | .int j=>.bl (gdB j hs.length os.length (cls.map partOf) (cls.getD j.toNat .non)) | _=>.non) ((Yg cls.length).map fun (q:Nat)=>PV.int (0 + q)) [none,#[dlP hs os cls close]] [] C (fun x hx=>by
  obtain ⟨q,hq,rfl⟩:=YM.mp hx
  have hq:=Y0.mp hq
  have hm:=Y5 hq
  have hix:ixQ (.tup cls) (.int 6e1)=some cls[q]:=by
   simp only[ixQ,ixP,atI,ixN]
   rw[if_pos 1e3,if_pos 1e3,show (0 + (q:Int)).toNat=q by lia]
   exact Ya hq
  have g:=good_eq e f1 f2 f3 d1 d2 d3 hs os cls close (cls.map partOf) C (sp_of hb) 6e1 cls[q] hix hs.length (Yt.mp hb _ hm) (ho _ hm)
  have e2:cls.getD (0 + (q:Int)).toNat .non=cls[q]:=by
   rw[show (0 + (q:Int)).toNat=q by lia,YE,Ya hq];rfl
  dsimp only
  rw[e2]
  generalize dlP hs os cls close=DL at *
  generalize 6e1=Q at *
  simp[gtE,mFn,aCons,aNil,mVar,bnd,Pu.ret,g])
 rw[Xa,Xb] at hc
 rw[hc]
 congr 2
 refine VD fun q hq=>?_
 show PV.bl (gdB 6e1 _ _ _ (cls.getD (0 + (q:Int)).toNat .non))=_
 rw[show 6e1=(q:Int) by lia,XY]
end
theorem all_g {α:Type}(g:α->Bool)(l:List α):allH [.lst (l.map fun i=>PV.bl (g i))]=some (.bl (l.all g)):=by
 simp[allH,Zb9,Xw]
section
variable (e f1 f2 f3:Addr)(d1:f2≠f1)(d2:f3≠f1)(d3:f3≠f2)
include d1 d2 d3
theorem deal_is:B_qbk e f1 f2 f3=(mSeq (mIfS (mNotT (mTru (mFn F_qbr (aCons 1e7 (aCons 5e6 (aCons 5e6 aNil)))))) 2e1 mSkip) (mSeq (mAsg 1e7 (hTup (hCons (hName 1) (hCons (hName 2) (hCons (hName 3) (hCons (hName 4) hNil)))) 4)) (mSeq (mIfS (mOrT (mNotT (mTru (mFn F_qbg (aCons 2e9 (aCons 1e5 4e2))))) (mOrT (mTest (mOp (g2 inP) (mC (.str "bell")) 2e9)) (mNotT (mTru (mFn F_qbg (aCons 4e9 (aCons 2e6 (aCons 5e6 aNil)))))))) 2e1 mSkip) (mSeq (mIfS (mOrT (mNotT (mTru (mFn F_qbp (aCons (mVar 3) (aCons 2e6 aNil))))) (mNotT (mTru (mFn F_qbr (aCons 7e0 (aCons 1e5 (aCons (mC (.int 12)) aNil))))))) 2e1 mSkip) (mSeq (mIfS (mNotT (mTru (mCB (g1 allH) (aCons (mVal (mComp (mItems 7e0) ["clause"] [1] 6e8 tOk ctE)) aNil)))) 2e1 mSkip) (mRet (mCB (g1 allH) (aCons (mVal (mComp (mRange1 (aCons (mCB 6e0 (aCons 7e0 aNil)) aNil)) ["own"] [0] 6e8 tOk (gtE e f1 f2 f3))) aNil)))))))):=rfl
theorem ZbF (x:PV)(C:Cs)(hx:okA x=true):F_qbk e f1 f2 f3 [.v x] C=some (.v (.bl (dealB x)),C):=by
 have r4:=Zdc x 4 4 C (Zce hx)
 cases x with
 | tup ps=>
  by_cases hl:ps.length=4
  ·match ps,hl,hx with
   | [h,o,cl,cs],_,hx=>
    have ho:=Za2 hx
    have oh:okA h=true:=ho h 3e4
    have oo:okA o=true:=ho o 3e4
    have oc:okA cl=true:=ho cl 3e4
    have os':okA cs=true:=ho cs 3e4
    have e1:=Zcr h 1 8 2e4 C (Zce oh) (ZcQ oh)
    have e2:=Zcr o 0 4 2e4 C (Zce oo) (ZcQ oo)
    have e3:=Za4 cl 0 C (Zce oc)
    have e4:=Zdc cs 1 12 C (Zce os')
    have ed:dealB (.tup [h,o,cl,cs])=deal4 h o cl cs:=rfl
    rw[ed]
    unfold deal4 F_qbk
    rw[deal_is e f1 f2 f3 d1 d2 d3]
    simp at r4
    cases b1:wordsB h 1 8 with
    | false=>rw[b1] at e1;simp![r4,mAsg,hTup,hCons,hName,hNil,e1]
    | true=>
     rw[b1] at e1
     obtain ⟨hl,rfl,hl8⟩:=ZbP b1
     have eb:=bell_in hl
     cases b2:bellB (.tup (hl.map PV.str)) with
     | true=>rw[b2] at eb;generalize hl.map PV.str=HL at *;simp![r4,mAsg,hTup,hCons,hName,hNil,e1,eb]
     | false=>
      rw[b2] at eb
      cases b3:wordsB o 0 4 with
      | false=>rw[b3] at e2;generalize hl.map PV.str=HL at *;simp![r4,mAsg,hTup,hCons,hName,hNil,e1,eb,e2]
      | true=>
       rw[b3] at e2
       cases b4:numB cl 0 with
       | false=>rw[b4] at e3;generalize hl.map PV.str=HL at *;simp![r4,mAsg,hTup,hCons,hName,hNil,e1,eb,e2,e3]
       | true=>
        rw[b4] at e3
        obtain ⟨ol,rfl,_⟩:=ZbP b3
        cases cs with
        | tup cls=>
         have hco:∀c∈cls,okA c=true:=Za2 os'
         have es:csetB (lenP (.tup (hl.map PV.str))) (lenP (.tup (ol.map PV.str))) (.tup cls)=(decide (1<=(cls.length:Int))&&decide ((cls.length:Int)<=12)&&cls.all (clB (hl.map PV.str).length)&&goodsB (hl.map PV.str).length (ol.map PV.str).length cls):=rfl
         rw[es]
         by_cases q1:(1:Int)<=cls.length
         ·by_cases q2:(cls.length:Int)<=12
          ·simp[q1,q2] at e4
           have cc:=cls_comp f1 f2 f3 d1 d2 d3 (hl.map PV.str) cls C hco
           have ca:=all_g (clB (hl.map PV.str).length) cls
           have hll:cls.length<=100000:=by lia
           cases b5:cls.all (clB (hl.map PV.str).length) with
           | false=>
            rw[b5] at ca
            generalize (cls.map fun c=>PV.bl (clB (hl.map PV.str).length c))=BS at cc ca
            generalize hl.map PV.str=HL at *
            generalize ol.map PV.str=OL at *
            generalize ctE=te at cc ⊢
            generalize gtE e f1 f2 f3=tg
            simp![r4,mAsg,hTup,hCons,hName,hNil,e1,eb,e2,e3,e4,mComp,mItems,itemsP,stIn',hll,cc,ca]
           | true=>
            rw[b5] at ca
            have gc:=gds_comp e f1 f2 f3 d1 d2 d3 (hl.map PV.str) (ol.map PV.str) cls cl C b5 hco
            have ga:=all_g (fun i:Nat=>gdB i (hl.map PV.str).length (ol.map PV.str).length (cls.map partOf) (cls.getD i .non)) (Yg cls.length)
            have gg:goodsB (hl.map PV.str).length (ol.map PV.str).length cls=(Yg cls.length).all fun i:Nat=>gdB i (hl.map PV.str).length (ol.map PV.str).length (cls.map partOf) (cls.getD i .non):=rfl
            rw[gg]
            have hrg:rng1P [.v (.int (cls.length:Int))]=some ((Yg cls.length).map fun (q:Nat)=>PV.int (0 + q)):=by
             unfold rng1P;dsimp only;rw[if_pos 1e3,XY]
            have hrl:((Yg cls.length).map fun (q:Nat)=>PV.int (0 + q)).length<=100000:=by simp;lia
            generalize ((Yg cls.length).all fun i:Nat=>gdB i (hl.map PV.str).length (ol.map PV.str).length (cls.map partOf) (cls.getD i .non))=GB at ga ⊢
            generalize ((Yg cls.length).map fun (i:Nat)=>PV.bl (gdB i (hl.map PV.str).length (ol.map PV.str).length (cls.map partOf) (cls.getD i .non)))=GS at gc ga
            generalize ((Yg cls.length).map fun (q:Nat)=>PV.int (0 + q))=RS at hrg hrl gc
            generalize (cls.map fun c=>PV.bl (clB (hl.map PV.str).length c))=BS at cc ca
            generalize hl.map PV.str=HL at *
            generalize ol.map PV.str=OL at *
            generalize ctE=te at cc ⊢
            generalize gtE e f1 f2 f3=tg at gc ⊢
            simp![r4,mAsg,hTup,hCons,hName,hNil,e1,eb,e2,e3,e4,mComp,mItems,itemsP,stIn',hll,cc,ca,mRange1,hrg,hrl,gc,ga,q1,q2]
          ·simp[q1,q2] at e4
           generalize hl.map PV.str=HL at *
           generalize ol.map PV.str=OL at *
           simp![r4,mAsg,hTup,hCons,hName,hNil,e1,eb,e2,e3,e4,q2]
         ·simp[q1] at e4
          generalize hl.map PV.str=HL at *
          generalize ol.map PV.str=OL at *
          simp![r4,mAsg,hTup,hCons,hName,hNil,e1,eb,e2,e3,e4,q1]
        | dtt a b=>cases os'
        | fn a=>cases os'
        | ty a=>cases os'
        | _=>
         simp at e4
         generalize hl.map PV.str=HL at *
         generalize ol.map PV.str=OL at *
         simp![r4,mAsg,hTup,hCons,hName,hNil,e1,eb,e2,e3,e4,csetB]
  ·rw[dealB_not ps hl]
   have q:(decide ((4:Int)<=(ps.length:Int))&&decide ((ps.length:Int)<=4))=false:=by
    by_cases z:(4:Int)<=(ps.length:Int)
    ·have:¬((ps.length:Int)<=4):=by lia
     simp[this]
    ·simp[z]
   dsimp only at r4
   rw[q] at r4
   simp![F_qbk,r4]
 | dtt a b=>cases hx
 | fn a=>cases hx
 | ty a=>cases hx
 | _=>simp at r4;simp![F_qbk,r4,dealB]
end
theorem loop_ret {g:5e4}{f:PSt->M PF}{C:Cs}(b:PV->Bool)(Pi:PSt->Prop):∀(xs:List PV),(∀x∈xs,∀ρ,Pi ρ->∃ρ1,g x ρ=some ρ1/\((b x=true/\∃ρ2,f ρ1 C=some (.nx ρ2,C)/\Pi ρ2)\/(b x=false/\f ρ1 C=some (.rt (.v (.bl false)),C))))->
  ∀ρ,Pi ρ->(xs.all b=true/\∃ρ',loop g f xs ρ C=some (.nx ρ',C)/\Pi ρ')\/(xs.all b=false/\loop g f xs ρ C=some (.rt (.v (.bl false)),C))
 | [],_,ρ,h=>.inl ⟨rfl,ρ,rfl,h⟩
 | x::xs,hs,ρ,h=>by
  obtain ⟨ρ1,e1,h1⟩:=hs x 3e4 ρ h
  rcases h1 with ⟨hb,ρ2,e2,h2⟩ | ⟨hb,e2⟩
  ·rcases loop_ret b Pi xs (fun y hy=>hs y (by simp[hy])) ρ2 h2 with ⟨ha,ρ',e3,h3⟩ | ⟨ha,e3⟩
   ·refine .inl ⟨by rw[Y9,hb,ha];rfl,ρ',?_,h3⟩
    unfold loop;simp only[e1];unfold bnd;rw[e2];exact e3
   ·refine .inr ⟨by rw[Y9,ha,VV],?_⟩
    unfold loop;simp only[e1];unfold bnd;rw[e2];exact e3
  ·refine .inr ⟨by rw[Y9,hb];rfl,?_⟩
   unfold loop;simp only[e1];unfold bnd;rw[e2];rfl
abbrev efE:PSt->M SV:=mFn F_qam (aCons 1e7 (aCons 2e9 (aCons 4e9 aNil)))
abbrev cfE:PSt->M SV:=mFn F_qae (aCons 1e7 (aCons (mCB 6e0 6e3) aNil))
abbrev p2E:PSt->M SV:=mOp 2e7 1e7 3e2
abbrev df1:PSt->M PF:=mSet 8 (mOp 6e7 (mVal (mList (aCons (mOp 2e7 (mVar 7) 5e6) aNil))) (mVal (mList (aCons (mSlice (mOp 2e7 (mVar 7) (mC (.int 5))) oNo (oPart 1e5)) aNil))))
abbrev df2 (te:4e0):PSt->M PF:=mIfS (mOrT (mNotT (mTru (mCB (g1 allH) (aCons (mVal (mComp (mItems (mVar 8)) ["_law_event_here"] [6,5] 6e8 tOk te)) aNil)))) (mTest (mOp (g2 ltDP) (mCB (g1 lenSetH) (aCons (mVar 8) aNil)) (mCB 6e0 (aCons (mVar 8) aNil))))) 2e1 mSkip
abbrev dfo:PSt->M PF:=mSeq df1 (df2 efE)
theorem Zcc {f g:PSt->M PF}{ρ ρ1:PSt}{C C1:Cs}(h:f ρ C=some (.nx ρ1,C1)):mSeq f g ρ C=g ρ1 C1:=by
 unfold mSeq bnd;rw[h]
theorem lt_int (a b:Int):ltDP (.int a) (.int b)=some (.bl (decide (a < b))):=by simp[ltDP,ltD,dat,dep]
section
variable (S0 S1 S2 S3 S4:Option SV)(hn on:Int)(parts:List Int){cls:List PV}(sp:Sp cls parts)(C:Cs)
include sp
theorem dfo_ok (i:Int)(c:PV)(h:Int)(b:clB h c=true)(o:okA c=true)(x8:Option SV):
  (gdB i hn on parts c=true/\∃ρ2,dfo [S0,S1,S2,S3,S4,#[shP hn on parts],#[.int i],#[c],x8] C=some (.nx ρ2,C)/\∃y6 y7 y8,ρ2=[S0,S1,S2,S3,S4,#[shP hn on parts],y6,y7,y8])\/
  (gdB i hn on parts c=false/\dfo [S0,S1,S2,S3,S4,#[shP hn on parts],#[.int i],#[c],x8] C=some (.rt (.v (.bl false)),C)):=by
 have st1:df1 [S0,S1,S2,S3,S4,#[shP hn on parts],#[.int i],#[c],x8] C=some (.nx [S0,S1,S2,S3,S4,#[shP hn on parts],#[.int i],#[c],#[.lst (evsOf c)]],C):=by
  obtain ⟨d,c',p,w,l,v,rfl,hl,hv,_⟩:=Zbo b
  have ht:=take1 v
  have h1:l.length + (v.take 1).length<=1000000:=by
   have:(v.take 1).length<=1:=by simp;lia
   lia
  have x4:ixQ (.tup [d,c',.int p,w,.tup l,.tup v]) (.int 4)=some (.tup l):=rfl
  have x5:ixQ (.tup [d,c',.int p,w,.tup l,.tup v]) (.int 5)=some (.tup v):=rfl
  rw[show evsOf (.tup [d,c',.int p,w,.tup l,.tup v])=l++v.take 1 from rfl]
  generalize v.take 1=V1 at *
  simp![df1,x4,x5,ht,addP,h1]
 have ok:∀x∈evsOf c,okA x=true:=by
  obtain ⟨d,c',p,w,l,v,rfl,hl,hv,_⟩:=Zbo b
  intro x hx
  have hx:x∈l++v.take 1:=hx
  rcases YX.mp hx with hx | hx
  ·exact Za2 (Za2 o (.tup l) 3e4) x hx
  ·exact Za2 (Za2 o (.tup v) 3e4) x (Xv hx)
 have hl:(evsOf c).length<=9:=by
  obtain ⟨d,c',p,w,l,v,rfl,hl,hv,_⟩:=Zbo b
  show (l++v.take 1).length<=9
  have:(v.take 1).length<=1:=by simp;lia
  simp;lia
 have hcm:=ZaV (te:=efE) (f:=fun x=>.bl (evB i hn on parts x)) (evsOf c) [none,#[.int i],#[shP hn on parts]] [] C (fun x hx=>by
  have:=ev_fits_eq hn on i parts C sp x (Zce (ok x hx)) (ZcQ (ok x hx))
  generalize shP hn on parts=SH at *
  simp[efE,mFn,aCons,aNil,mVar,bnd,Pu.ret,this])
 rw[Xa] at hcm
 have ha:=all_bl (evB i hn on parts) (evsOf c)
 have hll:(evsOf c).length<=100000:=by lia
 rw[show dfo=mSeq df1 (df2 efE) from rfl,Zcc st1]
 unfold gdB
 generalize shP hn on parts=SH at *
 cases hw:(evsOf c).all (evB i hn on parts) with
 | false=>
  rw[hw] at ha
  generalize (evsOf c).map (fun x=>PV.bl (evB i hn on parts x))=bs at hcm ha
  generalize efE=te at hcm ⊢
  generalize evsOf c=es at *
  refine .inr ⟨by simp,?_⟩
  simp![df2,mComp,mItems,itemsP,stIn',hll,hcm,ha]
 | true=>
  obtain ⟨n,hn',hle⟩:=len_evs hw 1e3
  rw[hw] at ha
  have hsb:setB (evsOf c)=decide ((n:Int)=((evsOf c).length:Int)):=by unfold setB;rw[hn']
  rw[hsb]
  generalize (evsOf c).map (fun x=>PV.bl (evB i hn on parts x))=bs at hcm ha
  generalize efE=te at hcm ⊢
  generalize evsOf c=es at *
  by_cases q:n=es.length
  ·refine .inl ⟨by simp[q],[S0,S1,S2,S3,S4,#[SH],#[.int i],#[c],#[.lst es]],?_,_,_,_,rfl⟩
   have q2:¬((n:Int) < (es.length:Int)):=by lia
   simp![df2,mComp,mItems,itemsP,stIn',hll,hcm,ha,lenSetH,hn',lt_int,q2]
  ·refine .inr ⟨by simp;lia,?_⟩
   have q2:(n:Int) < (es.length:Int):=by lia
   simp![df2,mComp,mItems,itemsP,stIn',hll,hcm,ha,lenSetH,hn',lt_int,q2]
end
theorem fits_is:B_qai=(mSeq (mIfS (mOrT (mNotT (mTru (mCB (g1 isiH) (aCons 1e7 5e5)))) (mOrT (mTest (mOp (g2 (deepP fun p q=>!eqD p q)) (mCB 6e0 5e2) 5e6)) (mNotT (mTru (mFn F_qas (aCons (mOp 2e7 1e7 2e6) (aCons 1e5 4e2))))))) 2e1 mSkip) (mSeq (mAsg 1e7 (hTup (hCons (hName 1) (hCons (hName 2) (hCons (hName 3) (hCons (hName 4) hNil)))) 4)) (mSeq (mIfS (mOrT (mTest (mOp (g2 (inDP false)) (mC (.str "bell")) 2e9)) (mOrT (mNotT (mTru (mFn F_qas (aCons 4e9 (aCons 2e6 (aCons 5e6 aNil)))))) (mNotT (mTru (mFn F_qba (aCons (mVar 3) aNil)))))) 2e1 mSkip) (mSeq (mIfS (mOrT (mNotT (mTru (mCB (g1 isiH) (aCons 7e0 5e5)))) (mNotT (mTest (mChain (g2 leP) (g2 leP) 1e5 (mCB 6e0 (aCons 7e0 aNil)) (mC (.int 12)))))) 2e1 mSkip) (mSeq (mIfS (mNotT (mTru (mCB (g1 allH) (aCons (mVal (mComp (mItems 7e0) ["_law_clause"] [1] 6e8 tOk cfE)) aNil)))) 2e1 mSkip) (mSeq (mSet 5 (mTup (aCons (mCB 6e0 6e3) (aCons (mCB 6e0 (aCons 4e9 aNil)) (aCons (mVal (mComp (mItems 7e0) ["_law_clause"] [] 6e8 tOk p2E)) aNil))))) (mSeq (mFor (mEnumT (aCons 7e0 aNil)) (hTup (hCons (hName 6) (hCons (hName 7) hNil)) 2) dfo) (mRet (mC (.bl true)))))))))):=rfl
theorem cf_comp (hl:List PV)(cs:List PV)(C:Cs)(ho:∀c∈cs,okA c=true):compL 6e8 tOk cfE cs [none,#[.tup hl]] [] C=some (cs.map fun c=>.bl (clB hl.length c),C):=by
 have hc:=ZaV (te:=cfE) (f:=fun c=>.bl (clB hl.length c)) cs [none,#[.tup hl]] [] C (fun c hc=>by
  have:=Zc9 c hl.length C (Zce (ho c hc)) (okA_in2 (ho c hc))
  simp[cfE,mFn,aCons,aNil,mVar,mCB,g1,derefs,deref,bnd,opM,Pu.ret,lenH,this])
 rw[Xa] at hc;exact hc
theorem pt_comp {h:Int}(cs:List PV)(C:Cs)(hb:cs.all (clB h)=true):compL 6e8 tOk p2E cs [none] [] C=some ((cs.map partOf).map PV.int,C):=by
 have hc:=ZaV (te:=p2E) (f:=fun c=>.int (partOf c)) cs [none] [] C (fun c hc=>by
  have b:=Yt.mp hb c hc
  have:ixQ c (.int 2)=some (.int (partOf c)):=by obtain ⟨d,c',p,w,l,v,rfl,_⟩:=Zbo b;rfl
  simp[p2E,mOp,mVar,mC,bnd,opM,g2,deref,this])
 rw[Xa] at hc;rw[hc,Xb];rfl
noncomputable def pxB (g:Int->PV->Bool):PV->Bool
 | .tup [.int i,c]=>g i c
 | _=>false
theorem enum_all (g:Int->PV->Bool)(cls:List PV):(enumL cls).all (pxB g)=(Yg cls.length).all fun i:Nat=>g i (cls.getD i .non):=by
 unfold enumL
 rw[Xw];rfl
theorem deal_fits_eq (x:PV)(C:Cs)(hx:okA x=true):F_qai [.v x] C=some (.v (.bl (dealB x)),C):=by
 cases x with
 | tup ps=>
  by_cases hl:ps.length=4
  ·match ps,hl,hx with
   | [h,o,cl,cs],_,hx=>
    have ho:=Za2 hx
    have oh:okA h=true:=ho h 3e4
    have oo:okA o=true:=ho o 3e4
    have oc:okA cl=true:=ho cl 3e4
    have os':okA cs=true:=ho cs 3e4
    have e1:=ZbT h 1 8 2e4 C (Zce oh) (ZcQ oh)
    have e2:=ZbT o 0 4 2e4 C (Zce oo) (ZcQ oo)
    have e3:=Zbt cl C (Zce oc)
    have x0:ixQ (.tup [h,o,cl,cs]) (.int 0)=some h:=rfl
    have ed:dealB (.tup [h,o,cl,cs])=deal4 h o cl cs:=rfl
    rw[ed]
    unfold deal4 F_qai
    rw[fits_is]
    cases b1:wordsB h 1 8 with
    | false=>rw[b1] at e1;simp![Za0,x0,e1]
    | true=>
     rw[b1] at e1
     obtain ⟨hl,rfl,hl8⟩:=ZbP b1
     have eb:=bell_inD hl
     cases b2:bellB (.tup (hl.map PV.str)) with
     | true=>rw[b2] at eb;generalize hl.map PV.str=HL at *;simp![Za0,x0,mAsg,hTup,hCons,hName,hNil,e1,eb]
     | false=>
      rw[b2] at eb
      cases b3:wordsB o 0 4 with
      | false=>rw[b3] at e2;generalize hl.map PV.str=HL at *;simp![Za0,x0,mAsg,hTup,hCons,hName,hNil,e1,eb,e2]
      | true=>
       rw[b3] at e2
       cases b4:numB cl 0 with
       | false=>rw[b4] at e3;generalize hl.map PV.str=HL at *;simp![Za0,x0,mAsg,hTup,hCons,hName,hNil,e1,eb,e2,e3]
       | true=>
        rw[b4] at e3
        obtain ⟨ol,rfl,_⟩:=ZbP b3
        cases cs with
        | tup cls=>
         have hco:∀c∈cls,okA c=true:=Za2 os'
         have es:csetB (lenP (.tup (hl.map PV.str))) (lenP (.tup (ol.map PV.str))) (.tup cls)=(decide (1<=(cls.length:Int))&&decide ((cls.length:Int)<=12)&&cls.all (clB (hl.map PV.str).length)&&goodsB (hl.map PV.str).length (ol.map PV.str).length cls):=rfl
         rw[es]
         by_cases q1:(1:Int)<=cls.length
         ·by_cases q2:(cls.length:Int)<=12
          ·have cc:=cf_comp (hl.map PV.str) cls C hco
           have ca:=all_g (clB (hl.map PV.str).length) cls
           have hll:cls.length<=100000:=by lia
           cases b5:cls.all (clB (hl.map PV.str).length) with
           | false=>
            rw[b5] at ca
            generalize (cls.map fun c=>PV.bl (clB (hl.map PV.str).length c))=BS at cc ca
            generalize hl.map PV.str=HL at *
            generalize ol.map PV.str=OL at *
            generalize cfE=te at cc ⊢
            generalize p2E=t2
            generalize dfo=FO
            simp![Za0,x0,mAsg,hTup,hCons,hName,hNil,e1,eb,e2,e3,q1,q2,mComp,mItems,itemsP,stIn',hll,cc,ca]
           | true=>
            rw[b5] at ca
            have pc:=pt_comp cls C b5
            have gg:goodsB (hl.map PV.str).length (ol.map PV.str).length cls=(enumL cls).all (pxB fun i c=>gdB i (hl.map PV.str).length (ol.map PV.str).length (cls.map partOf) c):=(enum_all (fun i c=>gdB i (hl.map PV.str).length (ol.map PV.str).length (cls.map partOf) c) cls).symm
            have lp:=loop_ret (g:=hTup (hCons (hName 6) (hCons (hName 7) hNil)) 2) (f:=dfo) (C:=C) (pxB fun i c=>gdB i (hl.map PV.str).length (ol.map PV.str).length (cls.map partOf) c)
             (fun ρ=>∃y6 y7 y8,ρ=[#[.tup [.tup (hl.map PV.str),.tup (ol.map PV.str),cl,.tup cls]],#[.tup (hl.map PV.str)],#[.tup (ol.map PV.str)],#[cl],#[.tup cls],#[shP (hl.map PV.str).length (ol.map PV.str).length (cls.map partOf)],y6,y7,y8]) (enumL cls) (fun x hx ρ hρ=>by
              obtain ⟨y6,y7,y8,rfl⟩:=hρ
              unfold enumL at hx
              obtain ⟨i,hi,rfl⟩:=YM.mp hx
              have hi:i < cls.length:=by simpa using hi
              have hm:cls.getD i .non∈cls:=by rw[YE,Ya hi];exact Y5 hi
              refine ⟨_,rfl,?_⟩
              exact dfo_ok _ _ _ _ _ _ _ _ (sp_of b5) C i (cls.getD i .non) _ (Yt.mp b5 _ hm) (hco _ hm) y8) [#[.tup [.tup (hl.map PV.str),.tup (ol.map PV.str),cl,.tup cls]],#[.tup (hl.map PV.str)],#[.tup (ol.map PV.str)],#[cl],#[.tup cls],#[shP (hl.map PV.str).length (ol.map PV.str).length (cls.map partOf)],none,none,none] ⟨_,_,_,rfl⟩
            rw[gg]
            generalize (enumL cls).all (pxB fun i c=>gdB i (hl.map PV.str).length (ol.map PV.str).length (cls.map partOf) c)=GB at lp ⊢
            have hen:enumPT [.v (.tup cls)]=some (enumL cls):=rfl
            unfold shP at lp
            have hpl:((cls.map partOf).map PV.int).length<=100000:=by simp;lia
            generalize enumL cls=EL at lp hen
            generalize (cls.map partOf).map PV.int=PL at *
            generalize (cls.map fun c=>PV.bl (clB (hl.map PV.str).length c))=BS at cc ca
            generalize hl.map PV.str=HL at *
            generalize ol.map PV.str=OL at *
            generalize cfE=te at cc ⊢
            generalize p2E=t2 at pc ⊢
            generalize dfo=FO at lp ⊢
            rcases lp with ⟨g1',ρ',e5,_⟩ | ⟨g1',e5⟩
            ·subst g1'
             simp![Za0,x0,mAsg,hTup,hCons,hName,hNil,e1,eb,e2,e3,q1,q2,mComp,mItems,itemsP,stIn',hll,cc,ca,pc,mFor,mEnumT,hen,e5]
            ·subst g1'
             simp![Za0,x0,mAsg,hTup,hCons,hName,hNil,e1,eb,e2,e3,q1,q2,mComp,mItems,itemsP,stIn',hll,cc,ca,pc,mFor,mEnumT,hen,e5]
          ·generalize hl.map PV.str=HL at *
           generalize ol.map PV.str=OL at *
           simp![Za0,x0,mAsg,hTup,hCons,hName,hNil,e1,eb,e2,e3,q1,q2]
         ·generalize hl.map PV.str=HL at *
          generalize ol.map PV.str=OL at *
          simp![Za0,x0,mAsg,hTup,hCons,hName,hNil,e1,eb,e2,e3,q1]
        | dtt a b=>cases os'
        | fn a=>cases os'
        | ty a=>cases os'
        | _=>
         generalize hl.map PV.str=HL at *
         generalize ol.map PV.str=OL at *
         simp![Za0,x0,mAsg,hTup,hCons,hName,hNil,e1,eb,e2,e3,csetB]
  ·rw[dealB_not ps hl]
   have q:¬((ps.length:Int)=4):=by lia
   simp![F_qai,Za0,q]
 | dtt a b=>cases hx
 | fn a=>cases hx
 | ty a=>cases hx
 | _=>simp![F_qai,dealB]
mutual
noncomputable def td:PV->Nat
 | .tup ps=>tds ps + 1
 | _=>0
noncomputable def tds:List PV->Nat
 | []=>0
 | p::ps=>max (td p) (tds ps)
end
mutual
noncomputable def tl (B:Nat):PV->Bool
 | .tup ps=>decide (ps.length<=B)&&tls B ps
 | _=>true
noncomputable def tls (B:Nat):List PV->Bool
 | []=>true
 | p::ps=>tl B p&&tls B ps
end
theorem ZcH {B:Nat}:∀{ps:List PV},tls B ps=true↔∀p∈ps,tl B p=true
 | []=>⟨(fun _ _ h=>(nomatch h)),fun _=>rfl⟩
 | p::ps=>by
  unfold tls
  rw[Yd,ZcH (ps:=ps)]
  constructor
  ·rintro ⟨a,b⟩ q hq
   rcases Yn.mp hq with rfl | hq
   ·exact a
   ·exact b q hq
  ·intro h;exact ⟨h p 3e4,fun q hq=>h q (by simp[hq])⟩
theorem tds_le {n:Nat}:∀{ps:List PV},tds ps<=n↔∀p∈ps,td p<=n
 | []=>⟨(fun _ _ h=>(nomatch h)),fun _=>YT _⟩
 | p::ps=>by
  unfold tds
  rw[Nat.max_le,tds_le (ps:=ps)]
  constructor
  ·rintro ⟨a,b⟩ q hq
   rcases Yn.mp hq with rfl | hq
   ·exact a
   ·exact b q hq
  ·intro h;exact ⟨h p 3e4,fun q hq=>h q (by simp[hq])⟩
structure Ta (n B:Nat)(p:PV):Prop where
 a:okA p=true
 d:td p<=n
 l:tl B p=true
theorem Ta.mono {n m B D:Nat}{p:PV}(h:Ta n B p)(h1:n<=m)(h2:B<=D):Ta m D p:=by
 have key:∀(k:Nat) (p:PV),td p<=k->tl B p=true->tl D p=true:=by
  intro k
  induction k with
  | zero=>intro p hd hl;cases p<;>first | rfl | (unfold td at hd;lia)
  | succ k ih=>
   intro p hd hl
   cases p with
   | tup ps=>
    unfold td at hd
    unfold tl at hl ⊢
    rw[Yd] at hl ⊢
    refine ⟨decide_eq_true (YG (of_decide_eq_true hl.1) h2),ZcH.mpr fun q hq=>ih q ?_ (ZcH.mp hl.2 q hq)⟩
    exact tds_le.mp (show tds ps<=k by lia) q hq
   | _=>rfl
 exact ⟨h.a,YG h.d h1,key _ p (Yk _) h.l⟩
theorem Ta.mk_tup {n B:Nat}{ps:List PV}(hl:ps.length<=B)(h:∀p∈ps,Ta n B p):Ta (n + 1) B 5e9:=
 ⟨by unfold okA;exact Zcx.mpr fun p hp=>(h p hp).a,by unfold td;have:=tds_le.mpr fun p hp=>(h p hp).d;lia,by unfold tl;rw[decide_eq_true hl,ZcH.mpr fun p hp=>(h p hp).l];rfl⟩
theorem Ta.of_tup {n B:Nat}{ps:List PV}(h:Ta (n + 1) B 5e9):ps.length<=B/\∀p∈ps,Ta n B p:=by
 obtain ⟨a,d,l⟩:=h
 unfold td at d
 unfold tl at l
 rw[Yd] at l
 exact ⟨of_decide_eq_true l.1,fun p hp=>⟨Za2 a p hp,tds_le.mp (show tds ps<=n by lia) p hp,ZcH.mp l.2 p hp⟩⟩
theorem Ta.len {n B:Nat}{ps:List PV}(h:Ta n B 5e9):ps.length<=B:=by
 have:=h.l;unfold tl at this;rw[Yd] at this;exact of_decide_eq_true this.1
theorem Ta.lst {n B:Nat}{ps:List PV}(h:Ta n B 5e9)(m D:Nat):Ta m D 6e6:=
 ⟨by have:=h.a;unfold okA at this ⊢;exact this,YT _,rfl⟩
abbrev sp0 (Z:List SV->M SV):PSt->M PF:=(mIfS (mAndT (mTru (mCB (g1 isiH) (aCons 2e9 5e5))) (mAndT (mTest (mOp (g2 (empP not)) 2e9 (mTup aNil))) (mTest (mOp (g2 gtP) (mFn F_qaq (aCons 1e7 (aCons (mC (.int 6)) aNil))) 2e6)))) (mSeq (mSet 2 (mFn F_qaq (aCons 1e7 (aCons (mCB 6e0 6e3) aNil)))) (mRet (mOp (g2 addBP) (mOp (g2 addBP) (mSlice 2e9 oNo (oPart 4e9)) (mTup (aCons (mFn Z (aCons 1e7 (aCons (mOp 2e7 2e9 4e9) aNil))) aNil))) (mSlice 2e9 (oPart (mOp (g2 addBP) 4e9 1e5)) oNo)))) mSkip)
abbrev sp1:PSt->M PF:=(mSet 3 (mFn F_qaq (aCons 1e7 (aCons (mC (.int 6)) aNil))))
abbrev sp2:PSt->M PF:=(mIfS (mAndT (mTru (mCB (g1 isiH) (aCons 2e9 5e5))) (mTest (mOp (g2 ltDP) (mVar 3) 5e6))) (mRet (mOp 2e7 (mVal (mLst (aCons (mVal (mList 6e3)) (aCons (mSlice 2e9 (oPart 1e5) oNo) (aCons (mOp (g2 addBP) 2e9 (mSlice 2e9 (oPart (mNeg 1e5)) oNo)) (aCons (mOp (g2 addBP) 2e9 (mTup (aCons 2e6 aNil))) aNil)))))) (mVar 3))) mSkip)
abbrev sp3:PSt->M PF:=(mIfS (mAndT (mTru (mCB (g1 isiH) (aCons 2e9 (aCons (mC (.ty "int")) aNil)))) (mTest (mOp (g2 ltDP) (mVar 3) 5e6))) (mRet (mOp (g2 addBP) 2e9 (mOp 2e7 (mVal (mLst (aCons 1e5 (aCons (mNeg 1e5) (aCons (mC (.int 8)) (aCons (mC (.int 12)) aNil)))))) (mVar 3)))) mSkip)
abbrev sp4:PSt->M PF:=(mSet 4 (mVal (mLst (aCons (mC .non) (aCons (mC (.bl true)) (aCons (mC (.bl false)) (aCons (mNeg 1e5) (aCons 2e6 (aCons 1e5 (aCons (mC (.int 9)) (aCons (mC (.int 12)) (aCons (mC (.str "")) (aCons (mC (.str "bell")) (aCons (mC (.str "Ab")) (aCons (mC (.str "said")) (aCons (mC (.str "did")) (aCons (mTup aNil) (aCons (mTup (aCons (mC (.str "said")) (aCons 2e6 (aCons (mC (.str "go")) aNil)))) (aCons (mTup (aCons (mC (.str "joined")) (aCons 1e5 aNil))) aNil)))))))))))))))))))
abbrev sp5:PSt->M PF:=(mRet (mOp 2e7 (mOp (g2 addBP) 7e0 (mVal (mLst (aCons (mVal (mLst aNil)) (aCons mDict0 (aCons (mC (.str "abcdefghijklm")) (aCons (mC (.str "do")) aNil))))))) (mFn F_qaq (aCons 1e7 (aCons (mC (.int 20)) aNil)))))
theorem sp_split (Z:List SV->M SV):B_qau Z=mSeq (sp0 Z) (mSeq sp1 (mSeq sp2 (mSeq sp3 (mSeq sp4 sp5)))):=rfl
def taB (n B:Nat)(p:PV):Bool:=okA p&&decide (td p<=n)&&tl B p
theorem ta_of {n B:Nat}{p:PV}(h:taB n B p=true):Ta n B p:=by
 unfold taB at h
 rw[Yd,Yd] at h
 exact ⟨h.1.1,of_decide_eq_true h.1.2,h.2⟩
theorem to_ta {n B:Nat}{p:PV}(h:Ta n B p):taB n B p=true:=by
 unfold taB
 rw[h.a,h.l,decide_eq_true h.d];rfl
noncomputable def someL:List PV:=[.non,.bl true,.bl false,.int (-1),.int 0,.int 1,.int 9,.int 12,.str "",.str "bell",.str "Ab",.str "said",.str "did",.tup [],.tup [.str "said",.int 0,.str "go"],.tup [.str "joined",.int 1]]
noncomputable def moreL:List PV:=[.lst [],.dct [] [],.str "abcdefghijklm",.str "do"]
theorem all20:(someL++moreL).all (taB 1 3)=true:=by decide +kernel
theorem sp4_eq (a b c d e:Option SV)(C:Cs):sp4 [a,b,c,d,e] C=some (.nx [a,b,c,d,#[.lst someL]],C):=by
 simp![sp4,mNeg,negP,someL]
theorem sp5_eq (k:Nat)(b c d:Option SV)(C:Cs)(g:GS C k):∃y C',sp5 [some (.c k),b,c,d,#[.lst someL]] C=some (.rt (.v y),C')/\Ta 1 3 y/\Adv k C C':=by
 obtain ⟨i,C1,e1,h1,h2,a1⟩:=Zau k 20 C g 1e3
 obtain ⟨y,e2,h3⟩:=ix_all (someL++moreL) all20 i h1 (by exact h2)
 refine ⟨y,C1,?_,ta_of h3,a1⟩
 have e0:addBP (.lst someL) (.lst [.lst [],.dct [] [],.str "abcdefghijklm",.str "do"])=some (.lst (someL++moreL)):=rfl
 generalize someL++moreL=L at *
 generalize someL=S at *
 simp![sp5,mDict0,e0,e1,e2]
theorem sp23_num (k:Nat)(x:PV)(i:Int)(c e:Option SV)(w:Int)(h1:0<=w)(h2:w < 6)(C:Cs)(g:x=.int i\/∃b,x=.bl b)(z:PSt->M PF):
  (∃j,mSeq sp2 (mSeq sp3 z) [some (.c k),#[x],c,#[.int w],e] C=some (.rt (.v (.int j)),C))\/mSeq sp2 (mSeq sp3 z) [some (.c k),#[x],c,#[.int w],e] C=z [some (.c k),#[x],c,#[.int w],e] C:=by
 by_cases h:w < 4
 ·left
  have hw:w=0\/w=1\/w=2\/w=3:=by lia
  rcases g with rfl | ⟨b,rfl⟩
  ·rcases hw with rfl | rfl | rfl | rfl
   all_goals exact ⟨_,by simp![sp2,sp3,lt_int,mNeg,negP,ixQ,ixP,atI,ixN,addBP,addP];rfl⟩
  ·rcases hw with rfl | rfl | rfl | rfl
   all_goals exact ⟨_,by simp![sp2,sp3,lt_int,mNeg,negP,ixQ,ixP,atI,ixN,addBP,addP];rfl⟩
 ·right
  rcases g with rfl | ⟨b,rfl⟩
  ·simp![sp2,sp3,lt_int,h]
  ·simp![sp2,sp3,lt_int,h]
theorem sp23_oth (k:Nat)(x:PV)(c e:Option SV)(w:Int)(C:Cs)(o:okA x=true)(t:isT x=false)(g:(∀i,x≠.int i)/\∀b,x≠.bl b)(z:PSt->M PF):
  mSeq sp2 (mSeq sp3 z) [some (.c k),#[x],c,#[.int w],e] C=z [some (.c k),#[x],c,#[.int w],e] C:=by
 cases x with
 | int i=>exact absurd rfl (g.1 i)
 | bl b=>exact absurd rfl (g.2 b)
 | tup xs=>cases t
 | dtt a b=>unfold okA at o;cases o
 | fn a=>unfold okA at o;cases o
 | ty a=>unfold okA at o;cases o
 | _=>simp![sp2,sp3]
theorem cut_mem {xs:List PV}{lo hi:Option Int}:∀p∈cutP xs lo hi,p∈xs:=fun p h=>Vu (Xv h)
theorem cut_last (xs:List PV):(cutP xs (some (-1)) none).length<=1:=by
 unfold cutP
 rw[Y7,XN]
 simp[HT.sIx]
 lia
theorem Ta.sub {n B D:Nat}{xs ys:List PV}(h:Ta n B (.tup xs))(hs:∀p∈ys,p∈xs\/p=.int 0)(hl:ys.length<=D)(hB:B<=D):Ta n D (.tup ys):=by
 cases n with
 | zero=>have:=h.d;unfold td at this;lia
 | succ n=>
  refine Ta.mk_tup hl fun p hp=>?_
  rcases hs p hp with q | rfl
  ·exact (h.of_tup.2 p q).mono (Yk _) hB
  ·exact ⟨rfl,YT _,rfl⟩
theorem sp23_tup (k n B:Nat)(xs:List PV)(c e:Option SV)(w:Int)(h1:0<=w)(h2:w < 6)(C:Cs)(h:Ta n B (.tup xs))(hB:B<=1000)(z:PSt->M PF):
  (∃y,mSeq sp2 (mSeq sp3 z) [some (.c k),#[.tup xs],c,#[.int w],e] C=some (.rt (.v y),C)/\Ta n (B + 1) y)\/mSeq sp2 (mSeq sp3 z) [some (.c k),#[.tup xs],c,#[.int w],e] C=z [some (.c k),#[.tup xs],c,#[.int w],e] C:=by
 by_cases hw4:w < 4
 ·left
  have hl:=h.len
  have hcl:=cut_last xs
  have hc1:=cut_len xs (some 1) none
  have hw:[PV.lst xs,.tup (cutP xs (some 1) none),.tup (xs++cutP xs (some (-1)) none),.tup (xs++[.int 0])].all (taB n (B + 1))=true:=by
   simp only[Y9,List.all_nil,Bool.and_true,Yd]
   refine ⟨to_ta (h.lst _ _),to_ta (h.sub (fun p hp=>.inl (cut_mem p hp)) 1e3 1e3),to_ta (h.sub (fun p hp=>.inl ?_) (by rw[Y8];lia) 1e3),to_ta (h.sub (fun p hp=>?_) (by rw[Y8];simp;lia) 1e3)⟩
   ·rcases YX.mp hp with q | q
    ·exact q
    ·exact cut_mem p q
   ·rcases YX.mp hp with q | q
    ·exact .inl q
    ·exact .inr (by simpa using q)
  obtain ⟨y,e2,hy⟩:=ix_all _ hw w h1 (by simpa using hw4)
  refine ⟨y,?_,ta_of hy⟩
  have a1:addBP (.tup xs) (.tup (cutP xs (some (-1)) none))=some (.tup (xs++cutP xs (some (-1)) none)):=by
   simp[addBP,addP];lia
  have a2:addBP (.tup xs) (.tup [.int 0])=some (.tup (xs++[.int 0])):=by
   simp[addBP,addP];lia
  generalize hz1:cutP xs (some (-1)) none=Z1 at *
  generalize hz2:cutP xs (some 1) none=Z2 at *
  have hl2:xs.length<=100000:=by lia
  simp![sp2,lt_int,hw4,mNeg,negP,hz1,hz2,a1,a2,e2,hl2]
 ·right
  simp![sp2,sp3,lt_int,hw4]
theorem spB (k n B:Nat)(x:PV)(c d e:Option SV)(C:Cs)(g:GS C k)(h:Ta n B x)(h3:3<=B)(hB:B<=1000):
  ∃y C',mSeq sp1 (mSeq sp2 (mSeq sp3 (mSeq sp4 sp5))) [some (.c k),#[x],c,d,e] C=some (.rt (.v y),C')/\Ta (n + 1) (B + 1) y/\Adv k C C':=by
 obtain ⟨w,C1,e1,w1,w2,a1⟩:=Zau k 6 C g 1e3
 have s1:sp1 [some (.c k),#[x],c,d,e] C=some (.nx [some (.c k),#[x],c,#[.int w],e],C1):=by
  simp![sp1,e1]
 rw[Zcc s1]
 have fin:∃y C',mSeq sp4 sp5 [some (.c k),#[x],c,#[.int w],e] C1=some (.rt (.v y),C')/\Ta (n + 1) (B + 1) y/\Adv k C C':=by
  rw[Zcc (sp4_eq _ _ _ _ _ C1)]
  obtain ⟨y,C2,e2,t2,a2⟩:=sp5_eq k #[x] c #[.int w] C1 a1.gs
  exact ⟨y,C2,e2,t2.mono 1e3 1e3,a1.trans a2⟩
 generalize mSeq sp4 sp5=z at *
 cases ht:isT x with
 | true=>
  cases x with
  | tup xs=>
   rcases sp23_tup k n B xs c e w w1 w2 C1 h hB z with ⟨y,ey,ty⟩ | q
   ·exact ⟨y,C1,ey,ty.mono 1e3 1e3,a1⟩
   ·rw[q];exact fin
  | _=>cases ht
 | false=>
  by_cases gi:(∀i,x≠.int i)/\∀b,x≠.bl b
  ·rw[sp23_oth k x c e w C1 h.a ht gi z];exact fin
  ·have gi:∃i,x=.int i\/∃b,x=.bl b:=by
    cases x with
    | int i=>exact ⟨i,.inl rfl⟩
    | bl b=>exact ⟨0,.inr ⟨b,rfl⟩⟩
    | _=>exact absurd ⟨fun _=>nofun,fun _=>nofun⟩ gi
   obtain ⟨i,gi⟩:=gi
   rcases sp23_num k x i c e w w1 w2 C1 gi z with ⟨j,ej⟩ | q
   ·exact ⟨.int j,C1,ej,⟨rfl,YT _,rfl⟩,a1⟩
   ·rw[q];exact fin
theorem cut_to (xs:List PV)(i:Int)(h:0<=i)(h2:i<=xs.length):cutP xs none (some i)=xs.take i.toNat:=by
 have e:HT.sIx xs.length xs.length (some i)=i.toNat:=by unfold HT.sIx;simp only[];rw[if_neg 1e3];lia
 unfold cutP
 rw[e]
 simp[HT.sIx]
theorem cut_from (xs:List PV)(i:Int)(h:0<=i)(h2:i<=xs.length):cutP xs (some i) none=xs.drop i.toNat:=by
 have e:HT.sIx xs.length 0 (some i)=i.toNat:=by unfold HT.sIx;simp only[];rw[if_neg 1e3];lia
 have e2:HT.sIx xs.length xs.length none=xs.length:=rfl
 unfold cutP
 rw[e,e2]
 exact Ww (by rw[XN];lia)
theorem sp0_skip (Z:List SV->M SV)(k:Nat)(x:PV)(c d e:Option SV)(C:Cs)(o:okA x=true)(h:isT x=false\/x=.tup []):sp0 Z [some (.c k),#[x],c,d,e] C=some (.nx [some (.c k),#[x],c,d,e],C):=by
 rcases h with h | rfl
 ·cases x with
  | tup xs=>cases h
  | dtt a b=>unfold okA at o;cases o
  | fn a=>unfold okA at o;cases o
  | ty a=>unfold okA at o;cases o
  | _=>simp![sp0]
 ·simp![sp0,empP]
theorem spoilt_ta:∀(n B:Nat) (f:Nat) (x:PV) (k:Nat) (C:Cs),GS C k->Ta n B x->3<=B->B<=1000->n < f->∃y C',F_qau f [.c k,.v x] C=some (.v y,C')/\Ta (n + 1) (B + 1) y/\Adv k C C':=by
 intro n
 induction n with
 | zero=>
  intro B f x k C g h h3 hB hf
  obtain ⟨f,rfl⟩:∃m,f=m + 1:=⟨f - 1,by lia⟩
  have ht:isT x=false:=by
   cases x with
   | tup xs=>have:=h.d;unfold td at this;lia
   | _=>rfl
  obtain ⟨y,C1,e1,t1,a1⟩:=spB k 0 B x none none none C g h h3 hB
  refine ⟨y,C1,?_,t1,a1⟩
  have q:=Zcc (g:=mSeq sp1 (mSeq sp2 (mSeq sp3 (mSeq sp4 sp5)))) (sp0_skip (F_qau f) k x none none none C h.a (.inl ht))
  rw[e1,←sp_split] at q
  unfold F_qau
  generalize B_qau (F_qau f)=b at q ⊢
  have tk:=a1.take
  simp[mDef,bnd,q,fin,tk]
 | succ n ih=>
  intro B f x k C g h h3 hB hf
  obtain ⟨f,rfl⟩:∃m,f=m + 1:=⟨f - 1,by lia⟩
  have key:∃y C',mSeq (sp0 (F_qau f)) (mSeq sp1 (mSeq sp2 (mSeq sp3 (mSeq sp4 sp5)))) [some (.c k),#[x],none,none,none] C=some (.rt (.v y),C')/\Ta (n + 1 + 1) (B + 1) y/\Adv k C C':=by
   by_cases ht:isT x=false\/x=.tup []
   ·rw[Zcc (sp0_skip (F_qau f) k x none none none C h.a ht)]
    exact spB k (n + 1) B x none none none C g h h3 hB
   ·obtain ⟨xs,rfl,hne⟩:∃xs,x=.tup xs/\xs≠[]:=by
     cases x with
     | tup xs=>exact ⟨xs,rfl,fun q=>ht (.inr (by rw[q]))⟩
     | _=>exact absurd (.inl rfl) ht
    have hem:xs.isEmpty=false:=by cases xs with
     | nil=>exact absurd rfl hne
     | cons a b=>rfl
    have hpos:0 < xs.length:=List.length_pos_iff.mpr hne
    have hlen:=h.len
    obtain ⟨w,C1,e1,w1,w2,a1⟩:=Zau k 6 C g 1e3
    by_cases hw:0 < w
    ·obtain ⟨i,C2,e2,i1,i2,a2⟩:=Zau k (xs.length:Int) C1 a1.gs 1e3
     have hi:i.toNat < xs.length:=by lia
     have ei:ixQ (.tup xs) (.int i)=some xs[i.toNat]:=by simp[ixQ,ixP,atI,ixN,i1,i2,Ya hi]
     obtain ⟨y,C3,e3,t3,a3⟩:=ih B f xs[i.toNat] k C2 a2.gs (h.of_tup.2 _ (Y5 hi)) h3 hB 1e3
     have c1:=cut_to xs i i1 1e3
     have c2:=cut_from xs (i + 1) 1e3 1e3
     refine ⟨.tup (xs.take i.toNat++[y]++xs.drop (i + 1).toNat),C3,?_,?_,(a1.trans a2).trans a3⟩
     ·have l1:(xs.take i.toNat).length<=1000:=by rw[Y7];lia
      have l2:(xs.drop (i + 1).toNat).length<=1000:=by rw[XN];lia
      have b1:addBP (.int i) (.int 1)=some (.int (i + 1)):=rfl
      generalize xs.take i.toNat=A at *
      generalize xs.drop (i + 1).toNat=D at *
      have b2:addBP (.tup A) (.tup [y])=some (.tup (A++[y])):=by simp[addBP,addP];lia
      have b3:addBP (.tup (A++[y])) (.tup D)=some (.tup (A++[y]++D)):=by
       have:(A++[y]).length + D.length<=1000000:=by rw[Y8];simp;lia
       show (if (A++[y]).length + D.length<=1000000 then some (PV.tup (A++[y]++D)) else none)=_
       rw[if_pos this]
      generalize A++[y]++D=ADY at *
      generalize A++[y]=AY at *
      generalize xs[i.toNat]=xi at *
      generalize F_qau f=Z at *
      simp![sp0,empP,hem,e1,gtP,hw,e2,ei,e3,c1,c2,b1,b2,b3]
     ·refine Ta.mk_tup ?_ fun p hp=>?_
      ·simp;lia
      ·rcases YX.mp hp with hp | hp
       ·rcases YX.mp hp with hp | hp
        ·exact (h.of_tup.2 p (Xv hp)).mono 1e3 1e3
        ·rw[YD.mp hp];exact t3
       ·exact (h.of_tup.2 p (Vu hp)).mono 1e3 1e3
    ·have q:sp0 (F_qau f) [some (.c k),#[.tup xs],none,none,none] C=some (.nx [some (.c k),#[.tup xs],none,none,none],C1):=by
      generalize F_qau f=Z at *
      simp![sp0,empP,hem,e1,gtP,hw]
     rw[Zcc q]
     obtain ⟨y,C2,e2,t2,a2⟩:=spB k (n + 1) B (.tup xs) none none none C1 a1.gs h h3 hB
     exact ⟨y,C2,e2,t2,a1.trans a2⟩
  obtain ⟨y,C1,q,t1,a1⟩:=key
  refine ⟨y,C1,?_,t1,a1⟩
  rw[←sp_split] at q
  unfold F_qau
  generalize B_qau (F_qau f)=b at q ⊢
  have tk:=a1.take
  simp[mDef,bnd,q,fin,tk]
theorem ZcC {α:Type}{f:α->PV}(h:∀x,dat (f x)=true):∀l:List α,dats (l.map f)=true
 | []=>rfl
 | a::l=>by rw[YO];unfold dats;rw[h a,ZcC h l];rfl
theorem ZcB {α:Type}{f:α->PV}{n:Nat}(h:∀x,dep (f x)<=n):∀l:List α,deps (l.map f)<=n
 | []=>YT _
 | a::l=>by rw[YO];unfold deps;have:=h a;have:=ZcB h l;lia
theorem purs_map {α:Type}{f:α->PV}(h:∀x,pur (f x)=true):∀l:List α,purs (l.map f)=true
 | []=>rfl
 | a::l=>by rw[YO];unfold purs;rw[h a,purs_map h l];rfl
theorem dat_kP (k:Key):dat (kP k)=true:=by cases k<;>rfl
theorem dep_kP (k:Key):dep (kP k)<=0:=by cases k<;>exact Yk _
theorem pur_kP (k:Key):pur (kP k)=true:=by cases k<;>rfl
theorem dat_tupK (k:List Key):dat (tupK k)=true:=by unfold tupK dat;exact ZcC dat_kP k
theorem dep_tupK (k:List Key):dep (tupK k)<=1:=by unfold tupK dep;have:=ZcB dep_kP k;lia
theorem pur_tupK (k:List Key):pur (tupK k)=true:=by unfold tupK pur;exact purs_map pur_kP k
theorem eqD_nm (a b:List Key):eqD (tupK a) (tupK b)=decide (a=b):=by
 by_cases h:a=b
 ·subst h;rw[decide_eq_true rfl];exact Zb7 (pur_tupK a)
 ·rw[decide_eq_false h]
  cases e:eqD (tupK a) (tupK b) with
  | false=>rfl
  | true=>
   have:=(Zbp (tupK a) (pur_tupK a) (pur_tupK b)).mp e
   unfold tupK at this
   have h2:a.map kP=b.map kP:=by simpa using this
   have h3:=Zbf a
   rw[h2,Zbf] at h3
   exact absurd (YA h3).symm h
noncomputable def azs:Str:="abcdefghijklmnopqrstuvwxyz"
def azc (d:Int):Nat:=azs.cps.toList.getD d.toNat 0
noncomputable def sfx (d:Int):Str:=(["","zq","x","qqzzx"]:List Str).getD d.toNat ""
theorem az_inj:∀i j:Fin 26,azs.cps.toList.getD i.1 0=azs.cps.toList.getD j.1 0->i=j:=by decide +kernel
theorem azc_inj {a b:Int}(ha:0<=a/\a < 26)(hb:0<=b/\b < 26)(h:azc a=azc b):a=b:=by
 have:=az_inj ⟨a.toNat,by lia⟩ ⟨b.toNat,by lia⟩ h
 have h2:a.toNat=b.toNat:=by simpa using this
 lia
theorem ix_azc (d:Int)(h:0<=d/\d < 26):ixQ (.str "abcdefghijklmnopqrstuvwxyz") (.int d)=some (.str ⟨[azc d].toArray⟩):=by
 have hl:azs.cps.toList.length=26:=by rfl
 have hd:d.toNat < azs.cps.toList.length:=by lia
 have h3:d < ((azs.cps.toList.length:Nat):Int):=by lia
 show (atI azs.cps.toList d).map _=_
 unfold atI ixN
 rw[if_pos h.1,if_pos h3]
 show ((azs.cps.toList[d.toNat]?).map _)=_
 unfold azc
 rw[Ya hd,YE,Ya hd]
 rfl
def wd (f s:Int)(j:Nat):Str:=(⟨[azc ((f + s * j) % 26)].toArray⟩:Str)++sfx ((f + j * j) % 4)
theorem sfx_len (d:Int)(h:0<=d/\d < 4):(sfx d).length<=5:=by
 have:d=0\/d=1\/d=2\/d=3:=by lia
 rcases this with rfl | rfl | rfl | rfl<;>decide +kernel
theorem ix_sfx (d:Int)(h:0<=d/\d < 4):ixQ (.lst [.str "",.str "zq",.str "x",.str "qqzzx"]) (.int d)=some (.str (sfx d)):=by
 have:d=0\/d=1\/d=2\/d=3:=by lia
 rcases this with rfl | rfl | rfl | rfl<;>simp[ixQ,ixP,atI,ixN,sfx]
theorem app_cps (a b:Str):(a++b).cps=a.cps++b.cps:=rfl
theorem app_len (a b:Str):(a++b).length=a.length + b.length:=by
 show (a.cps++b.cps).size=a.cps.size + b.cps.size
 simp
theorem wd_len (f s:Int)(j:Nat):(wd f s j).length<=10:=by
 unfold wd
 rw[app_len]
 have:=sfx_len ((f + j * j) % 4) ⟨Y1 _ 2e4,YQ _ 2e4⟩
 show 1 + _<=10
 lia
def stepOk (s:Int):Prop:=s=1\/s=3\/s=5\/s=7\/s=9\/s=11
theorem wd_inj {f s:Int}(hs:stepOk s){i j:Nat}(hi:i < 16)(hj:j < 16)(h:wd f s i=wd f s j):i=j:=by
 have h0:(wd f s i).cps[0]? = (wd f s j).cps[0]?:=by rw[h]
 unfold wd at h0
 rw[app_cps,app_cps] at h0
 have h1:azc ((f + s * i) % 26)=azc ((f + s * j) % 26):=by
  rw[VI 3e4,VI 3e4] at h0
  simpa using h0
 have h2:=azc_inj ⟨Y1 _ 2e4,YQ _ 2e4⟩ ⟨Y1 _ 2e4,YQ _ 2e4⟩ h1
 rcases hs with rfl | rfl | rfl | rfl | rfl | rfl<;>lia
theorem wd_tab:∀i:Fin 26,∀j:Fin 4,wordB ((⟨[azs.cps.toList.getD i.1 0].toArray⟩:Str)++(["","zq","x","qqzzx"]:List Str).getD j.1 "")=true/\((⟨[azs.cps.toList.getD i.1 0].toArray⟩:Str)++(["","zq","x","qqzzx"]:List Str).getD j.1 "")≠"bell":=by decide +kernel
theorem wd_word (f s:Int)(j:Nat):wordB (wd f s j)=true/\wd f s j≠"bell":=by
 have h1:0<=(f + s * j) % 26:=Y1 _ 2e4
 have h2:(f + s * j) % 26 < 26:=YQ _ 2e4
 have h3:0<=(f + j * j) % 4:=Y1 _ 2e4
 have h4:(f + j * j) % 4 < 4:=YQ _ 2e4
 exact wd_tab ⟨((f + s * j) % 26).toNat,by lia⟩ ⟨((f + j * j) % 4).toNat,by lia⟩
abbrev wdt:PSt->M SV:=mOp 6e7 (mOp 2e7 2e9 (mOp (g2 modP) (mOp 6e7 4e9 (mOp (g2 mulP) (mVar 3) 1e7)) (mC (.int 26)))) (mOp 2e7 (mVal (mLst (aCons (mC (.str "")) (aCons (mC (.str "zq")) (aCons (mC (.str "x")) (aCons (mC (.str "qqzzx")) aNil)))))) (mOp (g2 modP) (mOp 6e7 4e9 (mOp (g2 mulP) 1e7 1e7)) 5e6))
theorem wdt_gen (f s j:Int)(az c z:Str)(h1:ixQ (.str az) (.int ((f + s * j) % 26))=some (.str c))(h2:ixQ (.lst [.str "",.str "zq",.str "x",.str "qqzzx"]) (.int ((f + j * j) % 4))=some (.str z))(hl:c.length + z.length<=1000000)(hs:-18446744073709551616 < s/\s < 18446744073709551616)(hj:-18446744073709551616 < j/\j < 18446744073709551616)(C:Cs):
  wdt [#[.int j],#[.str az],#[.int f],#[.int s]] C=some (.v (.str (c++z)),C):=by
 simp![addP,hs,hj,h1,h2,hl]
theorem one_len (c:Nat):(⟨[c].toArray⟩:Str).length=1:=rfl
theorem wdt_eq (f s:Int)(j:Nat)(hf:0<=f/\f < 26)(hs:stepOk s)(hj:j < 16)(C:Cs):wdt [#[(.int (0 + (j:Int)))],#[.str "abcdefghijklmnopqrstuvwxyz"],#[.int f],#[.int s]] C=some (.v (.str (wd f s j)),C):=by
 rw[Int.zero_add]
 unfold wd
 refine wdt_gen f s (j:Int) _ _ _ (ix_azc _ ⟨Y1 _ 2e4,YQ _ 2e4⟩) (ix_sfx _ ⟨Y1 _ 2e4,YQ _ 2e4⟩) ?_ ?_ ?_ C
 ·have h3:=sfx_len ((f + j * j) % 4) ⟨Y1 _ 2e4,YQ _ 2e4⟩
  rw[one_len];lia
 ·unfold stepOk at hs;lia
 ·lia
theorem words_adv (k:Nat)(C:Cs)(h:GS C k):∃(ws:4e6) (C':Cs),F_qbe [.c k,.v (.int 16)] C=some (.v (.lst (ws.map .str)),C')/\ws.length=16/\ws.Nodup/\(∀w∈ws,w.length<=10/\wordB w=true/\w≠"bell")/\Adv k C C':=by
 obtain ⟨d,C1,e1,d1,d2,a1⟩:=Zau k 26 C h 2e4
 obtain ⟨s,C2,e2,s1,s2,a2⟩:=Zau k 6 C1 a1.gs 2e4
 have a:=a1.trans a2
 obtain ⟨st,ep,hst⟩:∃st,ixQ (.lst [.int 1,.int 3,.int 5,.int 7,.int 9,.int 11]) (.int s)=some (.int st)/\stepOk st:=by
  have:s=0\/s=1\/s=2\/s=3\/s=4\/s=5:=by lia
  rcases this with rfl | rfl | rfl | rfl | rfl | rfl
  ·exact ⟨1,rfl,.inl rfl⟩
  ·exact ⟨3,rfl,.inr (.inl rfl)⟩
  ·exact ⟨5,rfl,.inr (.inr (.inl rfl))⟩
  ·exact ⟨7,rfl,.inr (.inr (.inr (.inl rfl)))⟩
  ·exact ⟨9,rfl,.inr (.inr (.inr (.inr (.inl rfl))))⟩
  ·exact ⟨11,rfl,.inr (.inr (.inr (.inr (.inr rfl))))⟩
 have hF:F_qbe=mDef 2 3 (mSeq (mSet 2 (mC (.str "abcdefghijklmnopqrstuvwxyz"))) (mSeq (mSet 3 (mFn F_qaq (aCons 1e7 (aCons (mC (.int 26)) aNil)))) (mSeq (mSet 4 (mOp 2e7 (mVal (mLst (aCons 1e5 (aCons 6e9 (aCons (mC (.int 5)) (aCons (mC (.int 7)) (aCons (mC (.int 9)) (aCons (mC (.int 11)) aNil)))))))) (mFn F_qaq (aCons 1e7 (aCons (mC (.int 6)) aNil))))) (mRetF (mComp (mRange1 6e3) ["_law_k"] [2,3,4] 6e8 tOk wdt))))):=rfl
 rw[hF]
 have ec:=ZaV (te:=wdt) (f:=fun p=>match p with | .int i=>.str (wd d st i.toNat) | _=>.non) ((Yg 16).map fun (j:Nat)=>PV.int (0 + j)) [none,#[.str "abcdefghijklmnopqrstuvwxyz"],#[.int d],#[.int st]] [] C2 (fun x hx=>by
  obtain ⟨j,hj,rfl⟩:=YM.mp hx
  have:=wdt_eq d st j ⟨d1,d2⟩ hst (Y0.mp hj) C2
  show wdt [#[(.int (0 + (j:Int)))],_,_,_] C2=some (.v (.str (wd d st (0 + (j:Int)).toNat)),C2)
  rw[show (0 + (j:Int)).toNat=j by lia]
  exact this)
 rw[Xa,Xb] at ec
 have em:(Yg 16).map ((fun p=>match p with | .int i=>.str (wd d st i.toNat) | _=>.non) ∘ fun (j:Nat)=>PV.int (0 + (j:Int)))=((Yg 16).map (wd d st)).map PV.str:=by
  rw[Xb]
  apply VD
  intro j hj
  show PV.str (wd d st (0 + (j:Int)).toNat)=_
  rw[show (0 + (j:Int)).toNat=j by lia];rfl
 rw[em] at ec
 refine ⟨(Yg 16).map (wd d st),C2,?_,by simp,?_,?_,a⟩
 ·have hr:rng1P [.v (.int 16)]=some ((Yg 16).map fun (j:Nat)=>PV.int (0 + j)):=rfl
  have hl9:((Yg 16).map fun (j:Nat)=>PV.int (0 + j)).length<=100000:=by decide
  generalize ((Yg 16).map fun (j:Nat)=>PV.int (0 + j))=rs at ec hr hl9
  generalize ((Yg 16).map (wd d st)).map PV.str=zs at ec
  generalize ("abcdefghijklmnopqrstuvwxyz":Str)=az at ec ⊢
  generalize wdt=te at ec
  simp[mDef,mSeq,mSet,mC,bnd,Pu.ret,mFn,aCons,aNil,mVar,e1,e2,mOp,mVal,mLst,Pu.plain,opM,g2,deref,ep,mRetF,mComp,mRange1,hr,hl9,stIn',ec,a.take]
 ·rw[YR,XC]
  refine XJ (fun {x y} hx hy hne e=>?_) (YR.mp WR)
  exact hne (wd_inj hst (Y0.mp hx) (Y0.mp hy) e)
 ·intro w hw
  obtain ⟨j,_,rfl⟩:=YM.mp hw
  exact ⟨wd_len _ _ _,wd_word _ _ _⟩
noncomputable def szP (zs:List Int):PV:=.lst (zs.map .int)
structure SzOk (zs:List Int):Prop where
 ne:0 < zs.length
 le:zs.length<=12
 rg:∀z∈zs,1<=z/\z<=9
structure EvG (own H on:Int)(zs:List Int)(ks:List Key):Prop where
 b:evB own H on zs (tupK ks)=true
 l:ks.length<=4
theorem szP_inj {a b:List Int}(h:szP a=szP b):a=b:=by
 unfold szP at h
 injection h with h
 exact (List.map_inj_right (fun x y e=>by injection e)).mp h
theorem ix_ints {zs:List Int}(h:SzOk zs)(d:Int)(h1:0<=d)(h2:d < zs.length):∃z,ixQ (szP zs) (.int d)=some (.int z)/\1<=z/\z<=9/\z=(zs[d.toNat]?).getD 0:=by
 have hd:d.toNat < zs.length:=by lia
 refine ⟨zs[d.toNat],?_,(h.rg _ (Y5 hd)).1,(h.rg _ (Y5 hd)).2,by rw[Ya hd];rfl⟩
 simp[szP,ixQ,ixP,atI,ixN,h1,h2,Ya hd]
theorem ix_szs {os:List (List Int)}(h:∀z∈os,SzOk z)(d:Int)(h1:0<=d)(h2:d < os.length):∃z,ixQ (.lst (os.map szP)) (.int d)=some (szP z)/\SzOk z:=by
 have hd:d.toNat < os.length:=by lia
 refine ⟨os[d.toNat],?_,h _ (Y5 hd)⟩
 simp[ixQ,ixP,atI,ixN,h1,h2,Ya hd]
theorem ix_strs (ws:4e6)(d:Int)(h1:0<=d)(h2:d < ws.length):∃w∈ws,ixQ (.lst (ws.map .str)) (.int d)=some (.str w):=by
 have hd:d.toNat < ws.length:=by lia
 refine ⟨ws[d.toNat],Y5 hd,?_⟩
 simp[ixQ,ixP,atI,ixN,h1,h2,Ya hd]
theorem sd1:¬("said":Str)="joined":=by decide
theorem sd2:¬("did":Str)="joined":=by decide
theorem sd3:¬("did":Str)="said":=by decide
theorem ix0 (p:PV)(l:List PV):ixQ (.lst (p::l)) (.int 0)=some p:=by
 have:(0:Int) < (((p::l).length:Nat):Int):=by simp
 unfold ixQ ixP atI ixN
 simp only[]
 rw[if_pos (Int.le_refl 0),if_pos this];rfl
theorem event_adv (k:Nat)(H:Int)(os:List (List Int))(zs:List Int)(ws:4e6)(own:Int)(C:Cs)(g:GS C k)(hH:2<=H/\H<=8)(ho:∀z∈os,SzOk z)(hol:os.length<=100)(hz:SzOk zs)(hw:4<=ws.length)(hwb:∀w∈ws,wordB w=true):
  ∃ks C',F_qak [.c k,.v (.tup [.int H,.lst (os.map szP),szP zs]),.v (.lst (ws.map .str)),.v (.int own)] C=some (.v (tupK ks),C')/\EvG own H (os.length:Int) zs ks/\Adv k C C':=by
 obtain ⟨w,C1,e1,w1,w2,a1⟩:=Zau k 6 C g 2e4
 by_cases h2:w < 2
 ·obtain ⟨i,C2,e2,i1,i2,a2⟩:=Zau k H C1 a1.gs 1e3
  have a:=a1.trans a2
  refine ⟨[.inr "joined",.inl i],C2,?_,⟨by simp[tupK,kP,evB,evR,joB,belB,i1,i2],by simp⟩,a⟩
  generalize os.map szP=OS
  generalize szP zs=ZS
  generalize ws.map PV.str=WS
  simp![F_qak,mAsg,hTup,hCons,hName,hNil,e1,ltP,h2,e2,a.take,tupK,kP]
 ·by_cases h4:w < 4
  ·obtain ⟨i,C2,e2,i1,i2,a2⟩:=Zau k H C1 a1.gs 1e3
   obtain ⟨j,C3,e3,j1,j2,a3⟩:=Zau k 4 C2 a2.gs 2e4
   have a:=(a1.trans a2).trans a3
   obtain ⟨v,hv,ev⟩:=ix_strs ws j j1 1e3
   have ev':ixT (.lst (ws.map .str)) (.int j)=some (.str v):=ev
   refine ⟨[.inr "said",.inl i,.inr v],C3,?_,⟨by simp[tupK,kP,evB,evR,saB,belB,wordP,i1,i2,hwb v hv,sd1],by simp⟩,a⟩
   generalize os.map szP=OS
   generalize szP zs=ZS
   generalize ws.map PV.str=WS at *
   simp![F_qak,mAsg,hTup,hCons,hName,hNil,e1,ltP,h2,h4,e2,e3,ev',ev,a.take,tupK,kP]
  ·obtain ⟨i,C2,e2,i1,i2,a2⟩:=Zau k ((os.length:Int) + 1) C1 a1.gs 1e3
   obtain ⟨z,ez,hzz⟩:∃z,ixQ (.lst (szP zs::os.map szP)) (.int i)=some (szP z)/\SzOk z:=by
    have:=ix_szs (os:=zs::os) (fun y hy=>by
     rcases Yn.mp hy with rfl | hy
     ·exact hz
     ·exact ho y hy) i i1 (by simp;lia)
    simpa using this
   have hne:=hzz.ne
   have hle:=hzz.le
   obtain ⟨c,C3,e3,c1,c2,a3⟩:=Zau k (z.length:Int) C2 a2.gs 1e3
   obtain ⟨y,ey,y1,y2,y3⟩:=ix_ints hzz c c1 c2
   have hlz:lenH [szP z]=some (.int (z.length:Int)):=by simp[szP,lenH]
   have hlo:1 + (os.map szP).length<=1000000:=by simp;lia
   have hcat:addP (.lst [szP zs]) (.lst (os.map szP))=some (.lst (szP zs::os.map szP)):=by
    unfold addP;simp;lia
   have hlOS:lenH [.lst (os.map szP)]=some (.int (os.length:Int)):=by simp[lenH]
   by_cases hj:i=0/\c=own
   ·obtain ⟨b,C4,e4,b1,b2,a4⟩:=Zau k H C3 a3.gs 1e3
    have a:=((a1.trans a2).trans a3).trans a4
    refine ⟨[.inr "joined",.inl b],C4,?_,⟨by simp[tupK,kP,evB,evR,joB,belB,b1,b2],by simp⟩,a⟩
    have at':=a.take
    obtain ⟨rfl,rfl⟩:=hj
    generalize os.map szP=OS at *
    generalize szP zs=ZS at *
    generalize szP z=SZ at *
    generalize ws.map PV.str=WS
    simp[F_qak,mDef,mRet,mCB,mOp,mTest,mAndT,mIfS,mSeq,mSkip,mSet,mTup,mLst,mVal,mFn,bnd,opM,aCons,aNil,mVar,mC,Pu.ret,g1,g2,derefs,deref,mB,asB,intP,fin,Pu.plain,eqP,scP,mAsg,hTup,hCons,hName,hNil,e1,ltP,h2,h4,hlOS,hlo,addP,e2,ez,hlz,e3,e4,at',tupK,kP]
   ·obtain ⟨b,C4,e4,b1,b2,a4⟩:=Zau k y C3 a3.gs 1e3
    have a:=((a1.trans a2).trans a3).trans a4
    have hev:EvG own H (os.length:Int) zs [.inr "did",.inl i,.inl c,.inl b]:=by
     refine ⟨?_,by simp⟩
     by_cases hi0:i=0
     ·have hc:c≠own:=fun q=>hj ⟨hi0,q⟩
      subst hi0
      have hzz:z=zs:=by
       have:ixQ (.lst (szP zs::os.map szP)) (.int 0)=some (szP zs):=ix0 _ _
       rw[this] at ez
       injection ez with ez
       exact (szP_inj ez).symm
      subst hzz
      have b2':b < z[c.toNat]?.getD 0:=by rw[←y3];exact b2
      have hon:(0:Int) < (os.length:Int) + 1:=by lia
      have h0:belB (.int 0) ((os.length:Int) + 1)=true:=by simp[belB,hon]
      have h1:belB (.int c) (z.length:Int)=true:=by simp[belB,c1,c2]
      have h2:belB (.int b) (z[c.toNat]?.getD 0)=true:=by simp only[belB,decide_eq_true b1,decide_eq_true b2'];rfl
      show evR "did" own H (os.length:Int) z [.int 0,.int c,.int b]=true
      unfold evR
      rw[if_neg sd2,if_neg sd3,if_pos rfl]
      show didB own (os.length:Int) z (.int 0) (.int c) (.int b)=true
      unfold didB
      simp only[h0,h1,h2,Int.lt_irrefl,if_false,decide_eq_true hc]
      rfl
     ·have hip:0 < i:=by lia
      have c2':c < 12:=by lia
      have b2':b < 9:=by lia
      simp[tupK,kP,evB,evR,sd2,sd3,diB,didB,belB,i1,i2,hip,c1,c2',b1,b2']
    refine ⟨[.inr "did",.inl i,.inl c,.inl b],C4,?_,hev,a⟩
    have at':=a.take
    generalize os.map szP=OS at *
    generalize szP zs=ZS at *
    generalize szP z=SZ at *
    generalize ws.map PV.str=WS
    by_cases hi0:i=0
    ·have hc:¬c=own:=fun q=>hj ⟨hi0,q⟩
     subst hi0
     simp[F_qak,mDef,mRet,mCB,mOp,mTest,mAndT,mIfS,mSeq,mSkip,mSet,mTup,mLst,mVal,mFn,bnd,opM,aCons,aNil,mVar,mC,Pu.ret,g1,g2,derefs,deref,mB,asB,intP,fin,Pu.plain,eqP,scP,mAsg,hTup,hCons,hName,hNil,e1,ltP,h2,h4,hlOS,hlo,addP,e2,ez,hlz,e3,hc,ey,e4,at',tupK,kP]
    ·simp[F_qak,mDef,mRet,mCB,mOp,mTest,mAndT,mIfS,mSeq,mSkip,mSet,mTup,mLst,mVal,mFn,bnd,opM,aCons,aNil,mVar,mC,Pu.ret,g1,g2,derefs,deref,mB,asB,intP,fin,Pu.plain,eqP,scP,mAsg,hTup,hCons,hName,hNil,e1,ltP,h2,h4,hlOS,hlo,addP,e2,ez,hlz,e3,hi0,ey,e4,at',tupK,kP]
theorem ZaF {f g:PSt->M PF}{ρ ρ1:PSt}{C C1:Cs}(h:f ρ C=some (.nx ρ1,C1)):mSeq f g ρ C=g ρ1 C1:=by
 unfold mSeq bnd;rw[h]
theorem loop_idx {g:5e4}{f:PSt->M PF}(Pi:Nat->PSt->Cs->Prop)(N:Nat):∀(xs:List PV) (i:Nat),i + xs.length<=N->(∀x∈xs,∀i ρ C,i < N->Pi i ρ C->∃ρ1 ρ2 C2,g x ρ=some ρ1/\f ρ1 C=some (.nx ρ2,C2)/\Pi (i + 1) ρ2 C2)->∀ρ C,Pi i ρ C->∃ρ' C',loop g f xs ρ C=some (.nx ρ',C')/\Pi (i + xs.length) ρ' C'
 | [],i,_,_,ρ,C,h=>⟨ρ,C,rfl,h⟩
 | x::xs,i,hN,hs,ρ,C,h=>by
  simp only[YL] at hN
  obtain ⟨ρ1,ρ2,C2,e1,e2,h2⟩:=hs x 3e4 i ρ C 1e3 h
  obtain ⟨ρ',C',e3,h3⟩:=loop_idx Pi N xs (i + 1) 1e3 (fun y hy=>hs y (by simp[hy])) ρ2 C2 h2
  refine ⟨ρ',C',?_,by simpa[Nat.add_assoc,Nat.add_comm 1] using h3⟩
  unfold loop
  simp only[e1,bnd,e2,e3]
structure Cl where
 a:Int
 b:Int
 p:Int
 w:Int
 cs:List (List Key)
 lv:Option (List Key×Int)
def lvP:Option (List Key×Int)->PV
 | none=>.tup []
 | some (e,n)=>.tup [tupK e,.int n]
def Cl.P (c:Cl):PV:=.tup [.int c.a,.int c.b,.int c.p,.int c.w,.tup (c.cs.map tupK),lvP c.lv]
structure ClG (own H on:Int)(zs:List Int)(c:Cl):Prop where
 a:0<=c.a/\c.a < H
 b:0<=c.b/\c.b < H
 ab:c.a≠c.b
 p:1<=c.p/\c.p<=9
 w:1<=c.w
 cs:∀e∈c.cs,EvG own H on zs e
 nd:c.cs.Nodup
 le:c.cs.length<=8
 lv:∀e n,c.lv=some (e,n)->EvG own H on zs e/\e∉c.cs/\1<=n
abbrev evt:PSt->M SV:=mFn F_qak (aCons 1e7 (aCons (mTup (aCons 2e9 (aCons (mVar 3) (aCons 4e9 aNil)))) (aCons 7e0 (aCons (mVar 6) aNil))))
abbrev ebd:PSt->M PF:=mSeq (mSet 12 evt) (mIfS (mTest (mOp (g2 (inDP true)) (mVar 12) (mVar 10))) (mDrop (mApp (mVar 10) (aCons (mVar 12) aNil))) mSkip)
section
variable (k m n:Nat)(H:Int)(os:List (List Int))(zs:List Int)(ws:4e6)
abbrev bas:PSt:=[some (.c k),#[.int H],#[szP zs],#[.lst (os.map szP)],3e8,some (.c m)]
theorem evt_adv (c:Int)(x7 x8 x9 x10 x11 x12 x13 x14:Option SV)(C:Cs)(g:GS C k)(hH:2<=H/\H<=8)(ho:∀z∈os,SzOk z)(hol:os.length<=100)(hz:SzOk zs)(hw:4<=ws.length)(hwb:∀w∈ws,wordB w=true):
  ∃e C',evt (bas k m H os zs ws++[#[.int c],x7,x8,x9,x10,x11,x12,x13,x14]) C=some (.v (tupK e),C')/\EvG c H (os.length:Int) zs e/\Adv k C C':=by
 obtain ⟨e,C',h,he,a⟩:=event_adv k H os zs ws c C g hH ho hol hz hw hwb
 refine ⟨e,C',?_,he,a⟩
 simp[evt,mFn,aCons,aNil,mVar,bnd,opM,Pu.ret,mTup,Pu.plain]
 exact h
theorem notin_ev (e:List Key)(es:List (List Key)):∃b,inDP true (tupK e) (.lst (es.map tupK))=some (.bl b)/\(b=true->e∉es):=by
 have h1:dats (es.map tupK)=true:=ZcC dat_tupK _
 have h2:deps (es.map tupK)<=50:=YG (ZcB dep_tupK _) 2e4
 refine ⟨!(es.map tupK).any (fun p=>eqD p (tupK e)),?_,fun h hm=>?_⟩
 ·unfold inDP
  dsimp only
  rw[h1,dat_tupK,decide_eq_true h2];rfl
 ·have:(es.map tupK).any (fun p=>eqD p (tupK e))=true:=List.any_eq_true.mpr ⟨tupK e,YM.mpr ⟨e,hm,rfl⟩,by rw[eqD_nm];exact decide_eq_true rfl⟩
  rw[this] at h;cases h
theorem ebd_ok (c:Int)(x7 x8 x9 x11 x12 x13 x14:Option SV)(C:Cs)(es:List (List Key))(g:GS C k)(hkn:k≠n)(hC:C[n]? = some (.lst (es.map tupK)))(hes:∀e∈es,EvG c H (os.length:Int) zs e)(hnd:es.Nodup)(hl:es.length<=1000)(hH:2<=H/\H<=8)(ho:∀z∈os,SzOk z)(hol:os.length<=100)(hz:SzOk zs)(hw:4<=ws.length)(hwb:∀w∈ws,wordB w=true):
  ∃(y12:Option SV) (C':Cs) (es':List (List Key)),ebd (bas k m H os zs ws++[#[.int c],x7,x8,x9,some (.c n),x11,x12,x13,x14]) C=some (.nx (bas k m H os zs ws++[#[.int c],x7,x8,x9,some (.c n),x11,y12,x13,x14]),C')/\GS C' k/\C'[n]? = some (.lst (es'.map tupK))/\(∀e∈es',EvG c H (os.length:Int) zs e)/\es'.Nodup/\es'.length<=es.length + 1/\C'.length=C.length/\∀j,j≠k->j≠n->C'[j]? = C[j]?:=by
 obtain ⟨e,C1,h1,he,a⟩:=evt_adv k m H os zs ws c x7 x8 x9 (some (.c n)) x11 x12 x13 x14 C g hH ho hol hz hw hwb
 have hn1:C1[n]? = some (.lst (es.map tupK)):=by rw[a.oth n (XT hkn)];exact hC
 obtain ⟨b,hb,hq⟩:=notin_ev e es
 have st1:mSet 12 evt (bas k m H os zs ws++[#[.int c],x7,x8,x9,some (.c n),x11,x12,x13,x14]) C=some (.nx (bas k m H os zs ws++[#[.int c],x7,x8,x9,some (.c n),x11,#[tupK e],x13,x14]),C1):=by
  unfold mSet bnd;rw[h1];rfl
 have hll:(es.map tupK).length < 100000:=by simp;lia
 cases b with
 | false=>
  refine ⟨#[tupK e],C1,es,?_,a.gs,hn1,hes,hnd,by lia,a.len,fun j h _=>a.oth j h⟩
  rw[show ebd=mSeq (mSet 12 evt) (mIfS (mTest (mOp (g2 (inDP true)) (mVar 12) (mVar 10))) (mDrop (mApp (mVar 10) (aCons (mVar 12) aNil))) mSkip) from rfl,ZaF st1]
  generalize tupK e=E at *
  generalize es.map tupK=ES at *
  simp[mIfS,mTest,mOp,bnd,mVar,opM,g2,deref,hn1,hb,mB,asB,Pu.ret,mSkip]
 | true=>
  have hq:=hq rfl
  have hnd2:(es++[e]).Nodup:=We.mpr ⟨hnd,by simp,fun x hx y hy=>by rw[YD.mp hy];intro z;subst z;exact hq hx⟩
  have hes2:(es++[e]).map tupK=es.map tupK++[tupK e]:=by simp
  refine ⟨#[tupK e],C1.set n (.lst ((es++[e]).map tupK)),es++[e],?_,?_,setAt hn1,?_,hnd2,by simp,by simp[a.len],fun j h h'=>?_⟩
  ·rw[show ebd=mSeq (mSet 12 evt) (mIfS (mTest (mOp (g2 (inDP true)) (mVar 12) (mVar 10))) (mDrop (mApp (mVar 10) (aCons (mVar 12) aNil))) mSkip) from rfl,ZaF st1,hes2]
   generalize tupK e=E at *
   generalize es.map tupK=ES at *
   simp[mIfS,mTest,mOp,bnd,mVar,opM,g2,deref,hn1,hb,mB,asB,Pu.ret,mSkip,mDrop,mApp,isLst,aCons,aNil,appC,hll]
  ·obtain ⟨x,y,h,r⟩:=a.gs
   exact ⟨x,y,by rw[YZ (XT hkn)];exact h,r⟩
  ·intro z hz'
   rcases YX.mp hz' with hz' | hz'
   ·exact hes z hz'
   ·rw[YD.mp hz'];exact he
  ·rw[YZ (XT h')];exact a.oth j h
end
abbrev crd:PSt->M SV:=mOp (g2 modP) (mOp 6e7 (mOp 6e7 (mVar 8) 1e5) (mFn F_qaq (aCons 1e7 (aCons (mOp (g2 subP) 2e9 1e5) aNil)))) 2e9
abbrev rgE:PSt->M SV:=mOp 2e7 (mVal (mLst (aCons 2e6 (aCons 1e5 (aCons 2e6 (aCons 3e2 (aCons 1e5 (aCons 2e6 (aCons 6e9 4e2))))))))) (mFn F_qaq (aCons 1e7 4e2))
abbrev lvS:PSt->M PF:=mIfS (mTest (mOp (g2 (deepP eqD)) (mFn F_qaq (aCons 1e7 (aCons 3e2 aNil))) 2e6)) (mSeq (mSet 12 evt) (mIfS (mTest (mOp (g2 (inDP true)) (mVar 12) (mVar 10))) (mSet 13 (mTup (aCons (mVar 12) (aCons (mOp 6e7 1e5 (mFn F_qaq (aCons 1e7 (aCons (mC (.int 9)) aNil)))) aNil)))) mSkip)) mSkip
abbrev wth:PSt->M SV:=mOp 2e7 (mVal (mLst (aCons (mOp 6e7 1e5 (mFn F_qaq (aCons 1e7 (aCons (mC (.int 6)) aNil)))) (aCons (mOp 6e7 1e5 (mFn F_qaq (aCons 1e7 (aCons (mC (.int 40)) aNil)))) aNil)))) (mFn F_qaq (aCons 1e7 (aCons 3e2 aNil)))
abbrev clT:PSt->M SV:=mTup (aCons (mVar 8) (aCons (mVar 9) (aCons (mVar 7) (aCons (mVar 14) (aCons (mCB (g1 tupH) (aCons (mVar 10) aNil)) (aCons (mVar 13) aNil))))))
abbrev cbd:PSt->M PF:=mSeq (mSet 8 (mFn F_qaq (aCons 1e7 6e3))) (mSeq (mSet 9 crd) (mSeq (mNew 10 (mLst aNil)) (mSeq (mFor (mRange1 (aCons rgE aNil)) (hName 11) ebd) (mSeq (mSet 13 (mTup aNil)) (mSeq lvS (mSeq (mSet 14 wth) (mDrop (mApp (mVar 5) (aCons clT aNil)))))))))
theorem clauses_is:B_qag=mSeq (mNew 5 (mLst aNil)) (mSeq (mFor (mEnum (aCons 4e9 aNil)) (hTup (hCons (hName 6) (hCons (hName 7) hNil)) 2) cbd) (mRet (mCB (g1 tupH) (aCons (mVar 5) aNil)))):=rfl
theorem mod_ne (d y H:Int)(h1:0<=d)(h2:d < H)(h3:0<=y)(h4:y < H - 1):d≠(d + 1 + y) % H:=by
 rcases (show d + 1 + y < H\/H<=d + 1 + y by lia) with q | q
 ·rw[Int.emod_eq_of_lt 1e3 q];lia
 ·have:(d + 1 + y) % H=d + 1 + y - H:=by
   rw[←Int.emod_eq_of_lt (a:=d + 1 + y - H) (b:=H) 1e3 1e3]
   rw[Int.sub_emod_right]
  rw[this];lia
section
variable (k m:Nat)(H:Int)(os:List (List Int))(zs:List Int)(ws:4e6)
theorem crd_adv (d:Int)(x6 x7 x9 x10 x11 x12 x13 x14:Option SV)(C:Cs)(g:GS C k)(hH:2<=H/\H<=8)(hd:0<=d/\d < H):
  ∃v C',crd (bas k m H os zs ws++[x6,x7,#[.int d],x9,x10,x11,x12,x13,x14]) C=some (.v (.int v),C')/\(0<=v/\v < H)/\d≠v/\Adv k C C':=by
 obtain ⟨y,C',e,y1,y2,a⟩:=Zau k (H - 1) C g 1e3
 refine ⟨(d + 1 + y) % H,C',?_,⟨Y1 _ 1e3,YQ _ 1e3⟩,mod_ne d y H hd.1 hd.2 y1 y2,a⟩
 have h1:0 < H:=by lia
 have h2:H < 1073741824:=by lia
 simp[crd,mOp,mFn,aCons,aNil,mVar,mC,bnd,opM,Pu.ret,g2,deref,addP,subP,intP,e,modP,h1,h2]
theorem rgE_adv (x6 x7 x8 x9 x10 x11 x12 x13 x14:Option SV)(C:Cs)(g:GS C k):
  ∃v C',rgE (bas k m H os zs ws++[x6,x7,x8,x9,x10,x11,x12,x13,x14]) C=some (.v (.int v),C')/\0<=v/\v<=8/\Adv k C C':=by
 obtain ⟨y,C',e,y1,y2,a⟩:=Zau k 8 C g 2e4
 obtain ⟨v,hv,h0,h8⟩:∃v,ixQ (.lst [.int 0,.int 1,.int 0,.int 2,.int 1,.int 0,.int 3,.int 8]) (.int y)=some (.int v)/\0<=v/\v<=8:=by
  obtain ⟨p,ep,hp⟩:=ix_all (okk:=fun p=>match p with | .int i=>decide (0<=i)&&decide (i<=8) | _=>false) [.int 0,.int 1,.int 0,.int 2,.int 1,.int 0,.int 3,.int 8] (by rfl) y y1 (by simpa using y2)
  cases p with
  | int i=>simp only[Yd,decide_eq_true_eq] at hp;exact ⟨i,ep,hp⟩
  | _=>cases hp
 refine ⟨v,C',?_,h0,h8,a⟩
 simp[rgE,mOp,mVal,mLst,mFn,aCons,aNil,mVar,mC,bnd,opM,Pu.ret,g2,deref,Pu.plain,e,hv]
theorem wth_adv (x6 x7 x8 x9 x10 x11 x12 x13 x14:Option SV)(C:Cs)(g:GS C k):
  ∃v C',wth (bas k m H os zs ws++[x6,x7,x8,x9,x10,x11,x12,x13,x14]) C=some (.v (.int v),C')/\1<=v/\Adv k C C':=by
 obtain ⟨y1,C1,e1,q1,_,a1⟩:=Zau k 6 C g 2e4
 obtain ⟨y2,C2,e2,q2,_,a2⟩:=Zau k 40 C1 a1.gs 2e4
 obtain ⟨y3,C3,e3,h1,h2,a3⟩:=Zau k 2 C2 a2.gs 2e4
 obtain ⟨v,hv,v1⟩:∃v,ixQ (.lst [.int (1 + y1),.int (1 + y2)]) (.int y3)=some (.int v)/\1<=v:=by
  have:y3=0\/y3=1:=by lia
  rcases this with rfl | rfl
  ·exact ⟨_,rfl,by lia⟩
  ·exact ⟨_,rfl,by lia⟩
 refine ⟨v,C3,?_,v1,(a1.trans a2).trans a3⟩
 simp[wth,mOp,mVal,mLst,mFn,aCons,aNil,mVar,mC,bnd,opM,Pu.ret,g2,deref,Pu.plain,addP,intP,e1,e2,e3,hv]
theorem lvS_ok (n:Nat)(c:Int)(x7 x8 x9 x11 x12 x14:Option SV)(C:Cs)(es:List (List Key))(g:GS C k)(hkn:k≠n)(hC:C[n]? = some (.lst (es.map tupK)))(hH:2<=H/\H<=8)(ho:∀z∈os,SzOk z)(hol:os.length<=100)(hz:SzOk zs)(hw:4<=ws.length)(hwb:∀w∈ws,wordB w=true):
  ∃(y12:Option SV) (lv:Option (List Key×Int)) (C':Cs),lvS (bas k m H os zs ws++[#[.int c],x7,x8,x9,some (.c n),x11,x12,#[.tup []],x14]) C=some (.nx (bas k m H os zs ws++[#[.int c],x7,x8,x9,some (.c n),x11,y12,#[lvP lv],x14]),C')/\(∀e i,lv=some (e,i)->EvG c H (os.length:Int) zs e/\e∉es/\1<=i)/\Adv k C C':=by
 obtain ⟨y,C1,e1,y1,y2,a1⟩:=Zau k 2 C g 2e4
 have t:deepP eqD (.int y) (.int 0)=some (.bl (y==0)):=by simp[deepP,dat,dep,eqD]
 cases hy:(y==0) with
 | false=>
  rw[hy] at t
  refine ⟨x12,none,C1,?_,(fun e i h=>(nomatch h)),a1⟩
  simp[lvS,mIfS,mTest,mOp,mFn,aCons,aNil,bnd,mVar,mC,opM,g2,deref,e1,t,mB,asB,Pu.ret,mSkip,lvP]
 | true=>
  rw[hy] at t
  obtain ⟨e,C2,h2,he,a2⟩:=evt_adv k m H os zs ws c x7 x8 x9 (some (.c n)) x11 x12 #[.tup []] x14 C1 a1.gs hH ho hol hz hw hwb
  have a12:=a1.trans a2
  have hn2:C2[n]? = some (.lst (es.map tupK)):=by rw[a12.oth n (XT hkn)];exact hC
  obtain ⟨b,hb,hq⟩:=notin_ev e es
  have st0:∀f:PSt->M PF,mIfS (mTest (mOp (g2 (deepP eqD)) (mFn F_qaq (aCons 1e7 (aCons 3e2 aNil))) 2e6)) f mSkip (bas k m H os zs ws++[#[.int c],x7,x8,x9,some (.c n),x11,x12,#[.tup []],x14]) C=f (bas k m H os zs ws++[#[.int c],x7,x8,x9,some (.c n),x11,x12,#[.tup []],x14]) C1:=fun f=>by
   simp[mIfS,mTest,mOp,mFn,aCons,aNil,bnd,mVar,mC,opM,g2,deref,e1,t,mB,asB,Pu.ret]
  have st1:mSet 12 evt (bas k m H os zs ws++[#[.int c],x7,x8,x9,some (.c n),x11,x12,#[.tup []],x14]) C1=some (.nx (bas k m H os zs ws++[#[.int c],x7,x8,x9,some (.c n),x11,#[tupK e],#[.tup []],x14]),C2):=by
   unfold mSet bnd;rw[h2];rfl
  cases b with
  | false=>
   refine ⟨#[tupK e],none,C2,?_,(fun e i h=>(nomatch h)),a12⟩
   rw[show lvS=mIfS (mTest (mOp (g2 (deepP eqD)) (mFn F_qaq (aCons 1e7 (aCons 3e2 aNil))) 2e6)) (mSeq (mSet 12 evt) (mIfS (mTest (mOp (g2 (inDP true)) (mVar 12) (mVar 10))) (mSet 13 (mTup (aCons (mVar 12) (aCons (mOp 6e7 1e5 (mFn F_qaq (aCons 1e7 (aCons (mC (.int 9)) aNil)))) aNil)))) mSkip)) mSkip from rfl,st0,ZaF st1]
   generalize tupK e=E at *
   generalize es.map tupK=ES at *
   simp[mIfS,mTest,mOp,bnd,mVar,opM,g2,deref,hn2,hb,mB,asB,Pu.ret,mSkip,lvP]
  | true=>
   have hq:=hq rfl
   obtain ⟨z,C3,e3,z1,_,a3⟩:=Zau k 9 C2 a12.gs 2e4
   refine ⟨#[tupK e],some (e,1 + z),C3,?_,(fun e' i h=>by cases h;exact ⟨he,hq,by lia⟩),a12.trans a3⟩
   rw[show lvS=mIfS (mTest (mOp (g2 (deepP eqD)) (mFn F_qaq (aCons 1e7 (aCons 3e2 aNil))) 2e6)) (mSeq (mSet 12 evt) (mIfS (mTest (mOp (g2 (inDP true)) (mVar 12) (mVar 10))) (mSet 13 (mTup (aCons (mVar 12) (aCons (mOp 6e7 1e5 (mFn F_qaq (aCons 1e7 (aCons (mC (.int 9)) aNil)))) aNil)))) mSkip)) mSkip from rfl,st0,ZaF st1]
   rw[show lvP (some (e,1 + z))=.tup [tupK e,.int (1 + z)] from rfl]
   generalize tupK e=E at *
   generalize es.map tupK=ES at *
   simp[mIfS,mTest,mOp,bnd,mVar,opM,g2,deref,hn2,hb,mB,asB,Pu.ret,mSkip,mSet,mTup,aCons,aNil,mC,mFn,e3,addP,intP,Pu.plain]
end
theorem GS.lt {C:Cs}{k:Nat}(g:GS C k):k < C.length:=by
 obtain ⟨x,y,h,_⟩:=g
 rcases YF k C.length with q | q
 ·exact q
 ·rw[Yl.mpr q] at h;cases h
theorem GS.app {C:Cs}{k:Nat}(g:GS C k)(c:PV):GS (C++[c]) k:=by
 have hl:=g.lt
 obtain ⟨x,y,h,r⟩:=g
 exact ⟨x,y,by rw[Yf hl];exact h,r⟩
section
variable (k m:Nat)(H:Int)(os:List (List Int))(zs:List Int)(ws:4e6)
theorem cbd_ok (c p:Int)(x8 x9 x10 x11 x12 x13 x14:Option SV)(C:Cs)(cs:List Cl)(g:GS C k)(hkm:k≠m)(hC:C[m]? = some (.lst (cs.map Cl.P)))(hl:cs.length<=1000)(hp:1<=p/\p<=9)(hH:2<=H/\H<=8)(ho:∀z∈os,SzOk z)(hol:os.length<=100)(hz:SzOk zs)(hw:4<=ws.length)(hwb:∀w∈ws,wordB w=true):
  ∃(y8 y9 y10 y11 y12 y13 y14:Option SV) (C':Cs) (d:Cl),cbd (bas k m H os zs ws++[#[.int c],#[.int p],x8,x9,x10,x11,x12,x13,x14]) C=some (.nx (bas k m H os zs ws++[#[.int c],#[.int p],y8,y9,y10,y11,y12,y13,y14]),C')/\ClG c H (os.length:Int) zs d/\d.p=p/\GS C' k/\C'[m]? = some (.lst ((cs++[d]).map Cl.P))/\C.length<=C'.length/\∀j,j < C.length->j≠k->j≠m->C'[j]? = C[j]?:=by
 have hml:m < C.length:=by
  rcases YF m C.length with q | q
  ·exact q
  ·rw[Yl.mpr q] at hC;cases hC
 obtain ⟨d,C1,e1,d1,d2,a1⟩:=Zau k H C g 1e3
 have st1:mSet 8 (mFn F_qaq (aCons 1e7 6e3)) (bas k m H os zs ws++[#[.int c],#[.int p],x8,x9,x10,x11,x12,x13,x14]) C=some (.nx (bas k m H os zs ws++[#[.int c],#[.int p],#[.int d],x9,x10,x11,x12,x13,x14]),C1):=by
  simp[mSet,mFn,aCons,aNil,mVar,bnd,Pu.ret,e1]
 obtain ⟨v,C2,e2,hv,hdv,a2⟩:=crd_adv k m H os zs ws d #[.int c] #[.int p] x9 x10 x11 x12 x13 x14 C1 a1.gs hH ⟨d1,d2⟩
 have a12:=a1.trans a2
 have st2:mSet 9 crd (bas k m H os zs ws++[#[.int c],#[.int p],#[.int d],x9,x10,x11,x12,x13,x14]) C1=some (.nx (bas k m H os zs ws++[#[.int c],#[.int p],#[.int d],#[.int v],x10,x11,x12,x13,x14]),C2):=by
  unfold mSet bnd;rw[e2];rfl
 have st3:mNew 10 (mLst aNil) (bas k m H os zs ws++[#[.int c],#[.int p],#[.int d],#[.int v],x10,x11,x12,x13,x14]) C2=some (.nx (bas k m H os zs ws++[#[.int c],#[.int p],#[.int d],#[.int v],some (.c C2.length),x11,x12,x13,x14]),C2++[.lst []]):=by
  simp[mNew,mLst,aNil,bnd,opM,Pu.ret,Pu.plain]
 have g3:=a12.gs.app (.lst [])
 have hkn:k≠C2.length:=Yo a12.gs.lt
 have hmn:m≠C2.length:=by rw[a12.len];lia
 obtain ⟨r,C4,e4,r0,r8,a4⟩:=rgE_adv k m H os zs ws #[.int c] #[.int p] #[.int d] #[.int v] (some (.c C2.length)) x11 x12 x13 x14 (C2++[.lst []]) g3
 have hn4:C4[C2.length]? = some (.lst (([]:List (List Key)).map tupK)):=by rw[a4.oth _ (XT hkn)];simp
 obtain ⟨ρ',C5,e5,hpi⟩:=loop_idx (g:=hName 11) (f:=ebd) (fun i ρ D=>∃(z11 z12:Option SV) (es:List (List Key)),ρ=bas k m H os zs ws++[#[.int c],#[.int p],#[.int d],#[.int v],some (.c C2.length),z11,z12,x13,x14]/\GS D k/\D[C2.length]? = some (.lst (es.map tupK))/\(∀e∈es,EvG c H (os.length:Int) zs e)/\es.Nodup/\es.length<=i/\D.length=C4.length/\∀j,j≠k->j≠C2.length->D[j]? = C4[j]?) 8
  ((Yg r.toNat).map fun (q:Nat)=>PV.int (0 + q)) 0 (by simp;lia) (fun x hx i ρ D hi h=>by
   obtain ⟨z11,z12,es,rfl,h1,h2,h3,hnd,h4,h5,h6⟩:=h
   obtain ⟨y12,D',es',t1,t2,t3,t4,tnd,t5,t6,t7⟩:=ebd_ok k m C2.length H os zs ws c #[.int p] #[.int d] #[.int v] #[x] z12 x13 x14 D es h1 hkn h2 h3 hnd 1e3 hH ho hol hz hw hwb
   exact ⟨_,_,D',rfl,t1,#[x],y12,es',rfl,t2,t3,t4,tnd,by lia,by rw[t6,h5],fun j q1 q2=>by rw[t7 j q1 q2,h6 j q1 q2]⟩) (bas k m H os zs ws++[#[.int c],#[.int p],#[.int d],#[.int v],some (.c C2.length),x11,x12,x13,x14]) C4 ⟨x11,x12,[],rfl,a4.gs,hn4,(fun e h=>(nomatch h)),List.nodup_nil,Yk _,rfl,fun _ _ _=>rfl⟩
 obtain ⟨z11,z12,es,rfl,g5,hn5,hes,hnd5,hel,hl5,ho5⟩:=hpi
 have hel8:es.length<=8:=by simp at hel;lia
 have st4:mFor (mRange1 (aCons rgE aNil)) (hName 11) ebd (bas k m H os zs ws++[#[.int c],#[.int p],#[.int d],#[.int v],some (.c C2.length),x11,x12,x13,x14]) (C2++[.lst []])=some (.nx (bas k m H os zs ws++[#[.int c],#[.int p],#[.int d],#[.int v],some (.c C2.length),z11,z12,x13,x14]),C5):=by
  have hr:rng1P [.v (.int r)]=some ((Yg r.toNat).map fun (q:Nat)=>PV.int (0 + q)):=by
   unfold rng1P;dsimp only;rw[if_pos 1e3]
  have hm:mRange1 (aCons rgE aNil) (bas k m H os zs ws++[#[.int c],#[.int p],#[.int d],#[.int v],some (.c C2.length),x11,x12,x13,x14]) (C2++[.lst []])=some ((Yg r.toNat).map fun (q:Nat)=>PV.int (0 + q),C4):=by
   have:aCons rgE aNil (bas k m H os zs ws++[#[.int c],#[.int p],#[.int d],#[.int v],some (.c C2.length),x11,x12,x13,x14]) (C2++[.lst []])=some ([.v (.int r)],C4):=by
    unfold aCons bnd;rw[e4];rfl
   unfold mRange1 bnd;rw[this]
   show opM (fun _=>rng1P [.v (.int r)]) C4=_
   unfold opM;dsimp only;rw[hr]
  unfold mFor bnd;rw[hm];exact e5
 have st5:mSet 13 (mTup aNil) (bas k m H os zs ws++[#[.int c],#[.int p],#[.int d],#[.int v],some (.c C2.length),z11,z12,x13,x14]) C5=some (.nx (bas k m H os zs ws++[#[.int c],#[.int p],#[.int d],#[.int v],some (.c C2.length),z11,z12,#[.tup []],x14]),C5):=by
  simp[mSet,mTup,aNil,bnd,opM,Pu.ret,Pu.plain]
 obtain ⟨u12,lv,C6,st6,hlv,a6⟩:=lvS_ok k m H os zs ws C2.length c #[.int p] #[.int d] #[.int v] z11 z12 x14 C5 es g5 hkn hn5 hH ho hol hz hw hwb
 obtain ⟨wi,C7,e7,wi1,a7⟩:=wth_adv k m H os zs ws #[.int c] #[.int p] #[.int d] #[.int v] (some (.c C2.length)) z11 u12 #[lvP lv] x14 C6 a6.gs
 have st7:mSet 14 wth (bas k m H os zs ws++[#[.int c],#[.int p],#[.int d],#[.int v],some (.c C2.length),z11,u12,#[lvP lv],x14]) C6=some (.nx (bas k m H os zs ws++[#[.int c],#[.int p],#[.int d],#[.int v],some (.c C2.length),z11,u12,#[lvP lv],#[.int wi]]),C7):=by
  unfold mSet bnd;rw[e7];rfl
 have a67:=a6.trans a7
 have hn7:C7[C2.length]? = some (.lst (es.map tupK)):=by rw[a67.oth _ (XT hkn)];exact hn5
 have hoth:∀j,j < C.length->j≠k->C7[j]? = C[j]?:=fun j hj hk=>by
  have hjn:j≠C2.length:=by rw[a12.len];lia
  rw[a67.oth j hk,ho5 j hk hjn,a4.oth j hk,Yf (by rw[a12.len];exact hj),a12.oth j hk]
 have hm7:C7[m]? = some (.lst (cs.map Cl.P)):=by rw[hoth m hml (XT hkm)];exact hC
 have hlen7:C.length<=C7.length:=by rw[a67.len,hl5,a4.len,Y8,a12.len];lia
 have hll:(cs.map Cl.P).length < 100000:=by simp;lia
 refine ⟨#[.int d],#[.int v],some (.c C2.length),z11,u12,#[lvP lv],#[.int wi],C7.set m (.lst ((cs++[(⟨d,v,p,wi,es,lv⟩:Cl)]).map Cl.P)),⟨d,v,p,wi,es,lv⟩,?_,⟨⟨d1,d2⟩,hv,hdv,hp,wi1,hes,hnd5,hel8,hlv⟩,rfl,?_,setAt hm7,by rw[W6];exact hlen7,fun j hj hk hm=>?_⟩
 ·rw[show cbd=mSeq (mSet 8 (mFn F_qaq (aCons 1e7 6e3))) (mSeq (mSet 9 crd) (mSeq (mNew 10 (mLst aNil)) (mSeq (mFor (mRange1 (aCons rgE aNil)) (hName 11) ebd) (mSeq (mSet 13 (mTup aNil)) (mSeq lvS (mSeq (mSet 14 wth) (mDrop (mApp (mVar 5) (aCons clT aNil))))))))) from rfl]
  rw[ZaF st1,ZaF st2,ZaF st3,ZaF st4,ZaF st5,ZaF st6,ZaF st7]
  rw[show (cs++[(⟨d,v,p,wi,es,lv⟩:Cl)]).map Cl.P=cs.map Cl.P++[.tup [.int d,.int v,.int p,.int wi,.tup (es.map tupK),lvP lv]] by rw[W9];rfl]
  generalize cs.map Cl.P=CS at *
  generalize es.map tupK=ES at *
  generalize lvP lv=LV at *
  simp[mDrop,mApp,isLst,aCons,aNil,bnd,mVar,opM,Pu.ret,deref,hm7,mTup,mCB,g1,derefs,hn7,tupH,Pu.plain,appC,hll]
 ·obtain ⟨x,y,h,r⟩:=a67.gs
  exact ⟨x,y,by rw[YZ (XT hkm)];exact h,r⟩
 ·rw[YZ (XT hm)];exact hoth j hj hk
end
theorem adv_cut {k:Nat}{C D:Cs}(hl:C.length<=D.length)(g:GS D k)(hk:k < C.length)(h:∀j,j < C.length->j≠k->D[j]? = C[j]?):Adv k C (D.take C.length):=by
 refine ⟨by rw[Y7];lia,?_,fun j hj=>?_⟩
 ·obtain ⟨x,y,e,r⟩:=g
  exact ⟨x,y,by rw[Xq hk];exact e,r⟩
 ·rcases YF j C.length with q | q
  ·rw[Xq q];exact h j q hj
  ·rw[Yl.mpr (by rw[Y7];lia),Yl.mpr q]
theorem loop_nth {g:5e4}{f:PSt->M PF}(xs:List PV)(Pi:Nat->PSt->Cs->Prop)
  (step:∀(i:Nat) (h:i < xs.length) ρ C,Pi i ρ C->∃ρ1 ρ2 C2,g xs[i] ρ=some ρ1/\f ρ1 C=some (.nx ρ2,C2)/\Pi (i + 1) ρ2 C2):∀(n i:Nat) ρ C,i + n=xs.length->Pi i ρ C->∃ρ' C',loop g f (xs.drop i) ρ C=some (.nx ρ',C')/\Pi xs.length ρ' C'
 | 0,i,ρ,C,hn,h=>by
  have:i=xs.length:=by lia
  subst this
  exact ⟨ρ,C,by rw[Vs];rfl,h⟩
 | n + 1,i,ρ,C,hn,h=>by
  have hi:i < xs.length:=by lia
  obtain ⟨ρ1,ρ2,C2,e1,e2,h2⟩:=step i hi ρ C h
  obtain ⟨ρ',C',e3,h3⟩:=loop_nth xs Pi step n (i + 1) ρ2 C2 1e3 h2
  refine ⟨ρ',C',?_,h3⟩
  rw[WQ hi]
  unfold loop
  simp only[e1,bnd,e2,e3]
theorem enum_nth (zs:List Int)(i:Nat)(h:i < (enumL (zs.map .int)).length):∃z,zs[i]? = some z/\(enumL (zs.map .int))[i]=.tup [.int (i:Nat),.int z]:=by
 have hi:i < zs.length:=by rw[Zba] at h;simpa using h
 refine ⟨zs[i],Ya hi,?_⟩
 unfold enumL
 simp[hi]
theorem clauses_adv (k:Nat)(H:Int)(os:List (List Int))(zs:List Int)(ws:4e6)(C:Cs)(g:GS C k)(hH:2<=H/\H<=8)(ho:∀z∈os,SzOk z)(hol:os.length<=100)(hz:SzOk zs)(hw:4<=ws.length)(hwb:∀w∈ws,wordB w=true):
  ∃(cs:List Cl) (C':Cs),F_qag [.c k,.v (.int H),.v (szP zs),.v (.lst (os.map szP)),.v (.lst (ws.map .str))] C=some (.v (.tup (cs.map Cl.P)),C')/\cs.map Cl.p=zs/\(∀i c,cs[i]? = some c->ClG (i:Nat) H (os.length:Int) zs c)/\Adv k C C':=by
 have hk:=g.lt
 have hkm:k≠C.length:=Yo hk
 have hle:=hz.le
 obtain ⟨ρ',D,e,hpi⟩:=loop_nth (g:=hTup (hCons (hName 6) (hCons (hName 7) hNil)) 2) (f:=cbd) (enumL (zs.map .int)) (fun i ρ D=>∃(x6 x7 x8 x9 x10 x11 x12 x13 x14:Option SV) (cs:List Cl),ρ=bas k C.length H os zs ws++[x6,x7,x8,x9,x10,x11,x12,x13,x14]/\GS D k/\D[C.length]? = some (.lst (cs.map Cl.P))/\(∀i c,cs[i]? = some c->ClG (i:Nat) H (os.length:Int) zs c)/\cs.length=i/\cs.map Cl.p=zs.take i/\C.length + 1<=D.length/\∀j,j < C.length->j≠k->D[j]? = C[j]?)
  (fun i hi ρ D h=>by
   obtain ⟨z,hzi,ex⟩:=enum_nth zs i hi
   obtain ⟨x6,x7,x8,x9,x10,x11,x12,x13,x14,cs,rfl,h1,h2,h3,h4,hp,h5,h6⟩:=h
   have hiz:i < zs.length:=by rw[Zba] at hi;simpa using hi
   obtain ⟨y8,y9,y10,y11,y12,y13,y14,D',c,t1,t2,tp,t3,t4,t5,t6⟩:=cbd_ok k C.length H os zs ws (i:Int) z x8 x9 x10 x11 x12 x13 x14 D cs h1 hkm h2 1e3 (hz.rg z (Xc hzi)) hH ho hol hz hw hwb
   rw[ex]
   refine ⟨_,_,D',rfl,t1,#[(.int (i:Int))],#[.int z],y8,y9,y10,y11,y12,y13,y14,cs++[c],rfl,t3,t4,fun q d hd=>?_,by simp[h4],?_,by lia,fun q q1 q2=>?_⟩
   ·rcases YF q cs.length with hq | hq
    ·rw[Yf hq] at hd;exact h3 q d hd
    ·rw[YW hq] at hd
     have hq0:q - cs.length=0:=by
      rcases Nat.eq_zero_or_pos (q - cs.length) with z | z
      ·exact z
      ·rw[Yl.mpr (by simp;lia)] at hd;cases hd
     rw[hq0] at hd
     have hqi:q=i:=by lia
     have:c=d:=by simpa using hd
     rw[hqi,←this];exact t2
   ·rw[W9,hp,List.take_add_one,hzi,YO,tp];rfl
   ·rw[t6 q (by lia) q2 (by lia),h6 q q1 q2]) (enumL (zs.map .int)).length 0 (bas k C.length H os zs ws++[none,none,none,none,none,none,none,none,none]) (C++[.lst []]) (by lia) ⟨none,none,none,none,none,none,none,none,none,[],rfl,g.app _,by simp,(fun i c h=>by simp at h),rfl,by simp,by simp,fun j h1 h2=>by rw[Yf h1]⟩
 rw[List.drop_zero] at e
 obtain ⟨x6,x7,x8,x9,x10,x11,x12,x13,x14,cs,rfl,h1,h2,h3,h4,hp,h5,h6⟩:=hpi
 refine ⟨cs,D.take C.length,?_,by rw[hp,Zba];exact Ww 3e4,h3,adv_cut 1e3 h1 hk h6⟩
 have st1:mNew 5 (mLst aNil) [some (.c k),#[.int H],#[szP zs],#[.lst (os.map szP)],3e8,none,none,none,none,none,none,none,none,none,none] C=some (.nx (bas k C.length H os zs ws++[none,none,none,none,none,none,none,none,none]),C++[.lst []]):=by
  simp[mNew,mLst,aNil,bnd,opM,Pu.ret,Pu.plain]
 have st2:mFor (mEnum (aCons 4e9 aNil)) (hTup (hCons (hName 6) (hCons (hName 7) hNil)) 2) cbd (bas k C.length H os zs ws++[none,none,none,none,none,none,none,none,none]) (C++[.lst []])=some (.nx (bas k C.length H os zs ws++[x6,x7,x8,x9,x10,x11,x12,x13,x14]),D):=by
  have:mEnum (aCons 4e9 aNil) (bas k C.length H os zs ws++[none,none,none,none,none,none,none,none,none]) (C++[.lst []])=some (enumL (zs.map .int),C++[.lst []]):=by
   simp[mEnum,aCons,aNil,mVar,bnd,opM,Pu.ret,szP,enumP]
  unfold mFor bnd;rw[this];exact e
 unfold F_qag
 rw[clauses_is]
 show (match mSeq _ _ [some (.c k),some (.v (.int H)),some (.v (szP zs)),some (.v (.lst (os.map szP))),some (.v (.lst (ws.map .str))),none,none,none,none,none,none,none,none,none,none] C with
  | some (.rt r,C')=>fin C.length C' r
  | some (.nx _,C')=>some (.v .non,C'.take C.length)
  | some (.rf ps,C')=>some (.v 6e6,C'.take C.length)
  | some (.rq qs,C')=>(finQ C.length C' qs).map fun ps=>(.v 5e9,C'.take C.length)
  | _=>none)=_
 rw[ZaF st1,ZaF st2]
 generalize cs.map Cl.P=CS at *
 simp[mRet,mCB,g1,aCons,aNil,mVar,bnd,opM,Pu.ret,derefs,deref,h2,tupH,fin]
structure Sh where
 H:Int
 zs:List Int
 q:Int
def Sh.P (s:Sh):PV:=.tup [.int s.H,szP s.zs,.int s.q]
structure ShOk (s:Sh):Prop where
 H:2<=s.H/\s.H<=8
 zs:SzOk s.zs
 q:0<=s.q/\s.q < 3
noncomputable def inRg (lo hi:Int)(p:PV):Bool:=match p with
 | .int i=>decide (lo<=i)&&decide (i<=hi)
 | _=>false
theorem ix_rg (L:List PV)(lo hi:Int)(h:L.all (inRg lo hi)=true)(d:Int)(h1:0<=d)(h2:d < L.length):∃v,ixQ (.lst L) (.int d)=some (.int v)/\lo<=v/\v<=hi:=by
 obtain ⟨p,ep,hp⟩:=ix_all (okk:=inRg lo hi) L h d h1 h2
 cases p with
 | int i=>simp only[inRg,Yd,decide_eq_true_eq] at hp;exact ⟨i,ep,hp⟩
 | _=>cases hp
theorem gs_new (C:Cs)(x y:Int)(h:0<=y/\y < 2147483647):GS (C++[.lst [.int x,.int y]]) C.length:=⟨x,y,by simp,h⟩
abbrev szE:PSt->M SV:=mOp 2e7 (mVal (mLst (aCons 1e5 (aCons 1e5 (aCons 3e2 (aCons 1e5 (aCons 6e9 (aCons 1e5 (aCons 3e2 (aCons (mC (.int 9)) aNil)))))))))) (mFn F_qaq (aCons 2e9 4e2))
theorem szE_adv (k:Nat)(x:Option SV)(C:Cs)(g:GS C k):∃p C',szE [x,some (.c k)] C=some (.v p,C')/\(∃z,p=.int z/\1<=z/\z<=9)/\Adv k C C':=by
 obtain ⟨y,C',e,y1,y2,a⟩:=Zau k 8 C g 2e4
 obtain ⟨v,hv,h0,h8⟩:=ix_rg [.int 1,.int 1,.int 2,.int 1,.int 3,.int 1,.int 2,.int 9] 1 9 1e0 y y1 (by simpa using y2)
 refine ⟨.int v,C',?_,⟨v,rfl,h0,h8⟩,a⟩
 simp[szE,mOp,mVal,mLst,mFn,aCons,aNil,mVar,mC,bnd,opM,Pu.ret,g2,deref,Pu.plain,e,hv]
theorem ints_of:∀(L:List PV),(∀p∈L,∃z,p=.int z/\1<=z/\z<=9)->∃zs:List Int,L=zs.map .int/\∀z∈zs,1<=z/\z<=9
 | [],_=>⟨[],rfl,(fun _ h=>(nomatch h))⟩
 | p::L,h=>by
  obtain ⟨z,rfl,hz⟩:=h p 3e4
  obtain ⟨zs,rfl,hzs⟩:=ints_of L fun q hq=>h q (by simp[hq])
  exact ⟨z::zs,rfl,fun y hy=>by
   rcases Yn.mp hy with rfl | hy
   ·exact hz
   ·exact hzs y hy⟩
abbrev abd:PSt->M PF:=mSeq (mNew 1 (mFnF FF_qao (aCons 1e7 (aCons (mOp 6e7 3e2 (mVar 5)) aNil)))) (mSeq (mSet 6 (mOp 2e7 (mVal (mLst (aCons 3e2 (aCons 6e9 (aCons 3e2 (aCons 6e9 (aCons 5e6 (aCons 3e2 (aCons (mC (.int 5)) 4e2))))))))) (mFn F_qaq (aCons 2e9 4e2)))) (mSeq (mSet 7 (mOp 2e7 (mVal (mLst (aCons 1e5 (aCons 3e2 (aCons 1e5 (aCons 6e9 (aCons 3e2 (aCons 5e6 (aCons (mC (.int 7)) (aCons (mC (.int 12)) aNil)))))))))) (mFn F_qaq (aCons 2e9 4e2)))) (mSeq (mSet 8 (mVal (mComp (mRange1 (aCons (mVar 7) aNil)) ["_law_c"] [1] 6e8 tOk szE))) (mDrop (mApp 7e0 (aCons (mTup (aCons (mVar 6) (aCons (mVar 8) (aCons (mFn F_qaq (aCons 2e9 (aCons 6e9 aNil))) aNil)))) aNil))))))
theorem abd_ok (ns:List Int)(W:Option SV)(M:Option SV)(a:Nat)(i:Int)(x1 x6 x7 x8 x9 x10 x11 x12 x13:Option SV)(sh:List Sh)(D:Cs)(hi:0<=i/\i<=100)(hD:D[a]? = some (.lst (sh.map Sh.P)))(hsh:∀s∈sh,ShOk s)(hl:sh.length<=1000):
  ∃(y1 y6 y7 y8:Option SV) (D':Cs) (s:Sh),abd [1e8,x1,W,M,some (.c a),#[.int i],x6,x7,x8,x9,x10,x11,x12,x13] D=some (.nx [1e8,y1,W,M,some (.c a),#[.int i],y6,y7,y8,x9,x10,x11,x12,x13],D')/\ShOk s/\D'[a]? = some (.lst ((sh++[s]).map Sh.P))/\D.length<=D'.length/\∀j,j < D.length->j≠a->D'[j]? = D[j]?:=by
 have hal:a < D.length:=by
  rcases YF a D.length with q | q
  ·exact q
  ·rw[Yl.mpr q] at hD;cases hD
 obtain ⟨x,y,el,hy⟩:=left_eq ns (2 + i) D 1e3 1e3
 have st1:mNew 1 (mFnF FF_qao (aCons 1e7 (aCons (mOp 6e7 3e2 (mVar 5)) aNil))) [1e8,x1,W,M,some (.c a),#[.int i],x6,x7,x8,x9,x10,x11,x12,x13] D=some (.nx [1e8,5e3,W,M,some (.c a),#[.int i],x6,x7,x8,x9,x10,x11,x12,x13],D++[.lst [.int x,.int y]]):=by
  simp[mNew,mFnF,aCons,aNil,mVar,mC,mOp,bnd,opM,Pu.ret,g2,deref,addP,el]
 have g0:=gs_new D x y hy
 obtain ⟨p1,C1,e1,p1a,p1b,a1⟩:=Zau D.length 8 _ g0 2e4
 obtain ⟨H,hH,H1,H2⟩:=ix_rg [.int 2,.int 3,.int 2,.int 3,.int 4,.int 2,.int 5,.int 8] 2 8 1e0 p1 p1a (by simpa using p1b)
 obtain ⟨p2,C2,e2,p2a,p2b,a2⟩:=Zau D.length 8 _ a1.gs 2e4
 obtain ⟨n,hn,n1,n2⟩:=ix_rg [.int 1,.int 2,.int 1,.int 3,.int 2,.int 4,.int 7,.int 12] 1 12 1e0 p2 p2a (by simpa using p2b)
 have st2:mSet 6 (mOp 2e7 (mVal (mLst (aCons 3e2 (aCons 6e9 (aCons 3e2 (aCons 6e9 (aCons 5e6 (aCons 3e2 (aCons (mC (.int 5)) 4e2))))))))) (mFn F_qaq (aCons 2e9 4e2))) [1e8,5e3,W,M,some (.c a),#[.int i],x6,x7,x8,x9,x10,x11,x12,x13] (D++[.lst [.int x,.int y]])=some (.nx [1e8,5e3,W,M,some (.c a),#[.int i],#[.int H],x7,x8,x9,x10,x11,x12,x13],C1):=by
  simp[mSet,mOp,mVal,mLst,mFn,aCons,aNil,mVar,mC,bnd,opM,Pu.ret,g2,deref,Pu.plain,e1,hH]
 have st3:mSet 7 (mOp 2e7 (mVal (mLst (aCons 1e5 (aCons 3e2 (aCons 1e5 (aCons 6e9 (aCons 3e2 (aCons 5e6 (aCons (mC (.int 7)) (aCons (mC (.int 12)) aNil)))))))))) (mFn F_qaq (aCons 2e9 4e2))) [1e8,5e3,W,M,some (.c a),#[.int i],#[.int H],x7,x8,x9,x10,x11,x12,x13] C1=some (.nx [1e8,5e3,W,M,some (.c a),#[.int i],#[.int H],#[.int n],x8,x9,x10,x11,x12,x13],C2):=by
  simp[mSet,mOp,mVal,mLst,mFn,aCons,aNil,mVar,mC,bnd,opM,Pu.ret,g2,deref,Pu.plain,e2,hn]
 obtain ⟨L,C3,e3,hL,hLp,a3⟩:=comp_adv (te:=szE) (k:=D.length) (Pp:=fun p=>∃z,p=.int z/\1<=z/\z<=9) ((Yg n.toNat).map fun (q:Nat)=>PV.int (0 + q)) [none,5e3] [] C2 a2.gs (fun x C g=>szE_adv D.length #[x] C g)
 obtain ⟨zs,rfl,hzs⟩:=ints_of L hLp
 rw[Xa] at e3
 have hzl:zs.length=n.toNat:=by simpa using hL
 have st4:mSet 8 (mVal (mComp (mRange1 (aCons (mVar 7) aNil)) ["_law_c"] [1] 6e8 tOk szE)) [1e8,5e3,W,M,some (.c a),#[.int i],#[.int H],#[.int n],x8,x9,x10,x11,x12,x13] C2=some (.nx [1e8,5e3,W,M,some (.c a),#[.int i],#[.int H],#[.int n],#[szP zs],x9,x10,x11,x12,x13],C3):=by
  have hr:rng1P [.v (.int n)]=some ((Yg n.toNat).map fun (q:Nat)=>PV.int (0 + q)):=by
   unfold rng1P;dsimp only;rw[if_pos 1e3]
  have hrl:((Yg n.toNat).map fun (q:Nat)=>PV.int (0 + q)).length<=100000:=by simp;lia
  generalize ((Yg n.toNat).map fun (q:Nat)=>PV.int (0 + q))=rs at e3 hr hrl
  unfold szP
  generalize zs.map PV.int=ZS at *
  generalize szE=te at e3
  simp[mSet,mVal,mComp,mRange1,aCons,aNil,mVar,bnd,opM,Pu.ret,hr,hrl,stIn',e3]
 obtain ⟨q,C4,e4,q1,q2,a4⟩:=Zau D.length 3 _ a3.gs 2e4
 have aa:=((a1.trans a2).trans a3).trans a4
 have hoth:∀j,j < D.length->C4[j]? = D[j]?:=fun j hj=>by
  rw[aa.oth j (Yo hj),Yf hj]
 have ha4:C4[a]? = some (.lst (sh.map Sh.P)):=by rw[hoth a hal];exact hD
 have ha3:C3[a]? = some (.lst (sh.map Sh.P)):=by rw[←a4.oth a (Yo hal)];exact ha4
 have hll:(sh.map Sh.P).length < 100000:=by simp;lia
 refine ⟨5e3,#[.int H],#[.int n],#[szP zs],C4.set a (.lst ((sh++[(⟨H,zs,q⟩:Sh)]).map Sh.P)),⟨H,zs,q⟩,?_,⟨⟨H1,H2⟩,⟨by show 0 < zs.length;lia,by show zs.length<=12;lia,hzs⟩,q1,q2⟩,setAt ha4,by rw[W6,aa.len];simp,fun j hj ha=>by rw[YZ (XT ha)];exact hoth j hj⟩
 rw[show abd=mSeq _ (mSeq _ (mSeq _ (mSeq _ _))) from rfl,ZaF st1,ZaF st2,ZaF st3,ZaF st4]
 rw[show (sh++[(⟨H,zs,q⟩:Sh)]).map Sh.P=sh.map Sh.P++[.tup [.int H,szP zs,.int q]] by rw[W9];rfl]
 generalize sh.map Sh.P=SH at *
 generalize szP zs=ZS at *
 simp[mDrop,mApp,isLst,aCons,aNil,bnd,mVar,mC,opM,Pu.ret,deref,ha3,mTup,mFn,e4,Pu.plain,appC,ha4,hll]
theorem comp_fil {te:4e0}{tt:PSt->M Bool}(b:PV->Bool):∀(xs:List PV) (ρ:PSt) (ys:List PV) (C:Cs),(∀x∈xs,tt (ρ.set 0 #[x]) C=some (b x,C))->(∀x∈xs,te (ρ.set 0 #[x]) C=some (.v x,C))->compL 6e8 tt te xs ρ ys C=some (ys++xs.filter b,C)
 | [],ρ,ys,C,_,_=>by simp[compL,Pu.ret]
 | x::xs,ρ,ys,C,ht,he=>by
  have h1:=ht x 3e4
  have h2:=he x 3e4
  have ih:=fun zs=>comp_fil (te:=te) (tt:=tt) b xs (ρ.set 0 #[x]) zs C (fun y hy=>by rw[VS];exact ht y (by simp[hy])) (fun y hy=>by rw[VS];exact he y (by simp[hy]))
  cases hb:b x with
  | true=>rw[hb] at h1;simp[compL,hName,bnd,h1,h2,ih,hb]
  | false=>rw[hb] at h1;simp[compL,hName,bnd,h1,ih,hb]
structure Dl where
 hs:List Str
 ow:List Str
 cl:Int
 cs:List Cl
def Dl.P (d:Dl):PV:=.tup [.tup (d.hs.map .str),.tup (d.ow.map .str),.int d.cl,.tup (d.cs.map Cl.P)]
structure DlOk (d:Dl):Prop where
 h2:2<=d.hs.length/\d.hs.length<=8
 nd:d.hs.Nodup
 hw:∀h∈d.hs,wordB h=true/\h≠"bell"
 ol:d.ow.length<=4
 on:d.ow.Nodup
 ow:∀h∈d.ow,wordB h=true
 cl:0<=d.cl
 c1:1<=d.cs.length/\d.cs.length<=12
 cs:∀i c,d.cs[i]? = some c->ClG (i:Nat) (d.hs.length:Nat) (d.ow.length:Nat) (d.cs.map Cl.p) c
abbrev hoE:PSt->M SV:=mOp 2e7 2e9 (mOp (g2 modP) (mOp 6e7 4e9 1e7) (mC (.int 8)))
theorem houses_comp (ws:4e6)(hw:ws.length=16)(nd:ws.Nodup)(st:Int)(h0:0<=st/\st < 8)(n:Nat)(hn:n<=8)(C:Cs):
  ∃hs:List Str,compL 6e8 tOk hoE ((Yg n).map fun (q:Nat)=>PV.int (0 + q)) [none,3e8,#[.int st]] [] C=some (hs.map .str,C)/\hs.length=n/\hs.Nodup/\∀h∈hs,h∈ws:=by
 have key:∀j:Nat,((st + (0 + (j:Int))) % 8).toNat < ws.length:=fun j=>by
  have h1:0<=(st + (0 + (j:Int))) % 8:=Y1 _ 2e4
  have h2:(st + (0 + (j:Int))) % 8 < 8:=YQ _ 2e4
  lia
 have e:=ZaV (te:=hoE) (f:=fun p=>match p with | .int i=>.str (ws.getD ((st + i) % 8).toNat "") | _=>.non) ((Yg n).map fun (q:Nat)=>PV.int (0 + q)) [none,#[.lst (ws.map .str)],#[.int st]] [] C (fun x hx=>by
  obtain ⟨j,hj,rfl⟩:=YM.mp hx
  have hk:=key j
  have h1:0<=(st + (0 + (j:Int))) % 8:=Y1 _ 2e4
  have h2:(st + (0 + (j:Int))) % 8 < 8:=YQ _ 2e4
  have hix:ixQ (.lst (ws.map .str)) (.int ((st + (0 + (j:Int))) % 8))=some (.str (ws.getD ((st + (0 + (j:Int))) % 8).toNat "")):=by
   have h3:(st + (0 + (j:Int))) % 8 < (ws.length:Int):=by lia
   generalize (st + (0 + (j:Int))) % 8=d at *
   simp[ixQ,ixP,atI,ixN,h1,h3,Ya hk]
  generalize (0 + (j:Int))=J at *
  generalize ws.map PV.str=WS at *
  simp[hoE,mOp,mVar,mC,bnd,opM,g2,deref,addP,modP,intP,hix])
 rw[Xa,Xb] at e
 refine ⟨(Yg n).map fun (j:Nat)=>ws.getD ((st + (0 + (j:Int))) % 8).toNat "",?_,by simp,?_,fun h hh=>?_⟩
 ·rw[e,Xb];rfl
 ·rw[YR,XC]
  refine XJ (fun {x y} hx hy hne e=>?_) (YR.mp WR)
  have hx:=Y0.mp hx
  have hy:=Y0.mp hy
  have kx:=key x
  have ky:=key y
  rw[YE,YE,Ya kx,Ya ky] at e
  have:=(Wq (h₀:=kx) (h₁:=ky) nd).mp (by simpa using e)
  lia
 ·obtain ⟨j,_,rfl⟩:=YM.mp hh
  have:=key j
  rw[YE,Ya this]
  exact Y5 this
abbrev otT:PSt->M Bool:=mTest (mOp (g2 neP) 1e7 2e9)
theorem others_comp (i:Int)(M:Nat)(C:Cs):∃L:List Nat,compL 6e8 otT 1e7 ((Yg M).map fun (q:Nat)=>PV.int (0 + q)) [none,#[.int i]] [] C=some (L.map fun (q:Nat)=>PV.int 6e1,C)/\L.length<=M/\(∀q∈L,q < M)/\L.Nodup:=by
 have e:=comp_fil (te:=mVar 0) (tt:=otT) (fun p=>match p with | .int j=>!(j==i) | _=>false) ((Yg M).map fun (q:Nat)=>PV.int (0 + q)) [none,#[.int i]] [] C (fun x hx=>by
  obtain ⟨j,_,rfl⟩:=YM.mp hx
  generalize (0 + (j:Int))=J
  simp[otT,mTest,mOp,mVar,bnd,opM,g2,deref,neP,scP,mB,asB]
  rfl) (fun x hx=>by simp[mVar])
 refine ⟨(Yg M).filter fun (q:Nat)=>!(6e1==i),?_,?_,fun q hq=>Y0.mp (Ub.mp hq).1,WR.sublist List.filter_sublist⟩
 ·rw[e,Xa,List.filter_map]
  rfl
 ·have:=List.length_filter_le (fun (q:Nat)=>!(6e1==i)) (Yg M)
  simpa using this
theorem comp_ex {te:4e0}{Pp:PV->Prop}:∀(xs:List PV) (ρ:PSt) (ys:List PV) (C:Cs),(∀x∈xs,∃p,te (ρ.set 0 #[x]) C=some (.v p,C)/\Pp p)->
  ∃zs,compL 6e8 tOk te xs ρ ys C=some (ys++zs,C)/\zs.length=xs.length/\∀p∈zs,Pp p
 | [],ρ,ys,C,h=>⟨[],by simp[compL,Pu.ret],rfl,(fun _ h=>(nomatch h))⟩
 | x::xs,ρ,ys,C,h=>by
  obtain ⟨p,e1,hp⟩:=h x 3e4
  obtain ⟨zs,e2,hl,hz⟩:=comp_ex (te:=te) (Pp:=Pp) xs (ρ.set 0 #[x]) (ys++[p]) C fun y hy=>by rw[VS];exact h y (by simp[hy])
  refine ⟨p::zs,?_,by simp[hl],fun q hq=>?_⟩
  ·simp[compL,hName,bnd,tOk,Pu.ret,e1,e2]
  ·rcases Yn.mp hq with rfl | hq
   ·exact hp
   ·exact hz q hq
theorem szs_of:∀(L:List PV),(∀p∈L,∃z,p=szP z/\SzOk z)->∃os:List (List Int),L=os.map szP/\∀z∈os,SzOk z
 | [],_=>⟨[],rfl,(fun _ h=>(nomatch h))⟩
 | p::L,h=>by
  obtain ⟨z,rfl,hz⟩:=h p 3e4
  obtain ⟨os,rfl,ho⟩:=szs_of L fun q hq=>h q (by simp[hq])
  exact ⟨z::os,rfl,fun y hy=>by
   rcases Yn.mp hy with rfl | hy
   ·exact hz
   ·exact ho y hy⟩
noncomputable abbrev fI (q:Nat):PV:=PV.int 6e1
abbrev oE:PSt->M SV:=mOp 2e7 (mOp 2e7 2e9 1e7) 1e5
abbrev oW:PSt->M SV:=mOp 2e7 2e9 (mOp 6e7 (mC (.int 5)) 1e7)
theorem oE_comp (a:Nat)(sh:List Sh)(hsh:∀s∈sh,ShOk s)(L:List Nat)(hL:∀q∈L,q < sh.length)(C:Cs)(hC:C[a]? = some (.lst (sh.map Sh.P))):
  ∃os:List (List Int),compL 6e8 tOk oE (L.map fI) [none,some (.c a)] [] C=some (os.map szP,C)/\os.length=L.length/\∀z∈os,SzOk z:=by
 obtain ⟨zs,e,hl,hz⟩:=comp_ex (te:=oE) (Pp:=fun p=>∃z,p=szP z/\SzOk z) (L.map fI) [none,some (.c a)] [] C (fun x hx=>by
  obtain ⟨q,hq,rfl⟩:=YM.mp hx
  have hq:=hL q hq
  refine ⟨szP (sh[q]).zs,?_,_,rfl,(hsh _ (Y5 hq)).zs⟩
  have h1:ixQ (.lst (sh.map Sh.P)) (.int 6e1)=some (sh[q]).P:=by
   have h2:6e1 < (sh.length:Int):=by lia
   have h3:0<=6e1:=by lia
   have h4:(0 + (q:Int)).toNat=q:=by lia
   generalize 6e1=Q at *
   simp[ixQ,ixP,atI,ixN,h2,h3,h4,hq]
  have h5:ixQ (sh[q]).P (.int 1)=some (szP (sh[q]).zs):=by simp[Sh.P,ixQ,ixP,atI,ixN]
  unfold fI
  generalize 6e1=Q at *
  generalize (sh[q]).P=SP at *
  generalize sh.map Sh.P=SH at *
  simp[oE,mOp,mVar,mC,bnd,opM,g2,deref,hC,h1,h5])
 obtain ⟨os,rfl,ho⟩:=szs_of zs hz
 exact ⟨os,by simpa using e,by simpa using hl,ho⟩
theorem oW_comp (ws:4e6)(hw:ws.length=16)(nd:ws.Nodup)(L:List Nat)(hL:∀q∈L,q < 8)(hLn:L.Nodup)(C:Cs):
  ∃ow:List Str,compL 6e8 tOk oW (L.map fI) [none,3e8] [] C=some (ow.map .str,C)/\ow.length=L.length/\ow.Nodup/\∀w∈ow,w∈ws:=by
 have e:=ZaV (te:=oW) (f:=fun p=>match p with | .int i=>.str (ws.getD (5 + i).toNat "") | _=>.non) (L.map fI) [none,#[.lst (ws.map .str)]] [] C (fun x hx=>by
  obtain ⟨q,hq,rfl⟩:=YM.mp hx
  have hq:=hL q hq
  have h1:ixQ (.lst (ws.map .str)) (.int (5 + 6e1))=some (.str (ws.getD (5 + 6e1).toNat "")):=by
   have k1:0<=5 + 6e1:=by lia
   have k2:5 + 6e1 < (ws.length:Int):=by lia
   have k3:(5 + 6e1).toNat < ws.length:=by lia
   generalize 5 + 6e1=d at *
   simp[ixQ,ixP,atI,ixN,k1,k2,Ya k3]
  unfold fI
  generalize 6e1=Q at *
  generalize ws.map PV.str=WS at *
  simp[oW,mOp,mVar,mC,bnd,opM,g2,deref,addP,h1])
 rw[Xa,Xb] at e
 have key:∀q∈L,(5 + 6e1).toNat < ws.length:=fun q hq=>by have:=hL q hq;lia
 refine ⟨L.map fun (q:Nat)=>ws.getD (5 + 6e1).toNat "",?_,by simp,?_,fun w hh=>?_⟩
 ·rw[e,Xb];rfl
 ·rw[YR,XC]
  refine XJ (fun {x y} hx hy hne e=>?_) (YR.mp hLn)
  have kx:=key x hx
  have ky:=key y hy
  rw[YE,YE,Ya kx,Ya ky] at e
  have:=(Wq (h₀:=kx) (h₁:=ky) nd).mp (by simpa using e)
  lia
 ·obtain ⟨q,hq,rfl⟩:=YM.mp hh
  have:=key q hq
  rw[YE,Ya this]
  exact Y5 this
abbrev clE:PSt->M SV:=mOp 6e7 (mOp 2e7 (mVal (mLst (aCons (mC (.int 12)) (aCons (mC (.int 30)) (aCons (mC (.int 60)) (aCons (mC (.int 1000)) aNil)))))) (mFn F_qaq (aCons 2e9 (aCons 5e6 aNil)))) (mFn F_qaq (aCons 2e9 (aCons (mC (.int 5)) aNil)))
abbrev bbd:PSt->M PF:=mSeq (mNew 1 (mFnF FF_qao (aCons 1e7 (aCons (mOp 6e7 (mC (.int 9)) (mVar 5)) aNil)))) (mSeq (mSet 11 (mFn F_qaq (aCons 2e9 4e2))) (mSeq (mSet 6 (mCB (g1 tupH) (aCons (mVal (mComp (mRange1 (aCons (mOp 2e7 (mVar 10) 2e6) aNil)) ["_law_j"] [2,11] 6e8 tOk hoE)) aNil))) (mSeq (mSet 12 (mSlice (mVal (mComp (mRange1 (aCons (mVar 3) aNil)) ["_law_j"] [5] 6e8 otT 1e7)) oNo (oPart (mOp 2e7 (mVar 10) 3e2)))) (mSeq (mSet 13 clE) (mSeq (mSet 7 (mFn F_qag (aCons 2e9 (aCons (mOp 2e7 (mVar 10) 2e6) (aCons (mOp 2e7 (mVar 10) 1e5) (aCons (mVal (mComp (mItems (mVar 12)) ["_law_j"] [4] 6e8 tOk oE)) (aCons 4e9 aNil))))))) (mSetIxK (mTup (aCons (mVar 6) (aCons (mCB (g1 tupH) (aCons (mVal (mComp (mItems (mVar 12)) ["_law_j"] [2] 6e8 tOk oW)) aNil)) (aCons (mVar 13) (aCons (mVar 7) aNil))))) (mVar 9) (mOp 2e7 4e9 (mOp 6e7 (mC (.int 5)) (mVar 5)))))))))
theorem ZbA (ns:4e6):(ns.map (XM:Str->Key)).map kP=ns.map .str:=by rw[Xb];rfl
theorem put_new (ns:4e6)(ps:List PV)(w:Str)(p:PV)(h:w∉ns):putKs (ns.map (XM:Str->Key)) (.inr w)=(ns++[w]).map XM/\putVs (ns.map (XM:Str->Key)) ps (.inr w) p=ps++[p]:=by
 have hi:inK (XM w:Key) (ns.map (XM:Str->Key))=false:=by
  cases e:inK (XM w:Key) (ns.map (XM:Str->Key)) with
  | false=>rfl
  | true=>
   obtain ⟨v,hv,e⟩:=YM.mp (inK_iff.mp e)
   cases e;exact absurd hv h
 unfold putKs putVs
 rw[hi]
 simp
theorem bbd_ok (ns:List Int)(ws:4e6)(hw:ws.length=16)(nd:ws.Nodup)(hwl:∀w∈ws,w.length<=10/\wordB w=true/\w≠"bell")(a b:Nat)(hab:a≠b)(i:Nat)(hi:i < 7)(sh:List Sh)(hsh:∀s∈sh,ShOk s)(hs7:sh.length<=7)(s:Sh)(hs:ShOk s)(x1 x6 x7 x8 x11 x12 x13:Option SV)(nms:4e6)(ds:List Dl)(D:Cs)(hDa:D[a]? = some (.lst (sh.map Sh.P)))(hDb:D[b]? = some (.dct (nms.map .str) (ds.map Dl.P)))(hn:nms.length < 100)(hnew:∀w,ws[5 + i]? = some w->w∉nms):
  ∃(y1 y6 y7 y11 y12 y13:Option SV) (D':Cs) (d:Dl) (w:Str),bbd [1e8,x1,3e8,#[4e1],some (.c a),#[(.int (i:Nat))],x6,x7,x8,some (.c b),#[s.P],x11,x12,x13] D=some (.nx [1e8,y1,3e8,#[4e1],some (.c a),#[(.int (i:Nat))],y6,y7,x8,some (.c b),#[s.P],y11,y12,y13],D')/\DlOk d/\ws[5 + i]? = some w/\D'[b]? = some (.dct ((nms++[w]).map .str) ((ds++[d]).map Dl.P))/\(∃q,y1=some (.c q)/\GS D' q/\D.length<=q)/\D.length<=D'.length/\∀j,j < D.length->j≠b->D'[j]? = D[j]?:=by
 have lt_of:∀{q:Nat} {c:PV},D[q]? = some c->q < D.length:=fun {q c} h=>by
  rcases YF q D.length with z | z
  ·exact z
  ·rw[Yl.mpr z] at h;cases h
 have hal:=lt_of hDa
 have hbl:=lt_of hDb
 obtain ⟨x,y,el,hy⟩:=left_eq ns (9 + (i:Int)) D 1e3 1e3
 have st1:mNew 1 (mFnF FF_qao (aCons 1e7 (aCons (mOp 6e7 (mC (.int 9)) (mVar 5)) aNil))) [1e8,x1,3e8,#[4e1],some (.c a),#[(.int (i:Nat))],x6,x7,x8,some (.c b),#[s.P],x11,x12,x13] D=some (.nx [1e8,5e3,3e8,#[4e1],some (.c a),#[(.int (i:Nat))],x6,x7,x8,some (.c b),#[s.P],x11,x12,x13],D++[.lst [.int x,.int y]]):=by
  simp[mNew,mFnF,aCons,aNil,mVar,mC,mOp,bnd,opM,Pu.ret,g2,deref,addP,el]
 have g0:=gs_new D x y hy
 obtain ⟨st,C1,e1,s1,s2,a1⟩:=Zau D.length 8 _ g0 2e4
 have st2:mSet 11 (mFn F_qaq (aCons 2e9 4e2)) [1e8,5e3,3e8,#[4e1],some (.c a),#[(.int (i:Nat))],x6,x7,x8,some (.c b),#[s.P],x11,x12,x13] (D++[.lst [.int x,.int y]])=some (.nx [1e8,5e3,3e8,#[4e1],some (.c a),#[(.int (i:Nat))],x6,x7,x8,some (.c b),#[s.P],#[.int st],x12,x13],C1):=by
  simp[mSet,mFn,aCons,aNil,mVar,mC,bnd,Pu.ret,e1]
 obtain ⟨hs',eh,hhl,hhn,hhw⟩:=houses_comp ws hw nd st ⟨s1,s2⟩ s.H.toNat (by have:=hs.H;lia) C1
 have q0:ixQ s.P (.int 0)=some (.int s.H):=by simp[Sh.P,ixQ,ixP,atI,ixN]
 have q1:ixQ s.P (.int 1)=some (szP s.zs):=by simp[Sh.P,ixQ,ixP,atI,ixN]
 have q2:ixQ s.P (.int 2)=some (.int s.q):=by simp[Sh.P,ixQ,ixP,atI,ixN]
 have rngH:rng1P [.v (.int s.H)]=some ((Yg s.H.toNat).map fun (q:Nat)=>PV.int (0 + q)):=by
  have:=hs.H
  unfold rng1P;dsimp only;rw[if_pos 1e3]
 have rngM:rng1P [.v 4e1]=some ((Yg sh.length).map fun (q:Nat)=>PV.int (0 + q)):=by
  unfold rng1P;dsimp only;rw[if_pos 1e3,XY]
 have lenH:((Yg s.H.toNat).map fun (q:Nat)=>PV.int (0 + q)).length<=100000:=by have:=hs.H;simp;lia
 have lenM:((Yg sh.length).map fun (q:Nat)=>PV.int (0 + q)).length<=100000:=by simp;lia
 have st3:mSet 6 (mCB (g1 tupH) (aCons (mVal (mComp (mRange1 (aCons (mOp 2e7 (mVar 10) 2e6) aNil)) ["_law_j"] [2,11] 6e8 tOk hoE)) aNil)) [1e8,5e3,3e8,#[4e1],some (.c a),#[(.int (i:Nat))],x6,x7,x8,some (.c b),#[s.P],#[.int st],x12,x13] C1=some (.nx [1e8,5e3,3e8,#[4e1],some (.c a),#[(.int (i:Nat))],#[.tup (hs'.map .str)],x7,x8,some (.c b),#[s.P],#[.int st],x12,x13],C1):=by
  generalize ((Yg s.H.toNat).map fun (q:Nat)=>PV.int (0 + q))=rs at eh rngH lenH
  generalize hs'.map PV.str=HS at *
  generalize ws.map PV.str=WS at *
  generalize s.P=SP at *
  generalize hoE=te at eh
  simp[mSet,mCB,g1,mVal,mComp,mRange1,aCons,aNil,mVar,mC,mOp,bnd,opM,Pu.ret,g2,deref,derefs,q0,rngH,lenH,stIn',eh,tupH]
 obtain ⟨L,eo,hLl,hLm,hLn⟩:=others_comp (i:Int) sh.length C1
 have hcut:cutP (L.map fI) none (some s.q)=(L.take s.q.toNat).map fI:=by
  have h2:HT.sIx (L.map fI).length (L.map fI).length (some s.q)=min s.q.toNat (L.map fI).length:=by
   have:=hs.q
   unfold HT.sIx;dsimp only;rw[if_neg 1e3]
  unfold cutP
  rw[h2,show HT.sIx (L.map fI).length 0 none=0 from rfl]
  simp[List.map_take]
 have st4:mSet 12 (mSlice (mVal (mComp (mRange1 (aCons (mVar 3) aNil)) ["_law_j"] [5] 6e8 otT 1e7)) oNo (oPart (mOp 2e7 (mVar 10) 3e2))) [1e8,5e3,3e8,#[4e1],some (.c a),#[(.int (i:Nat))],#[.tup (hs'.map .str)],x7,x8,some (.c b),#[s.P],#[.int st],x12,x13] C1=some (.nx [1e8,5e3,3e8,#[4e1],some (.c a),#[(.int (i:Nat))],#[.tup (hs'.map .str)],x7,x8,some (.c b),#[s.P],#[.int st],#[.lst ((L.take s.q.toNat).map fI)],x13],C1):=by
  have eo':compL 6e8 otT 1e7 ((Yg sh.length).map fun (q:Nat)=>PV.int (0 + q)) [none,#[(.int (i:Int))]] [] C1=some (L.map fI,C1):=eo
  have hsl:sliceD C1 (.v (.lst (L.map fI))) none (some s.q)=#[.lst ((L.take s.q.toNat).map fI)]:=by simp only[sliceD,deref,sliceP,hcut];rfl
  generalize ((Yg sh.length).map fun (q:Nat)=>PV.int (0 + q))=rs at eo' rngM lenM
  generalize L.map fI=LF at *
  generalize (L.take s.q.toNat).map fI=LT at *
  generalize s.P=SP at *
  generalize otT=tt at eo'
  simp[mSet,mSlice,oNo,oPart,Pu.intD,mVal,mComp,mRange1,aCons,aNil,mVar,mC,mOp,bnd,opM,Pu.ret,g2,deref,rngM,lenM,stIn',eo',q2,hsl]
 obtain ⟨c1,C2,e2,c1a,c1b,a2⟩:=Zau D.length 4 C1 a1.gs 2e4
 obtain ⟨v,hv,v12,_⟩:=ix_rg [.int 12,.int 30,.int 60,.int 1000] 12 1000 1e0 c1 c1a (by simpa using c1b)
 obtain ⟨c2,C3,e3,c20,_,a3⟩:=Zau D.length 5 C2 a2.gs 2e4
 obtain ⟨cl,hcl⟩:∃cl,cl=v + c2:=⟨_,rfl⟩
 have st5:mSet 13 clE [1e8,5e3,3e8,#[4e1],some (.c a),#[(.int (i:Nat))],#[.tup (hs'.map .str)],x7,x8,some (.c b),#[s.P],#[.int st],#[.lst ((L.take s.q.toNat).map fI)],x13] C1=some (.nx [1e8,5e3,3e8,#[4e1],some (.c a),#[(.int (i:Nat))],#[.tup (hs'.map .str)],x7,x8,some (.c b),#[s.P],#[.int st],#[.lst ((L.take s.q.toNat).map fI)],#[.int cl]],C3):=by
  simp[mSet,clE,mOp,mVal,mLst,mFn,aCons,aNil,mVar,mC,bnd,opM,Pu.ret,g2,deref,Pu.plain,e2,hv,e3,addP,hcl]
 have a123:=(a1.trans a2).trans a3
 have hoth3:∀j,j < D.length->C3[j]? = D[j]?:=fun j hj=>by
  rw[a123.oth j (Yo hj),Yf hj]
 obtain ⟨os,eos,hol,hos⟩:=oE_comp a sh hsh (L.take s.q.toNat) (fun q hq=>hLm q (Xv hq)) C3 (by rw[hoth3 a hal];exact hDa)
 have hos100:os.length<=100:=by rw[hol,Y7];lia
 obtain ⟨cs,C4,ecs,hcl4,hcs,a4⟩:=clauses_adv D.length s.H os s.zs ws C3 a123.gs hs.H hos hos100 hs.zs 1e3 (fun w hw=>(hwl w hw).2.1)
 have lenT:((L.take s.q.toNat).map fI).length<=100000:=by simp;lia
 have st6:mSet 7 (mFn F_qag (aCons 2e9 (aCons (mOp 2e7 (mVar 10) 2e6) (aCons (mOp 2e7 (mVar 10) 1e5) (aCons (mVal (mComp (mItems (mVar 12)) ["_law_j"] [4] 6e8 tOk oE)) (aCons 4e9 aNil)))))) [1e8,5e3,3e8,#[4e1],some (.c a),#[(.int (i:Nat))],#[.tup (hs'.map .str)],x7,x8,some (.c b),#[s.P],#[.int st],#[.lst ((L.take s.q.toNat).map fI)],#[.int cl]] C3=some (.nx [1e8,5e3,3e8,#[4e1],some (.c a),#[(.int (i:Nat))],#[.tup (hs'.map .str)],#[.tup (cs.map Cl.P)],x8,some (.c b),#[s.P],#[.int st],#[.lst ((L.take s.q.toNat).map fI)],#[.int cl]],C4):=by
  generalize (L.take s.q.toNat).map fI=LT at *
  generalize s.P=SP at *
  generalize ws.map PV.str=WS at *
  generalize os.map szP=OS at *
  generalize szP s.zs=ZS at *
  generalize cs.map Cl.P=CS at *
  generalize oE=te at eos
  simp[mSet,mFn,aCons,aNil,mVar,mC,mOp,bnd,opM,Pu.ret,g2,deref,q0,q1,mVal,mComp,mItems,itemsP,lenT,stIn',eos,ecs]
 have aa:=a123.trans a4
 have hoth:∀j,j < D.length->C4[j]? = D[j]?:=fun j hj=>by
  rw[aa.oth j (Yo hj),Yf hj]
 obtain ⟨ow,eow,howl,hown,howm⟩:=oW_comp ws hw nd (L.take s.q.toNat) (fun q hq=>by have:=hLm q (Xv hq);lia) (hLn.sublist (VY _ _)) C4
 have h5:5 + i < ws.length:=by lia
 have hwk:ws[5 + i]? = some ws[5 + i]:=Ya h5
 have hkey:ixQ (.lst (ws.map .str)) (.int (5 + (i:Int)))=some (.str ws[5 + i]):=by
  have k1:0<=(5 + (i:Int)):=by lia
  have k2:(5 + (i:Int)) < (ws.length:Int):=by lia
  have k3:(5 + (i:Int)).toNat=5 + i:=by lia
  generalize (5 + (i:Int))=Q at *
  simp[ixQ,ixP,atI,ixN,k1,k2,k3,h5]
 have hb4:C4[b]? = some (.dct (nms.map .str) (ds.map Dl.P)):=by rw[hoth b hbl];exact hDb
 obtain ⟨hp1,hp2⟩:=put_new nms (ds.map Dl.P) ws[5 + i] (.tup [.tup (hs'.map .str),.tup (ow.map .str),.int cl,.tup (cs.map Cl.P)]) (hnew _ hwk)
 have hset:setK (.v (.tup [.tup (hs'.map .str),.tup (ow.map .str),.int cl,.tup (cs.map Cl.P)])) (.c b) (.v (.str ws[5 + i])) [1e8,5e3,3e8,#[4e1],some (.c a),#[(.int (i:Nat))],#[.tup (hs'.map .str)],#[.tup (cs.map Cl.P)],x8,some (.c b),#[s.P],#[.int st],#[.lst ((L.take s.q.toNat).map fI)],#[.int cl]] C4=some (.nx [1e8,5e3,3e8,#[4e1],some (.c a),#[(.int (i:Nat))],#[.tup (hs'.map .str)],#[.tup (cs.map Cl.P)],x8,some (.c b),#[s.P],#[.int st],#[.lst ((L.take s.q.toNat).map fI)],#[.int cl]],C4.set b (.dct ((nms++[ws[5 + i]]).map .str) ((ds++[(⟨hs',ow,cl,cs⟩:Dl)]).map Dl.P))):=by
  unfold setK
  simp only[hb4,keyP]
  rw[←ZbA nms,Zbf]
  dsimp only
  rw[if_pos (by simp;lia),hp1,hp2,ZbA]
  rw[show (ds++[(⟨hs',ow,cl,cs⟩:Dl)]).map Dl.P=ds.map Dl.P++[.tup [.tup (hs'.map .str),.tup (ow.map .str),.int cl,.tup (cs.map Cl.P)]] by rw[W9];rfl]
 refine ⟨5e3,#[.tup (hs'.map .str)],#[.tup (cs.map Cl.P)],#[.int st],#[.lst ((L.take s.q.toNat).map fI)],#[.int cl],C4.set b (.dct ((nms++[ws[5 + i]]).map .str) ((ds++[(⟨hs',ow,cl,cs⟩:Dl)]).map Dl.P)),⟨hs',ow,cl,cs⟩,ws[5 + i],?_,?_,hwk,setAt hb4,⟨D.length,rfl,?_,Yk _⟩,by rw[W6,aa.len];simp,fun j hj hjb=>by rw[YZ (XT hjb)];exact hoth j hj⟩
 ·rw[show bbd=mSeq _ (mSeq _ (mSeq _ (mSeq _ (mSeq _ (mSeq _ _))))) from rfl,ZaF st1,ZaF st2,ZaF st3,ZaF st4,ZaF st5,ZaF st6]
  generalize C4.set b (.dct ((nms++[ws[5 + i]]).map .str) ((ds++[(⟨hs',ow,cl,cs⟩:Dl)]).map Dl.P))=CF at hset
  generalize (L.take s.q.toNat).map fI=LT at *
  generalize s.P=SP at *
  generalize hs'.map PV.str=HS at *
  generalize ow.map PV.str=OW at *
  generalize cs.map Cl.P=CS at *
  generalize ws.map PV.str=WS at *
  generalize oW=te at eow
  simp[mSetIxK,mTup,aCons,aNil,mVar,mC,mOp,bnd,opM,Pu.ret,g1,g2,deref,derefs,mCB,mVal,mComp,mItems,itemsP,lenT,stIn',eow,tupH,Pu.plain,addP,hkey,hset]
 ·have:=hs.H
  have:=hs.zs.ne
  have:=hs.zs.le
  have hq:=hs.q
  have hcl5:cs.length=s.zs.length:=by rw[←hcl4];simp
  have how2:ow.length=os.length:=by rw[howl,hol]
  have hHl:((hs'.length:Nat):Int)=s.H:=by rw[hhl];lia
  refine ⟨by show 2<=hs'.length/\hs'.length<=8;rw[hhl];lia,hhn,fun h hh=>(hwl h (hhw h hh)).2,?_,hown,fun h hh=>(hwl h (howm h hh)).2.1,?_,?_,fun i c hc=>?_⟩
  ·show ow.length<=4
   rw[howl,Y7];lia
  ·show 0<=cl
   lia
  ·show 1<=cs.length/\cs.length<=12
   lia
  ·show ClG _ (hs'.length:Nat) (ow.length:Nat) (cs.map Cl.p) c
   rw[hHl,how2,hcl4];exact hcs i c hc
 ·obtain ⟨x',y',h',r'⟩:=aa.gs
  exact ⟨x',y',by rw[YZ (Yo hbl)];exact h',r'⟩
theorem loopE_idx {g:5e4}{f:PSt->M PF}(a:Nat)(qs:List PV)(Pi:Nat->PSt->Cs->Prop)(hcell:∀i ρ D,Pi i ρ D->D[a]? = some (.lst qs))
  (step:∀(i:Nat) (h:i < qs.length) ρ D,Pi i ρ D->∃ρ1 ρ2 D2,g (.tup [.int (i:Nat),qs[i]]) ρ=some ρ1/\f ρ1 D=some (.nx ρ2,D2)/\Pi (i + 1) ρ2 D2):∀(n i:Nat) ρ D,i<=qs.length->qs.length - i < n->Pi i ρ D->∃ρ' D',loopE g f a n i ρ D=some (.nx ρ',D')/\Pi qs.length ρ' D'
 | 0,i,ρ,D,_,h,_=>by lia
 | n + 1,i,ρ,D,hi,hn,h=>by
  rcases YF i qs.length with hl | hl
  ·obtain ⟨ρ1,ρ2,D2,e1,e2,h2⟩:=step i hl ρ D h
   obtain ⟨ρ',D',e3,h3⟩:=loopE_idx a qs Pi hcell step n (i + 1) ρ2 D2 hl 1e3 h2
   refine ⟨ρ',D',?_,h3⟩
   unfold loopE
   simp only[hcell i ρ D h,Ya hl,e1,bnd,e2,e3]
  ·have:i=qs.length:=by lia
   subst this
   refine ⟨ρ,D,?_,h⟩
   unfold loopE
   simp only[hcell _ ρ D h,Yl.mpr (Yk _)]
structure TnOk (nms:List Str)(ds:List Dl):Prop where
 l1:1<=nms.length/\nms.length<=7
 ld:ds.length=nms.length
 nd:nms.Nodup
 le:∀w∈nms,w.length<=10
 ok:∀d∈ds,DlOk d
theorem take_snoc {ws:4e6}{i:Nat}{w:Str}(h:ws[5 + i]? = some w):(ws.drop 5).take (i + 1)=(ws.drop 5).take i++[w]:=by
 have h1:(ws.drop 5)[i]? = some w:=by rw[List.getElem?_drop];exact h
 obtain ⟨hl,e⟩:=YN.mp h1
 rw[←e,List.take_succ_eq_append_getElem hl]
theorem town_eq (ns:List Int)(C:Cs):∃(sp:Int) (nms:4e6) (ds:List Dl),F_qay [.v (.lst (ns.map .int))] C=some (.v (.tup [.int sp,.dct (nms.map .str) (ds.map Dl.P)]),C)/\TnOk nms ds:=by
 obtain ⟨x,y,el,hy⟩:=left_eq ns 1 C 1e3 1e3
 have g0:=gs_new C x y hy
 obtain ⟨ws,C1,ew,hw,nd,hwl,a1⟩:=words_adv C.length _ g0
 obtain ⟨p,C2,e2,p1,p2,a2⟩:=Zau C.length 8 C1 a1.gs 2e4
 obtain ⟨Mi,hM,M1,M7⟩:=ix_rg [.int 1,.int 1,.int 2,.int 2,.int 3,.int 1,.int 2,.int 7] 1 7 1e0 p p1 (by simpa using p2)
 have a12:=a1.trans a2
 have h12:∀j,j < C.length->C2[j]? = C[j]?:=fun j hj=>by rw[a12.oth j (Yo hj),Yf hj]
 have hl2:C2.length=C.length + 1:=by rw[a12.len];simp
 obtain ⟨M,rfl⟩:∃M:Nat,Mi=(M:Int):=⟨Mi.toNat,by lia⟩
 obtain ⟨ρA,D,eA,hA⟩:=loop_idx (g:=hName 5) (f:=abd) (fun i ρ D=>∃(x1 x5 x6 x7 x8:Option SV) (sh:List Sh),ρ=[1e8,x1,3e8,#[(.int (M:Int))],some (.c C2.length),x5,x6,x7,x8,none,none,none,none,none]/\D[C2.length]? = some (.lst (sh.map Sh.P))/\(∀s∈sh,ShOk s)/\sh.length=i/\C2.length + 1<=D.length/\∀j,j < C.length->D[j]? = C[j]?) 7
  ((Yg M).map fun (q:Nat)=>PV.int (0 + q)) 0 (by simp;lia) (fun z hz i ρ D hi h=>by
   obtain ⟨q,hq,rfl⟩:=YM.mp hz
   have hq:=Y0.mp hq
   obtain ⟨x1,x5,x6,x7,x8,sh,rfl,h1,h2,h3,h4,h5⟩:=h
   obtain ⟨y1,y6,y7,y8,D',s,t1,t2,t3,t4,t5⟩:=abd_ok ns #[.lst (ws.map .str)] #[(.int (M:Int))] C2.length 6e1 x1 x6 x7 x8 none none none none none sh D 1e3 h1 h2 1e3
   refine ⟨_,_,D',rfl,t1,y1,_,y6,y7,y8,sh++[s],rfl,t3,fun u hu=>?_,by simp[h3],by lia,fun j hj=>by rw[t5 j 1e3 1e3,h5 j hj]⟩
   rcases YX.mp hu with hu | hu
   ·exact h2 u hu
   ·rw[YD.mp hu];exact t2) [#[.lst (ns.map .int)],some (.c C.length),#[.lst (ws.map .str)],#[(.int (M:Int))],some (.c C2.length),none,none,none,none,none,none,none,none,none] (C2++[.lst []]) ⟨some (.c C.length),none,none,none,none,[],rfl,by simp,(fun _ h=>(nomatch h)),rfl,by simp,fun j hj=>by rw[Yf (by lia)];exact h12 j hj⟩
 obtain ⟨x1,x5,x6,x7,x8,sh,rfl,hDa,hsh,hshl,hDl,hDo⟩:=hA
 have hM':sh.length=M:=by simpa using hshl
 subst hM'
 obtain ⟨ρB,E,eB,hB⟩:=loopE_idx (g:=hTup (hCons (hName 5) (hCons (hName 10) hNil)) 2) (f:=bbd) C2.length (sh.map Sh.P) (fun i ρ E=>∃(y1 y5 y6 y7 y10 y11 y12 y13:Option SV) (ds:List Dl),ρ=[1e8,y1,3e8,#[4e1],some (.c C2.length),y5,y6,y7,x8,5e3,y10,y11,y12,y13]/\E[C2.length]? = some (.lst (sh.map Sh.P))/\E[D.length]? = some (.dct (((ws.drop 5).take i).map .str) (ds.map Dl.P))/\(∀d∈ds,DlOk d)/\ds.length=i/\i<=sh.length/\D.length + 1<=E.length/\(i=0\/∃q,y1=some (.c q)/\GS E q/\D.length + 1<=q)/\∀j,j < C.length->E[j]? = C[j]?)
  (fun i ρ E h=>by obtain ⟨_,_,_,_,_,_,_,_,_,_,h,_⟩:=h;exact h) (fun i hi ρ E h=>by
   have hi':i < sh.length:=by simpa using hi
   obtain ⟨y1,y5,y6,y7,y10,y11,y12,y13,ds,rfl,h1,h2,h3,h4,h5,h6,_,h8⟩:=h
   have hil:i < 7:=by lia
   obtain ⟨z1,z6,z7,z11,z12,z13,E',d,w,t1,t2,t3,t4,t5,t6,t7⟩:=bbd_ok ns ws hw nd hwl C2.length D.length 1e3 i hil sh hsh 1e3 (sh[i]) (hsh _ (Y5 hi')) y1 y6 y7 x8 y11 y12 y13 ((ws.drop 5).take i) ds E h1 h2 (by simp;lia) (fun w hw5 hmem=>by
    obtain ⟨j,hj,e⟩:=XB hmem
    have hj':j < i:=by simp at hj;lia
    obtain ⟨h5i,e5⟩:=YN.mp hw5
    rw[List.getElem_take,List.getElem_drop,←e5] at e
    have:=(Wq (h₀:=by lia) (h₁:=h5i) nd).mp e
    lia)
   refine ⟨_,_,E',?_,t1,z1,#[(.int (i:Nat))],z6,z7,#[(sh[i]).P],z11,z12,z13,ds++[d],rfl,by rw[t7 _ 1e3 1e3];exact h1,?_,fun u hu=>?_,by simp[h4],hi',by lia,.inr ?_,fun j hj=>by rw[t7 j 1e3 1e3,h8 j hj]⟩
   ·simp[hTup,hCons,hName,hNil]
   ·rw[take_snoc t3];exact t4
   ·rcases YX.mp hu with hu | hu
    ·exact h3 u hu
    ·rw[YD.mp hu];exact t2
   ·obtain ⟨q,q1,q2,q3⟩:=t5
    exact ⟨q,q1,q2,by lia⟩) 1000 0 [#[.lst (ns.map .int)],x1,#[.lst (ws.map .str)],#[(.int (sh.length:Int))],some (.c C2.length),x5,x6,x7,x8,some (.c D.length),none,none,none,none] (D++[.dct [] []]) (YT _) (by simp;lia) ⟨x1,x5,x6,x7,none,none,none,none,[],rfl,by rw[Yf (by lia)];exact hDa,by simp,(fun _ h=>(nomatch h)),rfl,YT _,by simp,.inl rfl,fun j hj=>by rw[Yf (by lia)];exact hDo j hj⟩
 obtain ⟨y1,y5,y6,y7,y10,y11,y12,y13,ds,rfl,hE1,hE2,hds,hdl,_,hEl,hq,hEo⟩:=hB
 simp only[Yr] at hE2 hdl hq
 obtain ⟨q,rfl,gq,hq⟩:∃q,y1=some (.c q)/\GS E q/\D.length + 1<=q:=by
  rcases hq with hq | hq
  ·lia
  ·exact hq
 obtain ⟨r,F,e5,r1,r2,a5⟩:=Zau q 5 E gq 2e4
 obtain ⟨sp,hsp,_,_⟩:=ix_rg [.int 0,.int 1,.int 2,.int 5,.int 30] 0 30 1e0 r r1 (by simpa using r2)
 have hFb:F[D.length]? = some (.dct (((ws.drop 5).take sh.length).map .str) (ds.map Dl.P)):=by rw[a5.oth _ 1e3];exact hE2
 have hFC:F.take C.length=C:=by
  apply WI
  intro j
  rcases YF j C.length with z | z
  ·rw[Xq z,a5.oth j 1e3,hEo j z]
  ·rw[Yl.mpr z,Yl.mpr (by rw[Y7];lia)]
 have hlt:((ws.drop 5).take sh.length).length=sh.length:=by simp;lia
 refine ⟨sp,(ws.drop 5).take sh.length,ds,?_,⟨by lia,by lia,(nd.sublist (List.drop_sublist 5 ws)).sublist (VY _ _),fun w h=>(hwl w (Vu (Xv h))).1,hds⟩⟩
 have st1:mNew 1 (mFnF FF_qao (aCons 1e7 (aCons 1e5 aNil))) [1e8,none,none,none,none,none,none,none,none,none,none,none,none,none] C=some (.nx [1e8,some (.c C.length),none,none,none,none,none,none,none,none,none,none,none,none],C++[.lst [.int x,.int y]]):=by
  simp[mNew,mFnF,aCons,aNil,mVar,mC,bnd,Pu.ret,el]
 have st2:mSet 2 (mFn F_qbe (aCons 2e9 (aCons (mC (.int 16)) aNil))) [1e8,some (.c C.length),none,none,none,none,none,none,none,none,none,none,none,none] (C++[.lst [.int x,.int y]])=some (.nx [1e8,some (.c C.length),3e8,none,none,none,none,none,none,none,none,none,none,none],C1):=by
  generalize ws.map PV.str=WS at *
  simp[mSet,mFn,aCons,aNil,mVar,mC,bnd,Pu.ret,ew]
 have st3:mSet 3 (mOp 2e7 (mVal (mLst (aCons 1e5 (aCons 1e5 (aCons 3e2 (aCons 3e2 (aCons 6e9 (aCons 1e5 (aCons 3e2 (aCons (mC (.int 7)) aNil)))))))))) (mFn F_qaq (aCons 2e9 4e2))) [1e8,some (.c C.length),3e8,none,none,none,none,none,none,none,none,none,none,none] C1=some (.nx [1e8,some (.c C.length),3e8,#[4e1],none,none,none,none,none,none,none,none,none,none],C2):=by
  generalize ws.map PV.str=WS at *
  simp[mSet,mOp,mVal,mLst,mFn,aCons,aNil,mVar,mC,bnd,opM,Pu.ret,g2,deref,Pu.plain,e2,hM]
 have st4:mNew 4 (mLst aNil) [1e8,some (.c C.length),3e8,#[4e1],none,none,none,none,none,none,none,none,none,none] C2=some (.nx [1e8,some (.c C.length),3e8,#[4e1],some (.c C2.length),none,none,none,none,none,none,none,none,none],C2++[.lst []]):=by
  simp[mNew,mLst,aNil,bnd,opM,Pu.ret,Pu.plain]
 have st5:mFor (mRange1 (aCons (mVar 3) aNil)) (hName 5) abd [1e8,some (.c C.length),3e8,#[4e1],some (.c C2.length),none,none,none,none,none,none,none,none,none] (C2++[.lst []])=some (.nx [1e8,x1,3e8,#[4e1],some (.c C2.length),x5,x6,x7,x8,none,none,none,none,none],D):=by
  have hr:rng1P [.v 4e1]=some ((Yg sh.length).map fun (q:Nat)=>PV.int (0 + q)):=by
   unfold rng1P;dsimp only;rw[if_pos 1e3,XY]
  have hm:mRange1 (aCons (mVar 3) aNil) [1e8,some (.c C.length),3e8,#[4e1],some (.c C2.length),none,none,none,none,none,none,none,none,none] (C2++[.lst []])=some ((Yg sh.length).map fun (q:Nat)=>PV.int (0 + q),C2++[.lst []]):=by
   generalize ((Yg sh.length).map fun (q:Nat)=>PV.int (0 + q))=rs at hr
   simp[mRange1,aCons,aNil,mVar,bnd,opM,Pu.ret,hr]
  unfold mFor bnd;rw[hm];exact eA
 have st6:mNewK 9 [1e8,x1,3e8,#[4e1],some (.c C2.length),x5,x6,x7,x8,none,none,none,none,none] D=some (.nx [1e8,x1,3e8,#[4e1],some (.c C2.length),x5,x6,x7,x8,5e3,none,none,none,none],D++[.dct [] []]):=rfl
 have st7:mForE (aCons 7e0 aNil) (hTup (hCons (hName 5) (hCons (hName 10) hNil)) 2) bbd [1e8,x1,3e8,#[4e1],some (.c C2.length),x5,x6,x7,x8,5e3,none,none,none,none] (D++[.dct [] []])=some (.nx [1e8,some (.c q),3e8,#[4e1],some (.c C2.length),y5,y6,y7,x8,5e3,y10,y11,y12,y13],E):=by
  have hm:aCons 7e0 aNil [1e8,x1,3e8,#[4e1],some (.c C2.length),x5,x6,x7,x8,5e3,none,none,none,none] (D++[.dct [] []])=some ([.c C2.length],D++[.dct [] []]):=by
   simp[aCons,aNil,mVar,bnd,Pu.ret]
  unfold mForE bnd;rw[hm];exact eB
 have hb:B_qay=mSeq (mNew 1 (mFnF FF_qao (aCons 1e7 (aCons 1e5 aNil)))) (mSeq (mSet 2 (mFn F_qbe (aCons 2e9 (aCons (mC (.int 16)) aNil)))) (mSeq (mSet 3 (mOp 2e7 (mVal (mLst (aCons 1e5 (aCons 1e5 (aCons 3e2 (aCons 3e2 (aCons 6e9 (aCons 1e5 (aCons 3e2 (aCons (mC (.int 7)) aNil)))))))))) (mFn F_qaq (aCons 2e9 4e2)))) (mSeq (mNew 4 (mLst aNil)) (mSeq (mFor (mRange1 (aCons (mVar 3) aNil)) (hName 5) abd) (mSeq (mNewK 9) (mSeq (mForE (aCons 7e0 aNil) (hTup (hCons (hName 5) (hCons (hName 10) hNil)) 2) bbd) (mRetQ (aCons (mOp 2e7 (mVal (mLst (aCons 2e6 (aCons 1e5 (aCons 3e2 (aCons (mC (.int 5)) (aCons (mC (.int 30)) aNil))))))) (mFn F_qaq (aCons 2e9 (aCons (mC (.int 5)) aNil)))) (aCons (mVar 9) aNil))))))))):=rfl
 unfold F_qay
 rw[hb]
 show (match mSeq _ _ [some (.v (.lst (ns.map .int))),none,none,none,none,none,none,none,none,none,none,none,none,none] C with
  | some (.rt r,C')=>fin C.length C' r
  | some (.nx _,C')=>some (.v .non,C'.take C.length)
  | some (.rf ps,C')=>some (.v 6e6,C'.take C.length)
  | some (.rq qs,C')=>(finQ C.length C' qs).map fun ps=>(.v 5e9,C'.take C.length)
  | _=>none)=_
 rw[ZaF st1,ZaF st2,ZaF st3,ZaF st4,ZaF st5,ZaF st6,ZaF st7]
 have hDC:¬D.length < C.length:=by lia
 generalize ((ws.drop 5).take sh.length).map PV.str=NM at *
 generalize ds.map Dl.P=DS at *
 simp[mRetQ,aCons,aNil,mVar,mC,mOp,mVal,mLst,mFn,bnd,opM,Pu.ret,g2,deref,Pu.plain,e5,hsp,finQ,hDC,hFb,hFC]
theorem foldl_nd {α:Type} [DecidableEq α]:∀(l acc:List α),(acc++l).Nodup->l.foldl Se.ins acc=acc++l
 | [],acc,_=>by simp
 | x::l,acc,h=>by
  have h1:x∉acc:=fun hm=>(We.mp h).2.2 x hm x 3e4 rfl
  have h2:Se.ins acc x=acc++[x]:=by unfold Se.ins;rw[if_neg h1]
  rw[Ul,h2,foldl_nd l (acc++[x]) (by rw[Yz];exact h),Yz];rfl
theorem fm_nd {α:Type} [DecidableEq α](l:List α)(h:l.Nodup):Se.fm l=l:=by
 unfold Se.fm;rw[foldl_nd l [] (by simpa using h)];rfl
theorem nodup_map_inj {α β:Type}{f:α->β}(hf:∀a b,f a=f b->a=b){l:List α}(h:l.Nodup):(l.map f).Nodup:=by
 rw[YR] at h ⊢
 rw[XC]
 exact h.imp fun hne e=>hne (hf _ _ e)
theorem wordsB_ok (l:4e6)(a b:Int)(h1:a<=(l.length:Int))(h2:(l.length:Int)<=b)(hw:∀w∈l,wordB w=true)(nd:l.Nodup):wordsB (.tup (l.map .str)) a b=true:=by
 have ha:(l.map PV.str).all wordP=true:=by
  rw[Xw,Yt];exact fun w h=>hw w h
 have hk:keysP (l.map PV.str)=some (l.map (XM:Str->Key)):=by
  rw[←ZbA,Zbf]
 have hn:(l.map (XM:Str->Key)).Nodup:=nodup_map_inj (fun a b e=>by injection e) nd
 unfold wordsB
 dsimp only
 rw[ha,hk]
 dsimp only
 rw[fm_nd _ hn]
 simp[h1,h2]
theorem ZcG:∀es:List (List Key),tupKeysP (es.map tupK)=some es
 | []=>rfl
 | e::es=>by
  rw[YO]
  show tupKeysP (.tup (e.map kP)::es.map tupK)=_
  unfold tupKeysP
  rw[Zbf,ZcG es]
theorem setB_ok (es:List (List Key))(hl:es.length < 76)(nd:es.Nodup):setB (es.map tupK)=true:=by
 have e:lenSetL (es.map tupK)=some (.int (es.length:Nat)):=by
  unfold lenSetL
  rw[if_pos (by rw[Yr];exact hl)]
  cases es with
  | nil=>rfl
  | cons x es=>
   have hn:keysP ((x::es).map tupK)=none:=by rw[YO];unfold tupK keysP;rfl
   rw[hn,ZcG]
   dsimp only
   rw[fm_nd _ nd]
 unfold setB
 rw[e]
 simp
noncomputable def Cl.ev (c:Cl):List (List Key):=c.cs++(match c.lv with | some (e,_)=>[e] | none=>[])
theorem evsOf_P (c:Cl):evsOf c.P=c.ev.map tupK:=by
 unfold Cl.P Cl.ev
 cases c.lv with
 | none=>simp[lvP,evsOf]
 | some p=>obtain ⟨e,n⟩:=p;simp[lvP,evsOf]
theorem Cl.good {own H on:Int}{zs:List Int}{c:Cl}(h:ClG own H on zs c):gdB own H on zs c.P=true:=by
 have hv:∀e∈c.ev,EvG own H on zs e:=by
  intro e he
  unfold Cl.ev at he
  rcases YX.mp he with he | he
  ·exact h.cs e he
  ·cases q:c.lv with
   | none=>rw[q] at he;cases he
   | some p=>
    obtain ⟨f,n⟩:=p
    rw[q] at he
    rw[YD.mp he]
    exact (h.lv f n q).1
 have hnd:c.ev.Nodup:=by
  unfold Cl.ev
  cases q:c.lv with
  | none=>simpa using h.nd
  | some p=>
   obtain ⟨f,n⟩:=p
   exact We.mpr ⟨h.nd,by simp,fun x hx y hy=>by rw[YD.mp hy];intro z;subst z;exact (h.lv _ n q).2.1 hx⟩
 have hl:c.ev.length < 76:=by
  have:=h.le
  unfold Cl.ev
  cases c.lv with
  | none=>simp;lia
  | some p=>obtain ⟨f,n⟩:=p;simp;lia
 unfold gdB
 rw[evsOf_P,setB_ok _ hl hnd,Xw,Bool.and_true,Yt]
 exact fun e he=>(hv e he).b
theorem Cl.clb {own H on:Int}{zs:List Int}{c:Cl}(h:ClG own H on zs c):clB H c.P=true:=by
 have h1:belB (.int c.a) H=true:=by simp[belB,h.a.1,h.a.2]
 have h2:belB (.int c.b) H=true:=by simp[belB,h.b.1,h.b.2]
 have h3:unB (.int c.a) (.int c.b)=true:=by simp[unB,h.ab]
 have h4:ptB (.int c.p)=true:=by simp[ptB,h.p.1,h.p.2]
 have h5:numB (.int c.w) 1=true:=by simp[numB,h.w]
 have h6:csB (.tup (c.cs.map tupK))=true:=by have:=h.le;simp[csB];lia
 have h7:lvB (lvP c.lv)=true:=by
  cases q:c.lv with
  | none=>rfl
  | some p=>obtain ⟨e,n⟩:=p;have:=(h.lv e n q).2.2;simp[lvP,lvB,numB,this]
 unfold Cl.P clB cl6
 dsimp only
 rw[h1,h2,h3,h4,h5,h6,h7];rfl
theorem bell_no (l:4e6)(h:∀w∈l,w≠"bell"):bellB (.tup (l.map .str))=false:=by
 unfold bellB
 dsimp only
 rw[Ut,List.any_eq_false]
 intro w hw
 simp only[Function.comp,isBell,decide_eq_true_eq]
 exact h w hw
theorem Dl.good {d:Dl}(h:DlOk d):dealB d.P=true:=by
 have w1:=wordsB_ok d.hs 1 8 (by have:=h.h2;lia) (by have:=h.h2;lia) (fun w hw=>(h.hw w hw).1) h.nd
 have w2:=bell_no d.hs fun w hw=>(h.hw w hw).2
 have w3:=wordsB_ok d.ow 0 4 1e3 (by have:=h.ol;lia) h.ow h.on
 have w4:numB (.int d.cl) 0=true:=by simp[numB,h.cl]
 have hc:∀c∈d.cs,clB (d.hs.length:Nat) c.P=true:=fun c hc=>by
  obtain ⟨i,hi,e⟩:=XB hc
  exact Cl.clb (h.cs i c (by rw[Ya hi,e]))
 have hg:goodsB (d.hs.length:Nat) (d.ow.length:Nat) (d.cs.map Cl.P)=true:=by
  unfold goodsB
  rw[Yt]
  intro i hi
  have hi:i < d.cs.length:=by simpa using hi
  have hz:(d.cs.map Cl.P).map partOf=d.cs.map Cl.p:=by rw[Xb];rfl
  have hx:(d.cs.map Cl.P).getD i .non=(d.cs[i]).P:=by simp[hi]
  rw[hz,hx]
  exact Cl.good (h.cs i _ (Ya hi))
 have w5:csetB (d.hs.length:Nat) (d.ow.length:Nat) (.tup (d.cs.map Cl.P))=true:=by
  unfold csetB
  have h1:=h.c1
  have a1:(1:Int)<=((d.cs.map Cl.P).length:Int):=by simp;lia
  have a2:((d.cs.map Cl.P).length:Int)<=12:=by simp;lia
  have a3:(d.cs.map Cl.P).all (clB (d.hs.length:Nat))=true:=by rw[Xw,Yt];exact hc
  dsimp only
  rw[hg,a3,decide_eq_true a1,decide_eq_true a2];rfl
 have l1:lenP (.tup (d.hs.map .str))=(d.hs.length:Nat):=by simp[lenP]
 have l2:lenP (.tup (d.ow.map .str))=(d.ow.length:Nat):=by simp[lenP]
 unfold Dl.P dealB deal4
 dsimp only
 rw[w1,w2,w3,w4,l1,l2,w5];rfl
theorem ZcI {n B:Nat}(i:Int):Ta n B (.int i):=⟨rfl,YT _,rfl⟩
theorem ta_str {n B:Nat}(i:Str):Ta n B (.str i):=⟨rfl,YT _,rfl⟩
theorem ta_tupK {n B:Nat}(e:List Key)(h:e.length<=B):Ta (n + 1) B (tupK e):=Ta.mk_tup (by rw[Yr];exact h) fun p hp=>by
 obtain ⟨k,_,rfl⟩:=YM.mp hp
 cases k with
 | inl i=>exact ZcI i
 | inr z=>exact ta_str z
theorem ta_strs {n B:Nat}(l:4e6)(h:l.length<=B):Ta (n + 1) B (.tup (l.map .str)):=Ta.mk_tup (by rw[Yr];exact h) fun p hp=>by
 obtain ⟨k,_,rfl⟩:=YM.mp hp
 exact ta_str k
theorem ta_cl {own H on:Int}{zs:List Int}{c:Cl}(h:ClG own H on zs c):Ta 3 12 c.P:=by
 unfold Cl.P
 refine Ta.mk_tup 3e4 fun p hp=>?_
 have hcs:Ta 2 12 (.tup (c.cs.map tupK)):=Ta.mk_tup (by rw[Yr];have:=h.le;lia) fun p hp=>by
  obtain ⟨e,he,rfl⟩:=YM.mp hp
  exact ta_tupK e (by have:=(h.cs e he).l;lia)
 have hlv:Ta 2 12 (lvP c.lv):=by
  cases q:c.lv with
  | none=>exact Ta.mk_tup 3e4 fun p hp=>(nomatch hp)
  | some r=>
   obtain ⟨e,n⟩:=r
   have:=(h.lv e n q).1.l
   refine Ta.mk_tup 3e4 fun p hp=>?_
   rcases Yn.mp hp with rfl | hp
   ·exact ta_tupK e 1e3
   ·rw[YD.mp hp];exact ZcI n
 simp only[Yn,Y3,or_false] at hp
 rcases hp with rfl | rfl | rfl | rfl | rfl | rfl
 ·exact ZcI _
 ·exact ZcI _
 ·exact ZcI _
 ·exact ZcI _
 ·exact hcs
 ·exact hlv
theorem ta_dl {d:Dl}(h:DlOk d):Ta 5 12 d.P:=by
 unfold Dl.P
 refine Ta.mk_tup 3e4 fun p hp=>?_
 simp only[Yn,Y3,or_false] at hp
 rcases hp with rfl | rfl | rfl | rfl
 ·exact ta_strs _ (by have:=h.h2;lia)
 ·exact ta_strs _ (by have:=h.ol;lia)
 ·exact ZcI _
 ·refine Ta.mk_tup (by rw[Yr];exact h.c1.2) fun p hp=>?_
  obtain ⟨c,hc,rfl⟩:=YM.mp hp
  obtain ⟨i,hi,e⟩:=XB hc
  exact ta_cl (h.cs i c (by rw[Ya hi,e]))
theorem strs_of:∀(L:List PV),(∀p∈L,∃w:Str,p=.str w)->∃ws:List Str,L=ws.map .str
 | [],_=>⟨[],rfl⟩
 | p::L,h=>by
  obtain ⟨w,rfl⟩:=h p 3e4
  obtain ⟨ws,rfl⟩:=strs_of L fun q hq=>h q (by simp[hq])
  exact ⟨w::ws,rfl⟩
theorem sort_strs (nms:4e6)(h7:nms.length<=7)(hle:∀w∈nms,w.length<=10)(C:Cs)(ps:List PV):∃sn:List Str,sortedH3 C [.v (.dct (nms.map .str) ps)]=some (sn.map .str)/\sn.length=nms.length/\(∀w∈sn,w∈nms)/\(nms.Nodup->sn.Nodup):=by
 have hd:dats (nms.map PV.str)=true:=ZcC (f:=PV.str) (fun _=>rfl) nms
 have hdp:deps (nms.map PV.str)<=0:=ZcB (f:=PV.str) (fun _=>Yk _) nms
 have hs:sortable (nms.map PV.str)=true:=by
  unfold sortable
  have:(nms.map PV.str).all (fun p=>fstK p==2)=true:=by rw[Xw];exact Yt.mpr fun _ _=>rfl
  rw[this];simp
 have hc:cmpAll (nms.map PV.str)=true:=by
  unfold cmpAll
  rw[Xw]
  exact Yt.mpr fun a _=>by
   show (nms.map PV.str).all _=true
   rw[Xw]
   exact Yt.mpr fun b _=>rfl
 have hp:purs (nms.map PV.str)=true:=purs_map (f:=PV.str) (fun _=>rfl) nms
 have hsp:sortP (nms.map PV.str)=some (sortL (nms.map PV.str)):=by
  unfold sortP
  rw[if_pos]
  rw[hd,hs,hc,Yr]
  simp;lia
 have pm:=sortL_perm hc hp
 obtain ⟨sn,e⟩:=strs_of (sortL (nms.map PV.str)) fun x hx=>by
  obtain ⟨w,_,rfl⟩:=YM.mp (pm.mem_iff.mp hx)
  exact ⟨w,rfl⟩
 refine ⟨sn,?_,?_,fun w hw=>?_,fun hnd=>?_⟩
 ·unfold sortedH3
  simp only[deref]
  rw[←ZbA nms,Zbf]
  dsimp only
  rw[if_pos,ZbA,hsp,e]
  rw[Xw]
  exact Yt.mpr fun w hw=>by
   show decide (w.length<=1000)=true
   have:=hle w hw
   exact decide_eq_true 1e3
 ·have:=pm.length_eq
  rw[e] at this
  simpa using this
 ·have:PV.str w∈sortL (nms.map PV.str):=by rw[e];exact VA hw
  obtain ⟨v,hv,ev⟩:=YM.mp (pm.mem_iff.mp this)
  cases ev;exact hv
 ·rw[e] at pm
  have h1:(nms.map PV.str).Nodup:=by
   rw[YR,XC]
   exact List.Pairwise.imp (fun {x y} hne z=>hne (by cases z;rfl)) (YR.mp hnd)
  have h2:=pm.nodup_iff.mpr h1
  rw[YR,XC] at h2
  rw[YR]
  exact List.Pairwise.imp (fun {x y} hne z=>hne (by rw[z])) h2
theorem look_deal (w:Str):∀(nms:4e6) (ds:List Dl),ds.length=nms.length->w∈nms->∃d∈ds,lookP (nms.map .str) (ds.map Dl.P) (.inr w)=some d.P
 | [],ds,_,h=>by cases h
 | v::nms,[],hl,h=>by simp at hl
 | v::nms,d::ds,hl,h=>by
  rw[YO,YO]
  unfold lookP
  by_cases e:v=w
  ·subst e
   exact ⟨d,by simp,by rw[if_pos (show keyP (.str v)=some (.inr v) from rfl)]⟩
  ·have hm:w∈nms:=by
    rcases Yn.mp h with h | h
    ·exact absurd h.symm e
    ·exact h
   obtain ⟨d',hd,h2⟩:=look_deal w nms ds (by simpa using hl) hm
   refine ⟨d',by simp[hd],?_⟩
   rw[if_neg (fun z=>e (by simpa[keyP] using z))]
   exact h2
def townP (sp:Int)(nms:4e6)(ds:List Dl):PV:=.tup [.int sp,.dct (nms.map .str) (ds.map Dl.P)]
theorem town_1 (sp:Int)(nms:4e6)(ds:List Dl):ixQ (townP sp nms ds) (.int 1)=some (.dct (nms.map .str) (ds.map Dl.P)):=by simp[townP,ixQ,ixP,atI,ixN]
theorem town_deal {nms:4e6}{ds:List Dl}(t:TnOk nms ds)(w:Str)(h:w∈nms):∃d∈ds,ixQ (.dct (nms.map .str) (ds.map Dl.P)) (.str w)=some d.P:=by
 obtain ⟨d,hd,e⟩:=look_deal w nms ds t.ld h
 exact ⟨d,hd,by unfold ixQ;simp only[keyP];exact e⟩
abbrev lw0:PSt->M PF:=(mSet 1 (mFn F_qay 5e2))
abbrev lw1:PSt->M PF:=(mSet 2 (mVal (mSorted3 (aCons (mOp 2e7 2e9 1e5) aNil))))
abbrev lte (e f1 f2 f3:Addr):PSt->M SV:=(mFn F_qaw (aCons (mFn (F_qbk e f1 f2 f3) (aCons (mOp 2e7 (mOp 2e7 2e9 1e5) 1e7) aNil)) (aCons (mC (.bl true)) aNil)))
abbrev lw2 (te:4e0):PSt->M PF:=(mIfS (mNotT (mTru (mCB (g1 allH) (aCons (mVal (mComp (mItems 4e9) ["_law_name"] [1] 6e8 tOk te)) aNil)))) 2e1 mSkip)
abbrev lb0:PSt->M PF:=(mNew 4 (mFnF FF_qao (aCons 1e7 (aCons (mOp 6e7 (mC (.int 17)) (mVar 3)) aNil))))
abbrev lb1:PSt->M PF:=(mSet 5 (mFn (F_qau 12) (aCons 7e0 (aCons (mOp 2e7 (mOp 2e7 2e9 1e5) (mOp 2e7 4e9 (mFn F_qaq (aCons 7e0 (aCons (mCB 6e0 (aCons 4e9 aNil)) aNil))))) aNil))))
abbrev lb2:PSt->M PF:=(mIfS (mTest (mOp (g2 eqP) (mFn F_qaq (aCons 7e0 (aCons 5e6 aNil))) 2e6)) (mSet 5 (mFn (F_qau 12) (aCons 7e0 (aCons (mVar 5) aNil)))) mSkip)
abbrev lb3 (e f1 f2 f3:Addr):PSt->M PF:=(mIfS (mNotT (mTru (mFn F_qaw (aCons (mFn (F_qbk e f1 f2 f3) (aCons (mVar 5) aNil)) (aCons (mFn F_qai (aCons (mVar 5) aNil)) aNil))))) 2e1 mSkip)
abbrev lrg:PSt->M 6e2:=(mRange1 (aCons (mCB (g1 maxH) (aCons (mC (.int 12)) (aCons (mCB (g1 minH) (aCons (mC (.int 40)) (aCons (mCB 6e0 5e2) aNil))) aNil))) aNil))
abbrev lbd (e f1 f2 f3:Addr):PSt->M PF:=(mSeq lb0 (mSeq lb1 (mSeq lb2 (lb3 e f1 f2 f3))))
abbrev lob (e f1 f2 f3:Addr):PSt->M PF:=(mIfS (mNotT (mTru (mFn F_qaw (aCons (mFn (F_qbk e f1 f2 f3) (aCons (mVar 5) aNil)) (aCons (mC (.bl false)) aNil))))) 2e1 mSkip)
abbrev loi:PSt->M 6e2:=(mItems (mVal (mLst (aCons (mC .non) (aCons (mC (.bl true)) (aCons 5e6 (aCons (mC (.str "deal")) (aCons (mTup aNil) (aCons (mVal (mLst aNil)) (aCons mDict0 (aCons 2e9 (aCons (mVal (mList (aCons (mOp 2e7 (mOp 2e7 2e9 1e5) (mOp 2e7 4e9 2e6)) aNil))) aNil))))))))))))
abbrev lw5 (e f1 f2 f3:Addr):PSt->M PF:=(mRet (mFn F_qaw (aCons (mFn (F_qbk e f1 f2 f3) (aCons (mOp 2e7 (mOp 2e7 2e9 1e5) (mOp 2e7 4e9 2e6)) aNil)) (aCons (mC (.bl true)) aNil))))
theorem law_is (e f1 f2 f3:Addr):B_law e f1 f2 f3=mSeq lw0 (mSeq lw1 (mSeq (lw2 (lte e f1 f2 f3)) (mSeq (mFor lrg (hName 3) (lbd e f1 f2 f3)) (mSeq (mFor loi (hName 5) (lob e f1 f2 f3)) (lw5 e f1 f2 f3))))):=rfl
theorem told_eq (a b:Bool)(C:Cs):F_qaw [.v (.bl a),.v (.bl b)] C=some (.v (.bl (a==b)),C):=by
 cases a<;>cases b<;>simp![F_qaw]
section
variable (e f1 f2 f3:Addr)(d1:f2≠f1)(d2:f3≠f1)(d3:f3≠f2)
include d1 d2 d3
theorem lte_eq (TP DD dp:PV)(x:PV)(h1:ixQ TP (.int 1)=some DD)(h2:ixQ DD x=some dp)(hok:okA dp=true)(hb:dealB dp=true)(C:Cs):lte e f1 f2 f3 [#[x],#[TP]] C=some (.v (.bl true),C):=by
 have h3:=ZbF e f1 f2 f3 d1 d2 d3 dp C hok
 rw[hb] at h3
 have h4:=told_eq true true C
 simp[lte,mFn,aCons,aNil,mOp,mVar,mC,bnd,opM,Pu.ret,g2,deref,h1,h2,h3,h4]
theorem lb3_eq (x:PV)(hok:okA x=true)(a0 a1 a2 a3 a4:Option SV)(C:Cs):lb3 e f1 f2 f3 [a0,a1,a2,a3,a4,#[x]] C=some (.nx [a0,a1,a2,a3,a4,#[x]],C):=by
 have h3:=ZbF e f1 f2 f3 d1 d2 d3 x C hok
 have h4:=deal_fits_eq x C hok
 have h5:=told_eq (dealB x) (dealB x) C
 rw[show (dealB x==dealB x)=true by cases dealB x<;>rfl] at h5
 simp[lb3,mIfS,mNotT,mTru,mSkip,mFn,aCons,aNil,mOp,mVar,mC,bnd,opM,Pu.ret,g2,deref,h3,h4,h5,truP,mB,asB]
theorem lob_eq (x:PV)(hok:okA x=true)(hb:dealB x=false)(a0 a1 a2 a3 a4:Option SV)(C:Cs):lob e f1 f2 f3 [a0,a1,a2,a3,a4,#[x]] C=some (.nx [a0,a1,a2,a3,a4,#[x]],C):=by
 have h3:=ZbF e f1 f2 f3 d1 d2 d3 x C hok
 rw[hb] at h3
 have h5:=told_eq false false C
 simp[lob,mIfS,mNotT,mTru,mSkip,mFn,aCons,aNil,mOp,mVar,mC,bnd,opM,Pu.ret,g2,deref,h3,h5,truP,mB,asB]
end
theorem lb2_ok (k:Nat)(x:PV)(n B:Nat)(hx:Ta n B x)(h3:3<=B)(hB:B<=1000)(hn:n < 12)(a0 a1 a2 a3:Option SV)(C:Cs)(g:GS C k):
  ∃y C',lb2 [a0,a1,a2,a3,some (.c k),#[x]] C=some (.nx [a0,a1,a2,a3,some (.c k),#[y]],C')/\okA y=true:=by
 obtain ⟨q,C1,e1,q1,q2,a1'⟩:=Zau k 4 C g 1e3
 by_cases h:q=0
 ·subst h
  obtain ⟨y,C2,e2,t2,_⟩:=spoilt_ta n B 12 x k C1 a1'.gs hx h3 hB hn
  refine ⟨y,C2,?_,t2.a⟩
  simp[lb2,mIfS,mTest,mSet,mSkip,mFn,aCons,aNil,mOp,mVar,mC,bnd,opM,Pu.ret,g2,deref,e1,eqP,scP,mB,asB,e2]
 ·refine ⟨x,C1,?_,hx.a⟩
  simp[lb2,mIfS,mTest,mSet,mSkip,mFn,aCons,aNil,mOp,mVar,mC,bnd,opM,Pu.ret,g2,deref,e1,eqP,scP,mB,asB,h]
theorem lb1_ok (k:Nat)(TP DD:PV)(sn:4e6)(h1:ixQ TP (.int 1)=some DD)(hsn:0 < sn.length)(hs7:sn.length<=7)(hd:∀w∈sn,∃dp,ixQ DD (.str w)=some dp/\Ta 5 12 dp)(a0 a3 a5:Option SV)(C:Cs)(g:GS C k):
  ∃y C',lb1 [a0,#[TP],#[.lst (sn.map .str)],a3,some (.c k),a5] C=some (.nx [a0,#[TP],#[.lst (sn.map .str)],a3,some (.c k),#[y]],C')/\Ta 6 13 y/\GS C' k:=by
 obtain ⟨q,C1,e1,q1,q2,a1'⟩:=Zau k (sn.length:Int) C g 1e3
 obtain ⟨w,hw,ew⟩:=ix_strs sn q q1 q2
 obtain ⟨dp,ed,td⟩:=hd w hw
 obtain ⟨y,C2,e2,t2,a2'⟩:=spoilt_ta 5 12 12 dp k C1 a1'.gs td 1e3 1e3 1e3
 refine ⟨y,C2,?_,t2,a2'.gs⟩
 have hl:lenH [.lst (sn.map PV.str)]=some (.int (sn.length:Int)):=by simp[lenH]
 generalize sn.map PV.str=SN at *
 simp[lb1,mSet,mFn,mCB,g1,derefs,hl,aCons,aNil,mOp,mVar,mC,bnd,opM,Pu.ret,g2,deref,e1,ew,h1,ed,e2]
theorem lb0_ok (ns:List Int)(i:Int)(hi:0<=i/\i<=100)(a1 a2 a4 a5:Option SV)(C:Cs):∃C',lb0 [1e8,a1,a2,#[.int i],a4,a5] C=some (.nx [1e8,a1,a2,#[.int i],some (.c C.length),a5],C')/\GS C' C.length:=by
 obtain ⟨x,y,el,hy⟩:=left_eq ns (17 + i) C 1e3 1e3
 refine ⟨C++[.lst [.int x,.int y]],?_,gs_new C x y hy⟩
 simp[lb0,mNew,mFnF,aCons,aNil,mVar,mC,mOp,bnd,opM,Pu.ret,g2,deref,addP,el]
section
variable (e f1 f2 f3:Addr)(d1:f2≠f1)(d2:f3≠f1)(d3:f3≠f2)
include d1 d2 d3
theorem law_pure0 (ns:List Int)(hn:ns.length<=63):F_law e f1 f2 f3 [.v (.lst (ns.map .int))] []=some (.v (.bl true),[]):=by
 obtain ⟨sp,nms,ds,et,t⟩:=town_eq ns []
 have et':F_qay [.v (.lst (ns.map .int))] []=some (.v (townP sp nms ds),[]):=et
 obtain ⟨tl1,tl7⟩:=t.l1
 obtain ⟨sn,esn,hsn,hsm,_⟩:=sort_strs nms tl7 t.le [] (ds.map Dl.P)
 have t1:=town_1 sp nms ds
 have hd:∀w∈sn,∃dp,ixQ (.dct (nms.map .str) (ds.map Dl.P)) (.str w)=some dp/\Ta 5 12 dp/\dealB dp=true:=fun w hw=>by
  obtain ⟨d,hdm,ed⟩:=town_deal t w (hsm w hw)
  exact ⟨d.P,ed,ta_dl (t.ok d hdm),Dl.good (t.ok d hdm)⟩
 have okT:okA (townP sp nms ds)=true:=by
  unfold townP okA
  exact Zcx.mpr fun p hp=>by
   rcases Yn.mp hp with rfl | hp
   ·rfl
   ·rw[YD.mp hp];rfl
 have dbT:dealB (townP sp nms ds)=false:=rfl
 generalize townP sp nms ds=TP at *
 generalize PV.dct (nms.map .str) (ds.map Dl.P)=DD at *
 have hsl:sn.length<=7:=by lia
 have hs0:0 < sn.length:=by lia
 obtain ⟨w0,hw0,ew0⟩:=ix_strs sn 0 1e3 1e3
 obtain ⟨dp,edp,tdp,bdp⟩:=hd w0 hw0
 have s0:lw0 [1e8,none,none,none,none,none] []=some (.nx [1e8,#[TP],none,none,none,none],[]):=by
  simp[lw0,mSet,mFn,aCons,aNil,mVar,bnd,Pu.ret,et']
 have s1:lw1 [1e8,#[TP],none,none,none,none] []=some (.nx [1e8,#[TP],#[.lst (sn.map .str)],none,none,none],[]):=by
  generalize sn.map PV.str=SN at *
  simp[lw1,mSet,mVal,mSorted3,aCons,aNil,mOp,mVar,mC,bnd,opM,Pu.ret,g2,deref,t1,esn]
 have hc:=ZaV (te:=lte e f1 f2 f3) (f:=fun _=>.bl true) (sn.map .str) [none,#[TP]] [] [] (fun x hx=>by
  obtain ⟨w,hw,rfl⟩:=YM.mp hx
  obtain ⟨dp,a,b,c⟩:=hd w hw
  exact lte_eq e f1 f2 f3 d1 d2 d3 TP DD dp (.str w) t1 a b.a c [])
 rw[Xa] at hc
 have ha:=all_bl (fun _=>true) (sn.map PV.str)
 have hat:(sn.map PV.str).all (fun _=>true)=true:=Yt.mpr fun _ _=>rfl
 rw[hat] at ha
 have hcl:(sn.map PV.str).length<=100000:=by rw[Yr];lia
 have s2:lw2 (lte e f1 f2 f3) [1e8,#[TP],#[.lst (sn.map .str)],none,none,none] []=some (.nx [1e8,#[TP],#[.lst (sn.map .str)],none,none,none],[]):=by
  generalize (sn.map PV.str).map (fun _=>PV.bl true)=BS at hc ha
  generalize sn.map PV.str=SN at *
  generalize lte e f1 f2 f3=te at *
  simp[lw2,mIfS,mNotT,mTru,mSkip,mCB,g1,derefs,mVal,mComp,mItems,itemsP,stIn',hcl,hc,ha,aCons,aNil,mVar,bnd,opM,Pu.ret,deref,truP,mB,asB]
 obtain ⟨N,hN,hN0,hN40⟩:∃N:Int,(∀C,lrg [#[.lst (ns.map .int)],#[TP],#[.lst (sn.map .str)],none,none,none] C=some ((Yg N.toNat).map fun (q:Nat)=>PV.int (0 + q),C))/\0<=N/\N<=40:=by
  have hl:lenH [.lst (ns.map PV.int)]=some (.int (ns.length:Int)):=by simp[lenH]
  obtain ⟨m,hm,hm2⟩:∃m:Int,minH [.int 40,.int (ns.length:Int)]=some (.int m)/\m<=40:=⟨_,rfl,by split<;>lia⟩
  obtain ⟨N,hx,h1,h2⟩:∃N:Int,maxH [.int 12,.int m]=some (.int N)/\0<=N/\N<=40:=⟨_,rfl,by split<;>lia,by split<;>lia⟩
  refine ⟨N,fun C=>?_,h1,h2⟩
  have hr:rng1P [.v (.int N)]=some ((Yg N.toNat).map fun (q:Nat)=>PV.int (0 + q)):=by
   unfold rng1P;dsimp only;rw[if_pos 1e3]
  generalize ((Yg N.toNat).map fun (q:Nat)=>PV.int (0 + q))=rs at *
  generalize ns.map PV.int=NS at *
  simp[lrg,mRange1,mCB,g1,derefs,aCons,aNil,mVar,mC,bnd,opM,Pu.ret,deref,hl,hm,hx,hr]
 obtain ⟨ρ3,D,e3,y3,y4,y5,rfl⟩:=loop_inv (g:=hName 3) (f:=lbd e f1 f2 f3) (fun ρ _=>∃y3 y4 y5:Option SV,ρ=[1e8,#[TP],#[.lst (sn.map .str)],y3,y4,y5]) ((Yg N.toNat).map fun (q:Nat)=>PV.int (0 + q)) (fun x hx ρ C h=>by
   obtain ⟨y3,y4,y5,rfl⟩:=h
   obtain ⟨q,hq,rfl⟩:=YM.mp hx
   have hq:=Y0.mp hq
   obtain ⟨C1,b0,g1⟩:=lb0_ok ns 6e1 1e3 #[TP] #[.lst (sn.map .str)] y4 y5 C
   obtain ⟨y,C2,b1,ty,g2⟩:=lb1_ok C.length TP DD sn t1 hs0 hsl (fun w hw=>by obtain ⟨dp,a,b,_⟩:=hd w hw;exact ⟨dp,a,b⟩) #[.lst (ns.map .int)] #[(.int 6e1)] y5 C1 g1
   obtain ⟨z,C3,b2,oz⟩:=lb2_ok C.length y 6 13 ty 1e3 1e3 1e3 #[.lst (ns.map .int)] #[TP] #[.lst (sn.map .str)] #[(.int 6e1)] C2 g2
   have b3:=lb3_eq e f1 f2 f3 d1 d2 d3 z oz #[.lst (ns.map .int)] #[TP] #[.lst (sn.map .str)] #[(.int 6e1)] (some (.c C.length)) C3
   refine ⟨_,_,C3,rfl,?_,#[(.int 6e1)],some (.c C.length),#[z],rfl⟩
   rw[show lbd e f1 f2 f3=mSeq lb0 (mSeq lb1 (mSeq lb2 (lb3 e f1 f2 f3))) from rfl]
   refine (ZaF b0).trans ?_
   rw[ZaF b1,ZaF b2]
   exact b3) [#[.lst (ns.map .int)],#[TP],#[.lst (sn.map .str)],none,none,none] [] ⟨_,_,_,rfl⟩
 have s3:mFor lrg (hName 3) (lbd e f1 f2 f3) [1e8,#[TP],#[.lst (sn.map .str)],none,none,none] []=some (.nx [1e8,#[TP],#[.lst (sn.map .str)],y3,y4,y5],D):=by
  unfold mFor bnd;rw[hN []];exact e3
 obtain ⟨xs,rfl⟩:∃xs,dp=.tup xs:=by
  cases dp with
  | tup xs=>exact ⟨xs,rfl⟩
  | _=>cases bdp
 have hxl:xs.length<=100000:=by have:=tdp.len;lia
 have s4i:loi [1e8,#[TP],#[.lst (sn.map .str)],y3,y4,y5] D=some ([.non,.bl true,.int 4,.str "deal",.tup [],.lst [],.dct [] [],TP,.lst xs],D):=by
  generalize sn.map PV.str=SN at *
  simp[loi,mItems,mVal,mLst,mTup,mList,listH,mDict0,aCons,aNil,mOp,mVar,mC,bnd,opM,Pu.ret,g2,deref,t1,ew0,edp,Pu.plain,itemsP,hxl]
 obtain ⟨ρ4,D4,e4,y43,y44,y45,rfl⟩:=loop_inv (g:=hName 5) (f:=lob e f1 f2 f3) (fun ρ _=>∃y3 y4 y5:Option SV,ρ=[1e8,#[TP],#[.lst (sn.map .str)],y3,y4,y5]) [.non,.bl true,.int 4,.str "deal",.tup [],.lst [],.dct [] [],TP,.lst xs] (fun x hx ρ C h=>by
   obtain ⟨y3,y4,y5,rfl⟩:=h
   have hox:okA x=true/\dealB x=false:=by
    simp only[Yn,Y3,or_false] at hx
    rcases hx with rfl | rfl | rfl | rfl | rfl | rfl | rfl | rfl | rfl
    ·exact ⟨rfl,rfl⟩
    ·exact ⟨rfl,rfl⟩
    ·exact ⟨rfl,rfl⟩
    ·exact ⟨rfl,rfl⟩
    ·exact ⟨rfl,rfl⟩
    ·exact ⟨rfl,rfl⟩
    ·exact ⟨rfl,rfl⟩
    ·exact ⟨okT,dbT⟩
    ·exact ⟨(tdp.lst 5 12).a,rfl⟩
   exact ⟨_,_,C,rfl,lob_eq e f1 f2 f3 d1 d2 d3 x hox.1 hox.2 _ _ _ _ _ C,_,_,_,rfl⟩) [#[.lst (ns.map .int)],#[TP],#[.lst (sn.map .str)],y3,y4,y5] D ⟨_,_,_,rfl⟩
 have s4:mFor loi (hName 5) (lob e f1 f2 f3) [1e8,#[TP],#[.lst (sn.map .str)],y3,y4,y5] D=some (.nx [1e8,#[TP],#[.lst (sn.map .str)],y43,y44,y45],D4):=by
  unfold mFor bnd;rw[s4i];exact e4
 have s5:lw5 e f1 f2 f3 [1e8,#[TP],#[.lst (sn.map .str)],y43,y44,y45] D4=some (.rt (.v (.bl true)),D4):=by
  have h3:=ZbF e f1 f2 f3 d1 d2 d3 _ D4 tdp.a
  rw[bdp] at h3
  have h4:=told_eq true true D4
  generalize sn.map PV.str=SN at *
  simp[lw5,mRet,mFn,aCons,aNil,mOp,mVar,mC,bnd,opM,Pu.ret,g2,deref,t1,ew0,edp,h3,h4]
 unfold F_law
 rw[law_is]
 show (match mSeq _ _ [some (.v (.lst (ns.map .int))),none,none,none,none,none] [] with
  | some (.rt r,C')=>fin ([]:Cs).length C' r
  | some (.nx _,C')=>some (.v .non,C'.take ([]:Cs).length)
  | some (.rf ps,C')=>some (.v 6e6,C'.take ([]:Cs).length)
  | some (.rq qs,C')=>(finQ ([]:Cs).length C' qs).map fun ps=>(.v 5e9,C'.take ([]:Cs).length)
  | _=>none)=_
 rw[ZaF s0,ZaF s1,ZaF s2,ZaF s3,ZaF s4,s5]
 rfl
end
theorem law_pure {e f1 f2 f3:Addr}(d:f2≠f1/\f3≠f1/\f3≠f2)(ns:List Int)(hn:ns.length<=63):F_law e f1 f2 f3 [.v (.lst (ns.map .int))] []=some (.v (.bl true),[]):=law_pure0 e f1 f2 f3 d.1 d.2.1 d.2.2 ns hn
noncomputable def qv:Program:=W.view PySem.Challenge.pw_holdword_k02_deals_or_none [1,2,3,4,5,6,7,8,9,10,11,12,13,14,15,16,17,19,20,21,22,23,25,26,27,28,29,30,31,32,33,34,35,36,37,38,39,40,41]
noncomputable def fnames:List Str:=List.map Vn ["is_number","is_number_below","is_row_of","is_word","are_words","events_of","is_joined","is_said","is_did","is_event","is_leave","is_clause","has_good_events","is_deal","_law_cell_at","_law_left","_law_pick","_law_words","_law_event","_law_clauses","_law_town","_law_whole","_law_below","_law_word","_law_some_words","_law_event_fits","_law_clause_fits","_law_deal_fits","_law_spoilt","_law_told","law"]
def sts:List (Str×Stmt):=fnames.zip (List.map top [9,10,11,12,13,14,15,16,17,19,20,21,22,23,25,26,27,28,29,30,31,32,33,34,35,36,37,38,39,40,41])
theorem sts_ok:(recsOf qv).map Hd.four=sts.map Hd.fourS:=by kernel_rfl
noncomputable def tnames:List Str:=["EVENTS","is_joined","is_said","is_did"]
noncomputable def tvals:List (Option (Option Value)):=[some (some (.ref 74)),some (some (.ref 59)),some (some (.ref 66)),some (some (.ref 73))]
def es_EVENTS (P:Params):List DictEntry:=[⟨PyData.keyHash P "joined",.str "joined" 281,.ref 59⟩,⟨PyData.keyHash P "said",.str "said" 282,.ref 66⟩,⟨PyData.keyHash P "did",.str "did" 283,.ref 73⟩]
def tobjs (P:Params):List Obj:=[⟨.type "dict",none,.dict (es_EVENTS P).toArray 3,(List.toArray [])⟩]
def hk:W.Hook:=Hd.tabHook tnames tvals [74] tobjs
theorem td_EVENTS {w:World}{h:Heap}{mg:2e2}{as:3e1}(G:h.Ns Xk mg)(Y:hk.says w h)(m:74∈as){f_qbn:Addr}{f_qbs:Addr}{f_qbl:Addr}(e0:mg "is_joined"=some (.ref f_qbn))(e1:mg "is_said"=some (.ref f_qbs))(e2:mg "is_did"=some (.ref f_qbl)):mg "EVENTS"=some (.ref 74)/\TopD (Hd.kf h as) w 74 (Zbb f_qbn f_qbs f_qbl):=by
 refine ⟨Hd.tab_mg G Y.1 0 rfl rfl,⟨(es_EVENTS w.params).toArray,3,Hd.kf_at (Hd.tab_at Y.2 0 rfl rfl) m,?_,?_⟩,by decide⟩
 ·repeat (first | exact WF | refine And.intro ⟨_,_,rfl,rfl⟩ ?_)
 ·have q0:=(Hd.tab_mg G Y.1 1 rfl rfl).symm.trans e0
  cases q0
  have q1:=(Hd.tab_mg G Y.1 2 rfl rfl).symm.trans e1
  cases q1
  have q2:=(Hd.tab_mg G Y.1 3 rfl rfl).symm.trans e2
  cases q2
  repeat (first | exact Paired.nil | refine Paired.cons ⟨rfl,rfl⟩ ?_)
theorem hl:W.LeftO PySem.Challenge.pw_holdword_k02_deals_or_none qv ["EVENTS"] (fun s=>W.xlAt qv [] s&&W.recOk [] s) hk.obs hk.val 2312:=
 W.LeftO.of_split "special-get-raises" (fun w=>by kernel_rfl)
theorem ln0 {P:List Value->Prop}(h:P []):∀us:List Value,us.length=0->P us:=by
 intro us hl
 cases us with
 | nil=>exact h
 | cons a r=>simp at hl
theorem ln1 {P:List Value->Prop}(h:∀a,P [a]):∀us:List Value,us.length=1->P us:=by
 intro us hl
 cases us with
 | nil=>simp at hl
 | cons a r=>exact ln0 (P:=fun r=>P (a::r)) (h a) r (by simpa using hl)
theorem ln2 {P:List Value->Prop}(h:∀a b,P [a,b]):∀us:List Value,us.length=2->P us:=by
 intro us hl
 cases us with
 | nil=>simp at hl
 | cons a r=>exact ln1 (P:=fun r=>P (a::r)) (h a) r (by simpa using hl)
theorem ln3 {P:List Value->Prop}(h:∀a b c,P [a,b,c]):∀us:List Value,us.length=3->P us:=by
 intro us hl
 cases us with
 | nil=>simp at hl
 | cons a r=>exact ln2 (P:=fun r=>P (a::r)) (h a) r (by simpa using hl)
theorem ln4 {P:List Value->Prop}(h:∀a b c d,P [a,b,c,d]):∀us:List Value,us.length=4->P us:=by
 intro us hl
 cases us with
 | nil=>simp at hl
 | cons a r=>exact ln3 (P:=fun r=>P (a::r)) (h a) r (by simpa using hl)
theorem ln5 {P:List Value->Prop}(h:∀a b c d e,P [a,b,c,d,e]):∀us:List Value,us.length=5->P us:=by
 intro us hl
 cases us with
 | nil=>simp at hl
 | cons a r=>exact ln4 (P:=fun r=>P (a::r)) (h a) r (by simpa using hl)
theorem all_mk {P:Yq}{w:World}{K:W.Frag}{mg:2e2}{fa:Addr}(hfa:mg "law"=some (.ref fa))(T:Txt mg)
  (e_is_number:Hd.FnAt K mg "is_number" s_qbp)
  (e_is_number_below:Hd.FnAt K mg "is_number_below" s_qbq)
  (e_is_row_of:Hd.FnAt K mg "is_row_of" s_qbr)
  (e_is_word:Hd.FnAt K mg "is_word" s_qbt)
  (e_are_words:Hd.FnAt K mg "are_words" s_qbg)
  (e_events_of:Hd.FnAt K mg "events_of" s_qbh)
  (e_is_joined:Hd.FnAt K mg "is_joined" s_qbn)
  (e_is_said:Hd.FnAt K mg "is_said" s_qbs)
  (e_is_did:Hd.FnAt K mg "is_did" s_qbl)
  (e_is_event:Hd.FnAt K mg "is_event" s_qbm)
  (e_is_leave:Hd.FnAt K mg "is_leave" s_qbo)
  (e_is_clause:Hd.FnAt K mg "is_clause" s_qbj)
  (e_has_good_events:Hd.FnAt K mg "has_good_events" s_qbi)
  (e_is_deal:Hd.FnAt K mg "is_deal" s_qbk)
  (e__law_cell_at:Hd.FnAt K mg "_law_cell_at" s_qac)
  (e__law_left:Hd.FnAt K mg "_law_left" s_qao)
  (e__law_pick:Hd.FnAt K mg "_law_pick" s_qaq)
  (e__law_words:Hd.FnAt K mg "_law_words" s_qbe)
  (e__law_event:Hd.FnAt K mg "_law_event" s_qak)
  (e__law_clauses:Hd.FnAt K mg "_law_clauses" s_qag)
  (e__law_town:Hd.FnAt K mg "_law_town" s_qay)
  (e__law_whole:Hd.FnAt K mg "_law_whole" s_qba)
  (e__law_below:Hd.FnAt K mg "_law_below" s_qaa)
  (e__law_word:Hd.FnAt K mg "_law_word" s_qbc)
  (e__law_some_words:Hd.FnAt K mg "_law_some_words" s_qas)
  (e__law_event_fits:Hd.FnAt K mg "_law_event_fits" s_qam)
  (e__law_clause_fits:Hd.FnAt K mg "_law_clause_fits" s_qae)
  (e__law_deal_fits:Hd.FnAt K mg "_law_deal_fits" s_qai)
  (e__law_spoilt:Hd.FnAt K mg "_law_spoilt" s_qau)
  (e__law_told:Hd.FnAt K mg "_law_told" s_qaw)
  (e_law:Hd.FnAt K mg "law" s_law)
  {d_EVENTS:Addr} (tb_EVENTS:∀{f_qbn f_qbs f_qbl:Addr},mg "is_joined"=some (.ref f_qbn)->mg "is_said"=some (.ref f_qbs)->mg "is_did"=some (.ref f_qbl)->mg "EVENTS"=some (.ref d_EVENTS)/\TopD K w d_EVENTS (Zbb f_qbn f_qbs f_qbl))
  :∃fd:Yw,(∀(s:Shared) (v:Value),BindsTo s fd ⟨[v],[]⟩ [("_law_script",v)])/\∀base:Heap,FnOk P w K mg base CX0 15 fa fd ["_law_script"] (Hd.spLaw K):=by
 obtain ⟨f_qbp,fd_qbp,m_qbp,N_qbp⟩:=e_is_number
 have bd_qbp:=N_qbp.binds (ps:=["thing","least"]) fun _ _ _ _ _ _=>ln2 fun _ _=>rfl
 obtain ⟨f_qbq,fd_qbq,m_qbq,N_qbq⟩:=e_is_number_below
 have bd_qbq:=N_qbq.binds (ps:=["thing","bound"]) fun _ _ _ _ _ _=>ln2 fun _ _=>rfl
 obtain ⟨f_qbr,fd_qbr,m_qbr,N_qbr⟩:=e_is_row_of
 have bd_qbr:=N_qbr.binds (ps:=["thing","least","most"]) fun _ _ _ _ _ _=>ln3 fun _ _ _=>rfl
 obtain ⟨f_qbt,fd_qbt,m_qbt,N_qbt⟩:=e_is_word
 have bd_qbt:=N_qbt.binds (ps:=["thing"]) fun _ _ _ _ _ _=>ln1 fun _=>rfl
 obtain ⟨f_qbg,fd_qbg,m_qbg,N_qbg⟩:=e_are_words
 have bd_qbg:=N_qbg.binds (ps:=["thing","least","most"]) fun _ _ _ _ _ _=>ln3 fun _ _ _=>rfl
 obtain ⟨f_qbh,fd_qbh,m_qbh,N_qbh⟩:=e_events_of
 have bd_qbh:=N_qbh.binds (ps:=["clause"]) fun _ _ _ _ _ _=>ln1 fun _=>rfl
 obtain ⟨f_qbn,fd_qbn,m_qbn,N_qbn⟩:=e_is_joined
 have bd_qbn:=N_qbn.binds (ps:=["event","own","deal"]) fun _ _ _ _ _ _=>ln3 fun _ _ _=>rfl
 obtain ⟨f_qbs,fd_qbs,m_qbs,N_qbs⟩:=e_is_said
 have bd_qbs:=N_qbs.binds (ps:=["event","own","deal"]) fun _ _ _ _ _ _=>ln3 fun _ _ _=>rfl
 obtain ⟨f_qbl,fd_qbl,m_qbl,N_qbl⟩:=e_is_did
 have bd_qbl:=N_qbl.binds (ps:=["event","own","deal"]) fun _ _ _ _ _ _=>ln3 fun _ _ _=>rfl
 obtain ⟨f_qbm,fd_qbm,m_qbm,N_qbm⟩:=e_is_event
 have bd_qbm:=N_qbm.binds (ps:=["thing","own","deal"]) fun _ _ _ _ _ _=>ln3 fun _ _ _=>rfl
 obtain ⟨f_qbo,fd_qbo,m_qbo,N_qbo⟩:=e_is_leave
 have bd_qbo:=N_qbo.binds (ps:=["thing"]) fun _ _ _ _ _ _=>ln1 fun _=>rfl
 obtain ⟨f_qbj,fd_qbj,m_qbj,N_qbj⟩:=e_is_clause
 have bd_qbj:=N_qbj.binds (ps:=["thing","houses"]) fun _ _ _ _ _ _=>ln2 fun _ _=>rfl
 obtain ⟨f_qbi,fd_qbi,m_qbi,N_qbi⟩:=e_has_good_events
 have bd_qbi:=N_qbi.binds (ps:=["own","deal"]) fun _ _ _ _ _ _=>ln2 fun _ _=>rfl
 obtain ⟨f_qbk,fd_qbk,m_qbk,N_qbk⟩:=e_is_deal
 have bd_qbk:=N_qbk.binds (ps:=["thing"]) fun _ _ _ _ _ _=>ln1 fun _=>rfl
 obtain ⟨f_qac,fd_qac,m_qac,N_qac⟩:=e__law_cell_at
 have bd_qac:=N_qac.binds (ps:=["_law_script","_law_k"]) fun _ _ _ _ _ _=>ln2 fun _ _=>rfl
 obtain ⟨f_qao,fd_qao,m_qao,N_qao⟩:=e__law_left
 have bd_qao:=N_qao.binds (ps:=["_law_script","_law_k"]) fun _ _ _ _ _ _=>ln2 fun _ _=>rfl
 obtain ⟨f_qaq,fd_qaq,m_qaq,N_qaq⟩:=e__law_pick
 have bd_qaq:=N_qaq.binds (ps:=4e4) fun _ _ _ _ _ _=>ln2 fun _ _=>rfl
 obtain ⟨f_qbe,fd_qbe,m_qbe,N_qbe⟩:=e__law_words
 have bd_qbe:=N_qbe.binds (ps:=4e4) fun _ _ _ _ _ _=>ln2 fun _ _=>rfl
 obtain ⟨f_qak,fd_qak,m_qak,N_qak⟩:=e__law_event
 have bd_qak:=N_qak.binds (ps:=["_law_left_here","_law_deal","_law_named","_law_own"]) fun _ _ _ _ _ _=>ln4 fun _ _ _ _=>rfl
 obtain ⟨f_qag,fd_qag,m_qag,N_qag⟩:=e__law_clauses
 have bd_qag:=N_qag.binds (ps:=["_law_left_here","_law_houses","_law_sizes","_law_others","_law_named"]) fun _ _ _ _ _ _=>ln5 fun _ _ _ _ _=>rfl
 obtain ⟨f_qay,fd_qay,m_qay,N_qay⟩:=e__law_town
 have bd_qay:=N_qay.binds (ps:=["_law_script"]) fun _ _ _ _ _ _=>ln1 fun _=>rfl
 obtain ⟨f_qba,fd_qba,m_qba,N_qba⟩:=e__law_whole
 have bd_qba:=N_qba.binds (ps:=["_law_thing"]) fun _ _ _ _ _ _=>ln1 fun _=>rfl
 obtain ⟨f_qaa,fd_qaa,m_qaa,N_qaa⟩:=e__law_below
 have bd_qaa:=N_qaa.binds (ps:=["_law_thing","_law_many"]) fun _ _ _ _ _ _=>ln2 fun _ _=>rfl
 obtain ⟨f_qbc,fd_qbc,m_qbc,N_qbc⟩:=e__law_word
 have bd_qbc:=N_qbc.binds (ps:=["_law_thing"]) fun _ _ _ _ _ _=>ln1 fun _=>rfl
 obtain ⟨f_qas,fd_qas,m_qas,N_qas⟩:=e__law_some_words
 have bd_qas:=N_qas.binds (ps:=["_law_thing","_law_least","_law_most"]) fun _ _ _ _ _ _=>ln3 fun _ _ _=>rfl
 obtain ⟨f_qam,fd_qam,m_qam,N_qam⟩:=e__law_event_fits
 have bd_qam:=N_qam.binds (ps:=["_law_event_here","_law_own","_law_shape"]) fun _ _ _ _ _ _=>ln3 fun _ _ _=>rfl
 obtain ⟨f_qae,fd_qae,m_qae,N_qae⟩:=e__law_clause_fits
 have bd_qae:=N_qae.binds (ps:=["_law_clause","_law_houses"]) fun _ _ _ _ _ _=>ln2 fun _ _=>rfl
 obtain ⟨f_qai,fd_qai,m_qai,N_qai⟩:=e__law_deal_fits
 have bd_qai:=N_qai.binds (ps:=["_law_thing"]) fun _ _ _ _ _ _=>ln1 fun _=>rfl
 obtain ⟨f_qau,fd_qau,m_qau,N_qau⟩:=e__law_spoilt
 have bd_qau:=N_qau.binds (ps:=["_law_left_here","_law_thing"]) fun _ _ _ _ _ _=>ln2 fun _ _=>rfl
 obtain ⟨f_qaw,fd_qaw,m_qaw,N_qaw⟩:=e__law_told
 have bd_qaw:=N_qaw.binds (ps:=["_law_found","_law_due"]) fun _ _ _ _ _ _=>ln2 fun _ _=>rfl
 obtain ⟨f_law,fd_law,m_law,N_law⟩:=e_law
 obtain ⟨m_EVENTS,TD_EVENTS⟩:=tb_EVENTS m_qbn m_qbs m_qbl
 have e:=hfa.symm.trans m_law;cases e
 have hb:∀(s:Shared) (v:Value),BindsTo s fd_law ⟨[v],[]⟩ [("_law_script",v)]:=by
  obtain ⟨oc,od,kV,doc,pm,an,cdv,ct,osl,rfl,lk,hcd⟩:=N_law.ex
  exact fun s v=>.of_eq rfl
 refine ⟨fd_law,hb,fun base=>?_⟩
 have E_qbp:=ok_qbp (P:=P) (w:=w) (base:=base) N_qbp T
 have E_qbq:=ok_qbq (P:=P) (w:=w) (base:=base) N_qbq T E_qbp m_qbp N_qbp.kp bd_qbp
 have E_qbr:=ok_qbr (P:=P) (w:=w) (base:=base) N_qbr T
 have E_qbt:=ok_qbt (P:=P) (w:=w) (base:=base) N_qbt T
 have E_qbg:=ok_qbg (P:=P) (w:=w) (base:=base) N_qbg T E_qbr m_qbr N_qbr.kp bd_qbr E_qbt m_qbt N_qbt.kp bd_qbt
 have E_qbh:=ok_qbh (P:=P) (w:=w) (base:=base) N_qbh T
 have E_qbn:=ok_qbn (P:=P) (w:=w) (base:=base) N_qbn T E_qbq m_qbq N_qbq.kp bd_qbq
 have E_qbs:=ok_qbs (P:=P) (w:=w) (base:=base) N_qbs T E_qbq m_qbq N_qbq.kp bd_qbq E_qbt m_qbt N_qbt.kp bd_qbt
 have E_qbl:=ok_qbl (P:=P) (w:=w) (base:=base) N_qbl T E_qbq m_qbq N_qbq.kp bd_qbq
 have E_qbm:=ok_qbm (P:=P) (w:=w) (base:=base) N_qbm T m_EVENTS TD_EVENTS E_qbn m_qbn N_qbn.kp bd_qbn E_qbs m_qbs N_qbs.kp bd_qbs E_qbl m_qbl N_qbl.kp bd_qbl
 have E_qbo:=ok_qbo (P:=P) (w:=w) (base:=base) N_qbo T E_qbr m_qbr N_qbr.kp bd_qbr E_qbp m_qbp N_qbp.kp bd_qbp
 have E_qbj:=ok_qbj (P:=P) (w:=w) (base:=base) N_qbj T E_qbr m_qbr N_qbr.kp bd_qbr E_qbq m_qbq N_qbq.kp bd_qbq E_qbp m_qbp N_qbp.kp bd_qbp E_qbo m_qbo N_qbo.kp bd_qbo
 have E_qbi:=ok_qbi (P:=P) (w:=w) (base:=base) N_qbi T E_qbh m_qbh N_qbh.kp bd_qbh E_qbm m_qbm N_qbm.kp bd_qbm
 have E_qbk:=ok_qbk (P:=P) (w:=w) (base:=base) N_qbk T E_qbr m_qbr N_qbr.kp bd_qbr E_qbg m_qbg N_qbg.kp bd_qbg E_qbp m_qbp N_qbp.kp bd_qbp E_qbj m_qbj N_qbj.kp bd_qbj E_qbi m_qbi N_qbi.kp bd_qbi
 have E_qac:=ok_qac (P:=P) (w:=w) (base:=base) N_qac T
 have E_qao:=ok_qao (P:=P) (w:=w) (base:=base) N_qao T E_qac m_qac N_qac.kp bd_qac
 have EF_qao:=okF_qao (P:=P) (w:=w) (base:=base) N_qao T E_qac m_qac N_qac.kp bd_qac
 have E_qaq:=ok_qaq (P:=P) (w:=w) (base:=base) N_qaq T
 have E_qbe:=ok_qbe (P:=P) (w:=w) (base:=base) N_qbe T E_qaq m_qaq N_qaq.kp bd_qaq
 have E_qak:=ok_qak (P:=P) (w:=w) (base:=base) N_qak T E_qaq m_qaq N_qaq.kp bd_qaq
 have E_qag:=ok_qag (P:=P) (w:=w) (base:=base) N_qag T E_qaq m_qaq N_qaq.kp bd_qaq E_qak m_qak N_qak.kp bd_qak
 have E_qay:=ok_qay (P:=P) (w:=w) (base:=base) N_qay T EF_qao m_qao N_qao.kp bd_qao E_qbe m_qbe N_qbe.kp bd_qbe E_qaq m_qaq N_qaq.kp bd_qaq E_qag m_qag N_qag.kp bd_qag
 have E_qba:=ok_qba (P:=P) (w:=w) (base:=base) N_qba T
 have E_qaa:=ok_qaa (P:=P) (w:=w) (base:=base) N_qaa T E_qba m_qba N_qba.kp bd_qba
 have E_qbc:=ok_qbc (P:=P) (w:=w) (base:=base) N_qbc T
 have E_qas:=ok_qas (P:=P) (w:=w) (base:=base) N_qas T E_qbc m_qbc N_qbc.kp bd_qbc
 have E_qam:=ok_qam (P:=P) (w:=w) (base:=base) N_qam T E_qaa m_qaa N_qaa.kp bd_qaa E_qbc m_qbc N_qbc.kp bd_qbc
 have E_qae:=ok_qae (P:=P) (w:=w) (base:=base) N_qae T E_qaa m_qaa N_qaa.kp bd_qaa E_qba m_qba N_qba.kp bd_qba
 have E_qai:=ok_qai (P:=P) (w:=w) (base:=base) N_qai T E_qas m_qas N_qas.kp bd_qas E_qba m_qba N_qba.kp bd_qba E_qae m_qae N_qae.kp bd_qae E_qam m_qam N_qam.kp bd_qam
 have E_qau:=ok_qau (P:=P) (w:=w) (base:=base) N_qau T E_qaq m_qaq N_qaq.kp bd_qaq m_qau N_qau.kp bd_qau
 have E_qaw:=ok_qaw (P:=P) (w:=w) (base:=base) N_qaw T
 have E_law:=ok_law (P:=P) (w:=w) (base:=base) N_law T E_qay m_qay N_qay.kp bd_qay E_qbk m_qbk N_qbk.kp bd_qbk E_qaw m_qaw N_qaw.kp bd_qaw EF_qao m_qao N_qao.kp bd_qao E_qaq m_qaq N_qaq.kp bd_qaq E_qau m_qau N_qau.kp bd_qau E_qai m_qai N_qai.kp bd_qai
 exact E_law.imp (Hd.spLaw_lift fun ns hl=>law_pure ⟨fun_ne N_qbs N_qbn 2e4,fun_ne N_qbl N_qbn 2e4,fun_ne N_qbl N_qbs 2e4⟩ ns hl)
noncomputable def bl:List Str:=["all","bool","enumerate","int","isinstance","len","list","max","min","range","set","sorted","str","tuple"]
theorem hbl:bl.all (fun x=>!Hd.isHere qv (W.looseW qv ["EVENTS"]) x)=true:=by kernel_rfl
theorem said:PySem.Challenge.rw_holdword_k02_deals_or_none.wellSaid=true:=by kernel_rfl
end K02
open PySem PySem.W PyProof.Rows
set_option maxRecDepth 100000 in
set_option maxHeartbeats 0 in
theorem PySem.Challenge.cw_holdword_k02_deals_or_none_holds : PySem.Challenge.rw_holdword_k02_deals_or_none.Holds := by
 refine holds_law K02.said fun said=>?_
 refine holds_open (q:=K02.qv) (loose:=["EVENTS"]) (Xt:=fun s=>xlAt K02.qv [] s&&recOk [] s) (XP:=XL K02.qv []) (YP:=K02.hk.says) K02.hl (Hook.of K02.hk) (Hook.keeps K02.hk) (fun s e=>xl_of s (Bool.and_eq_true_iff.mp e).1) XL.keeps (d:=⟨"law",L2.defArgs K02.s_law,L2.defBody K02.s_law,L2.defScope K02.s_law,Hd.defPos K02.s_law⟩) (kwd:=[]) (by kernel_rfl) (by kernel_rfl) (by kernel_rfl) (fun s e=>recFacts_of (Bool.and_eq_true_iff.mp e).2) 1e0 said (by kernel_rfl) ⟨rfl,rfl,rfl,rfl,rfl,by decide +kernel⟩ ⟨[.list []],by decide +kernel,by decide +kernel⟩ ?_
 refine Hd.walk (k:=15) rfl rfl ⟨rfl,by decide,by decide⟩ [74] fun w s₀ mg mb h as G Y h0 A fa hmg=>?_
 refine K02.all_mk hmg ⟨Hd.str_of (G.T.const "JUDGE" (.str "bell") (by kernel_rfl)),Hd.int_of (G.T.const "LONGEST_WORD" (.int 12) (by kernel_rfl)),Hd.int_of (G.T.const "MOST_CLAUSES" (.int 12) (by kernel_rfl)),Hd.int_of (G.T.const "MOST_CONDS" (.int 8) (by kernel_rfl)),Hd.int_of (G.T.const "MOST_HOUSES" (.int 8) (by kernel_rfl)),Hd.int_of (G.T.const "MOST_OTHERS" (.int 4) (by kernel_rfl)),Hd.int_of (G.T.const "MOST_PARTS" (.int 9) (by kernel_rfl)),Hd.str_of (G.T.const "SMALL_LETTERS" (.str "abcdefghijklmnopqrstuvwxyz") (by kernel_rfl)),Hd.nones G.T K02.hbl 0 rfl,Hd.nones G.T K02.hbl 1 rfl,Hd.nones G.T K02.hbl 2 rfl,Hd.nones G.T K02.hbl 3 rfl,Hd.nones G.T K02.hbl 4 rfl,Hd.nones G.T K02.hbl 5 rfl,Hd.nones G.T K02.hbl 6 rfl,Hd.nones G.T K02.hbl 7 rfl,Hd.nones G.T K02.hbl 8 rfl,Hd.nones G.T K02.hbl 9 rfl,Hd.nones G.T K02.hbl 10 rfl,Hd.nones G.T K02.hbl 11 rfl,Hd.nones G.T K02.hbl 12 rfl,Hd.nones G.T K02.hbl 13 rfl⟩ (Hd.fn_at A K02.sts_ok 0 rfl) (Hd.fn_at A K02.sts_ok 1 rfl) (Hd.fn_at A K02.sts_ok 2 rfl) (Hd.fn_at A K02.sts_ok 3 rfl) (Hd.fn_at A K02.sts_ok 4 rfl) (Hd.fn_at A K02.sts_ok 5 rfl) (Hd.fn_at A K02.sts_ok 6 rfl) (Hd.fn_at A K02.sts_ok 7 rfl) (Hd.fn_at A K02.sts_ok 8 rfl) (Hd.fn_at A K02.sts_ok 9 rfl) (Hd.fn_at A K02.sts_ok 10 rfl) (Hd.fn_at A K02.sts_ok 11 rfl) (Hd.fn_at A K02.sts_ok 12 rfl) (Hd.fn_at A K02.sts_ok 13 rfl) (Hd.fn_at A K02.sts_ok 14 rfl) (Hd.fn_at A K02.sts_ok 15 rfl) (Hd.fn_at A K02.sts_ok 16 rfl) (Hd.fn_at A K02.sts_ok 17 rfl) (Hd.fn_at A K02.sts_ok 18 rfl) (Hd.fn_at A K02.sts_ok 19 rfl) (Hd.fn_at A K02.sts_ok 20 rfl) (Hd.fn_at A K02.sts_ok 21 rfl) (Hd.fn_at A K02.sts_ok 22 rfl) (Hd.fn_at A K02.sts_ok 23 rfl) (Hd.fn_at A K02.sts_ok 24 rfl) (Hd.fn_at A K02.sts_ok 25 rfl) (Hd.fn_at A K02.sts_ok 26 rfl) (Hd.fn_at A K02.sts_ok 27 rfl) (Hd.fn_at A K02.sts_ok 28 rfl) (Hd.fn_at A K02.sts_ok 29 rfl) (Hd.fn_at A K02.sts_ok 30 rfl) (K02.td_EVENTS G.T.g Y (h0 _ 3e4))