import PyProof.Rows.All
import Wide.All
import OpenK.AllK
import Wide.FinOn
import Lean
import PyProof.EqAt
import PyProof.EqKinds
import PyProof.TupleCall
import PyProof.DictCompW
import PySem.SetOps
import PyProof.SetScanFacts
import PyProof.SetKind
import PyProof.TupleKey
import PyProof.DictRoadsH
import PyProof.IsRules
import PyProof.Rows.SetFrom
import PyProof.WalksMore
import PyProof.NeKinds
import KE.KSortTup
import KE.KDictOf
import PyProof.DictFindH
import PyProof.AttrMissSeq
import KE.KDictList
import PyProof.CollectWalk
import PyProof.StrBlock2
import PyProof.SeqI3
import PyProof.EnumMake
import PyProof.WalksEnum
import PyProof.DictValues
import PyProof.DictWalks
import KE.KRevSl
import PyProof.ListMulAny
import PyProof.Rows.ListMul
import PyProof.Draws
import PyProof.Rows.IntBool
import KE.KRevIter
import PyProof.Rows.FStr
import PyProof.Rows.StrNews
import PyProof.Rows.StrSplitAre
import PyProof.CallStr
import KE.KIntText
import PyProof.AutoListH
import KE.KPairComp
import PyProof.Rows.StrClose3
import PyProof.StrLawsIn
import PySem.Challenge.RW_holdword_k80_letters_shown
noncomputable section
set_option hygiene false
local macro_rules
|`(1e0)=>`((by rfl))
set_option hygiene true
open Array renaming length_toList → Yy, toList_append → YJ, getD_eq_getD_getElem? → YR, getElem?_eq_getElem → Xv, getElem?_eq_none → XF, perm_iff_toList_perm → Wz, getElem?_toList → Vc, toList_inj → VL
open Array.Perm renaming refl → Vn
open Bool renaming false_ne_true → Yi, and_eq_true → Yp, false_eq_true → Xy, eq_iff_iff → WJ, or_eq_true → Vo
open False renaming elim → Wl
open ForInStep renaming yield → Wv
open Int renaming emod_lt_of_pos → XQ, emod_nonneg → X0, toNat_natCast → W6
open List renaming getElem?_eq_getElem → Yd, mem_cons → Ye, lookup_cons → Yj, size_toArray → Yl, map_cons → Yr, length_cons → Ys, not_mem_nil → Yt, length_map → Yu, append_nil → YA, getElem?_append_left → YC, getElem?_eq_none_iff → YD, append_assoc → YF, all_eq_true → YG, getElem?_map → YK, mem_append_right → YL, mem_map → YM, replicate → YO, getElem?_append_right → YS, range → YT, length_append → YU, nil_append → Y2, getElem?_eq_some_iff → Y3, mem_cons_of_mem → Y4, mem_append → Y8, map_map → Y9, mem_append_left → Xb, getElem?_set_ne → Xc, mem_of_getElem? → Xd, mem_singleton → Xe, zip_cons_cons → Xf, zipWith → Xo, getElem?_set_self → Xq, mem_cons_self → Xw, all_cons → XB, length_nil → XD, getD_eq_getElem?_getD → XH, length_take → XI, any_cons → XJ, getElem?_eq_none → XO, getElem?_take_of_lt → XW, find?_cons → XY, toArray → X2, filterMap_cons → X5, replicate_succ → Wc, getElem_mem → Wg, cons_append → Wj, take_of_length_le → Wo, findIdx?_cons → Wp, ext_getElem? → Wx, map_fst_zip → WC, nodup_cons → WO, map_append → WX, length_range → W7, eq_nil_of_length_eq_zero → Vd, mem_map_of_mem → Vi, getElem_of_mem → Vm, nodup_append → VA, pairwise_map → VB, getElem_inj → VH, of_mem_zip → VQ, length_set → VU, forIn_cons → VV, drop → VZ
open Nat renaming lt_of_lt_of_le → Yv, le_refl → Yx, le_trans → YB, ne_of_lt → YH, lt_or_ge → Y1, lt_irrefl → Xs, zero_le → X9, ne_of_gt → Ws, min_eq_left → Vp, le_of_lt → VO
open Ne renaming symm → XA
open Option renaming isSome_iff_exists → WE, map_eq_some_iff → WY, map_some → Vl, isSome_map → Vz
open Option.some renaming inj → Yz
open Prod renaming fst → V6
open Prod.mk renaming inj → V0
open PyProof.Rows renaming slot_tuple_getitem → Y0, callWith_type1 → Xm, get?_update_seq → WT, listUpdate_at → Vg, mirror_perm → VE, SortKind → VF, AllBare → VN, listItems_at → VY, mirror_size → V3, seqEpoch_at → V4
open PySem renaming wpAny_bind → Yc, starEach → Yg, wpAny_pure → Yk, FuncData → Ym, sizeLine → Yn, Program → Yo, sizeLine_eq → YE, Spec → YI, bootBuiltins → YX, compareOp → YZ, mainGlobals → Y5, wpAny_holding → Y6, wpAny_callSpecial?_slot → Xa, assignEach → Xg, wpAny_call_entry → Xh, wpAny_truthy_bool → Xl, wpAny_field → Xn, wpAny_newObj_type → Xr, sysModules → XC, attributeBase → XM, wpAny_setField_rec → XN, wpAny_seqItems → XS, treeTable → XU, wpAny_mono → XV, binaryOp → X6, mem_of_lookup → X8, DictEntry → We, wpAny_typeNameOfWhole_keyiter → Wi, keywordEach → Wt, Keyword → Wu, letOwnedTupleGo → WH, wpAny_passesOwn → WI, behindInMarks → WK, wpAny_Call_Name_kw → WL, NameKind → WN, wpAny_newList → WU, foldedSetIterable → W2, sliceBounds → W3, wpAny_pyIter_list → W4, intText? → W9, importedModules → Va, wpAny_updateSeq_pair → Ve, swapsWith → Vk, codeAny_builtin → Vq, backToKw → Vx, wpAny_setField → Vy, Builtin → VC, wpAny_onRaise → VD, noFill_tuple_add → VI, wpAny_pyIter_zip → VJ, tupleKind → VM, wpAny_execs_nil → VP, concat_meets → VR, getItem → VS, wpAny_typeOf → VT, wpAny_loadPart' → VW, holding → V1, codeAny → V2, callerA → V9, valueAt → Ua
open PySem.Around renaming in1_units → YQ
open PySem.Builtin.List renaming listExtendWith → Vr
open PySem.Builtin.Slice renaming slicePlaces → XR, sliceAdjust → WA, sliceApplied → Vu
open PySem.Builtin.SmallTypes renaming nextOf → YN, ownedTupleIsFree → Xj, ownedTupleHandOut → WB
open PySem.Builtin.Str renaming occurrences → X7
open PySem.Builtin.Tuple renaming tupleExact → XX, tupleItemsOf → Vv
open PySem.Calls renaming Name_function_global → Vt
open PySem.F renaming slot_tuple_iterator_next → Xp, slot_dict_keyiterator_next → Wq, slot_zip_next → Ww, args_tuple_add_2 → WF, args_tuple_iterator_next_1 → WG, entry_tuple_add → WP, entry_tuple_iterator_next → WQ, plainAttrs_list → WV, slot_tuple_add → WZ, plainAttrs_str → W0, args_object_init_3 → Vw
open PySem.Heap renaming get?_push_of_some → Yb, get?_push_size → Yh, lt_size → Yq, size_push → Xu, get?_update_ne → XE, SameBut → Wr, ExtBut → W5, get?_update_self → Vb
open PySem.Heap.SameBut renaming update → Wb
open PySem.NameKind renaming free → Y7, cell → Wa
open PySem.Obj renaming mapSeq → Xx, data_mapFields → WR
open PySem.Paired renaming cons → Wd, nil → Wy, length → Vf
open PySem.PassesOwn renaming never → Vs
open PySem.PyData renaming keyHash → YV
open PySem.Str renaming empty → YW, join → XT, length_append → XZ, ofString → X1
open PySem.Value renaming ref → YY, none → Xk, isStrOf → Xz, type → W1, bool → Vh
open PySem.W renaming keepIn → Yw, kas_sort → Xi, kas_desc → XG, kia_one → Wf, kas_place → Wh, kas_rev → Wn, kas_asc → WD, fencedOpening → Vj, kas_descPart → VX
open PySem.W.KIN renaming signs_num → WW
open PySem.W.KasT renaming ret → V5
open PySem.W.Looks renaming of_pure → VG
open Sum renaming inl → V7, inr → V8
open True renaming intro → Wm
set_option backward.eqns.nonrecursive false
set_option genSizeOf false
set_option compiler.extract_closed false
set_option bootstrap.genMatcherCode false
set_option Elab.async false
set_option linter.all false
set_option maxRecDepth 100000
namespace Hd
open PySem PySem.W
def seenTab (names:List Str)(tas:List Addr)(h:Heap):Option (List (Option (Option Value)))×List (Option Obj):=
 ((h.get? Y5).map fun om=>names.map (nsIn [(Y5,om)] Y5),tas.map h.get?)
def tabHook (names:List Str)(vals:List (Option (Option Value)))(tas:List Addr)(tos:Params->List Obj):Hook where
 α:=Option (List (Option (Option Value)))×List (Option Obj)
 obs:=fun s=>seenTab names tas s.heap
 val:=fun w=>(some vals,(tos w.params).map some)
 says:=fun w h=>(∃om,h.get? Y5=some om/\names.map (nsIn [(Y5,om)] Y5)=vals)/\tas.map h.get? = (tos w.params).map some
 of:=fun w s e=>by
  obtain ⟨e1,e2⟩:=V0 e
  obtain ⟨om,g,e⟩:=WY.mp e1
  exact ⟨⟨om,g,e⟩,e2⟩
 keeps:=fun w h h' ⟨⟨om,g,e⟩,e2⟩ k=>by
  refine ⟨⟨om,k _ _ g,e⟩,?_⟩
  rw[←e2]
  refine List.map_congr_left fun a m=>?_
  have:∃o,h.get? a=some o:=by
   have m2:h.get? a∈tas.map h.get?:=Vi m
   rw[e2] at m2
   obtain ⟨o,_,q⟩:=YM.mp m2
   exact ⟨o,q.symm⟩
  obtain ⟨o,q⟩:=this
  rw[q,k _ _ q]
end Hd
namespace K80
open PySem
set_option maxHeartbeats 4000000
def qv:Program:=W.view PySem.Challenge.pw_holdword_k80_letters_shown [1,2,3,4,5,6,7,8,9,11,12,13,14,15,16,17,19,20,21,22,27,28,29,32,33,34,35,36,37,38,39,40,41,42,44,45,46,47,48,49,50,51,52,53,54,55,56]
def tnames:List Str:=["DEEDS","is_bare","is_of_word","is_of_part","is_of_clause","is_of_house","DEED_FORMS"]
def tvals:List (Option (Option Value)):=[some (some (.ref 83)),some (some (.ref 54)),some (some (.ref 61)),some (some (.ref 75)),some (some (.ref 68)),some (some (.ref 82)),some (some (.ref 153))]
def es_DEEDS (P:Params):List DictEntry:=[⟨YV P "join",.str "join" 276,.ref 54⟩,⟨YV P "say",.str "say" 277,.ref 61⟩,⟨YV P "do",.str "do" 278,.ref 75⟩,⟨YV P "free",.str "free" 279,.ref 68⟩,⟨YV P "ready",.str "ready" 280,.ref 68⟩,⟨YV P "hand",.str "hand" 281,.ref 82⟩,⟨YV P "quit",.str "quit" 282,.ref 68⟩,⟨YV P "note",.str "note" 283,.ref 54⟩]
def Zcb (P:Params):List DictEntry:=[⟨YV P "join",.str "join" 391,.ref 154⟩,⟨YV P "say",.str "say" 392,.ref 155⟩,⟨YV P "do",.str "do" 394,.ref 156⟩,⟨YV P "free",.str "free" 397,.ref 157⟩,⟨YV P "ready",.str "ready" 399,.ref 158⟩,⟨YV P "hand",.str "hand" 401,.ref 159⟩,⟨YV P "quit",.str "quit" 405,.ref 160⟩,⟨YV P "note",.str "note" 407,.ref 161⟩]
def tobjs (P:Params):List Obj:=[⟨.type "dict",none,.dict (es_DEEDS P).toArray 8,#[]⟩,⟨.type "dict",none,.dict (Zcb P).toArray 8,#[]⟩,⟨.type "tuple",none,.seq #[],#[]⟩,⟨.type "tuple",none,.seq #[.str "word" 393],#[]⟩,⟨.type "tuple",none,.seq #[.str "number" 395,.str "number" 396],#[]⟩,⟨.type "tuple",none,.seq #[.str "number" 398],#[]⟩,⟨.type "tuple",none,.seq #[.str "number" 400],#[]⟩,⟨.type "tuple",none,.seq #[.str "number" 402,.str "to" 403,.str "word" 404],#[]⟩,⟨.type "tuple",none,.seq #[.str "number" 406],#[]⟩,⟨.type "tuple",none,.seq #[],#[]⟩]
def hk:W.Hook:=Hd.tabHook tnames tvals [83,153,154,155,156,157,158,159,160,161] tobjs
theorem of_split2 {p q:Yo}{loose:List Str}{Xt:Shared->Bool}{α:Type}{Yf:Shared->α}{Ya:World->α}{N:Nat}{g0:Bool}(row:String)(h:∀(b:Bool) (w:World),(Vj XU p w N).bind (fun s₀=>(W.topFrom XU p (w.withFollow row b) N s₀).map (fun s=>(W.openSeen q loose (Va p.main.body) Xt g0 s,Yf s)))=some (W.openGood q loose,Ya (w.withFollow row b))):W.LeftO p q loose Xt Yf Ya N g0:=fun w=>by
 have k:=h (w.params.followText row) w
 rw[World.withFollow_self w row] at k
 unfold W.openEnds
 cases a:Vj XU p w N with
 | none=>rw[a] at k;cases k
 | some s₀=>rw[a] at k;exact k
theorem hlF (w:World):(Vj XU PySem.Challenge.pw_holdword_k80_letters_shown w 4162).bind (fun s₀=>(W.topFrom XU PySem.Challenge.pw_holdword_k80_letters_shown (w.withFollow "special-get-raises" false) 4162 s₀).map (fun s=>(W.openSeen qv ["DEEDS","HoldError","NoLetter","DEED_FORMS"] (Va (PySem.Challenge.pw_holdword_k80_letters_shown).main.body) (fun s=>W.xlAt qv [] s&&W.recOk [] s) true s,hk.obs s)))=some (W.openGood qv ["DEEDS","HoldError","NoLetter","DEED_FORMS"],hk.val (w.withFollow "special-get-raises" false)):=by kernel_rfl
theorem hlT (w:World):(Vj XU PySem.Challenge.pw_holdword_k80_letters_shown w 4162).bind (fun s₀=>(W.topFrom XU PySem.Challenge.pw_holdword_k80_letters_shown (w.withFollow "special-get-raises" true) 4162 s₀).map (fun s=>(W.openSeen qv ["DEEDS","HoldError","NoLetter","DEED_FORMS"] (Va (PySem.Challenge.pw_holdword_k80_letters_shown).main.body) (fun s=>W.xlAt qv [] s&&W.recOk [] s) true s,hk.obs s)))=some (W.openGood qv ["DEEDS","HoldError","NoLetter","DEED_FORMS"],hk.val (w.withFollow "special-get-raises" true)):=by kernel_rfl
theorem hl:W.LeftO PySem.Challenge.pw_holdword_k80_letters_shown qv ["DEEDS","HoldError","NoLetter","DEED_FORMS"] (fun s=>W.xlAt qv [] s&&W.recOk [] s) hk.obs hk.val 4162:=
 of_split2 "special-get-raises" fun b w=>match b with
  | false=>hlF w
  | true=>hlT w
end K80
namespace L2
open PySem PySem.Spec PyProof.Rows
abbrev Key:=Sum Int Str
def keyIs:Key->Value->Bool
 | .inl k,v=>Value.isInt k v
 | .inr x,v=>Xz x v
def keyH (w:World):Key->Int
 | .inl k=>hashInt k
 | .inr x=>hashStr w x
theorem ZaP:∀{k:Key} {v:Value},keyIs k v=true->(∃i t,k=V7 i/\v=Value.int i t)\/(∃x t,k=V8 x/\v=Value.str x t)
 | .inl i,v,h=>by
  obtain ⟨t,e⟩:=Value.isInt_shape (k:=i) (v:=v) h
  exact .inl ⟨i,t,rfl,e⟩
 | .inr x,v,h=>by
  obtain ⟨t,e⟩:=Value.isStrOf_shape (x:=x) (v:=v) h
  exact .inr ⟨x,t,rfl,e⟩
theorem keyIs_int (i:Int)(t:Tok):keyIs (.inl i) (.int i t)=true:=by simp[keyIs,Value.isInt]
theorem keyIs_str (x:Str)(t:Tok):keyIs (.inr x) (.str x t)=true:=by simp[keyIs,Xz]
theorem key_ll (a b:Int):decide ((V7 a:Key)=V7 b)=(a==b):=by
 by_cases e:a=b
 ·subst e;simp
 ·have h:¬(V7 a:Key)=V7 b:=fun q=>e (Sum.inl.inj q)
  rw[decide_eq_false h]
  exact (beq_eq_false_iff_ne.mpr e).symm
theorem key_rr (a b:Str):decide ((V8 a:Key)=V8 b)=decide (a=b):=by
 by_cases e:a=b
 ·subst e;simp
 ·have h:¬(V8 a:Key)=V8 b:=fun q=>e (Sum.inr.inj q)
  rw[decide_eq_false h,decide_eq_false e]
theorem key_lr (a:Int)(b:Str):decide ((V7 a:Key)=V8 b)=false:=decide_eq_false (fun q=>nomatch q)
theorem key_rl (a:Str)(b:Int):decide ((V8 a:Key)=V7 b)=false:=decide_eq_false (fun q=>nomatch q)
def mixKind (prog:Yo)(w:World):PySem.KeyKind prog w Key where
 is:=keyIs
 hash:=keyH w
 inj:=fun v a b ha hb=>by
  rcases ZaP ha with ⟨i,t,rfl,rfl⟩ | ⟨x,t,rfl,rfl⟩
  ·rcases ZaP hb with ⟨j,u,rfl,e⟩ | ⟨y,u,rfl,e⟩
   ·injection e with e1 _;rw[e1]
   ·exact nomatch e
  ·rcases ZaP hb with ⟨j,u,rfl,e⟩ | ⟨y,u,rfl,e⟩
   ·exact nomatch e
   ·injection e with e1 _;rw[e1]
 byValue:=fun k v h=>by
  rcases ZaP h with ⟨i,t,rfl,rfl⟩ | ⟨x,t,rfl,rfl⟩<;>rfl
 pyHash:=fun hv h=>by
  rcases ZaP hv with ⟨i,t,rfl,rfl⟩ | ⟨x,t,rfl,rfl⟩
  ·exact wpAny_pyHash_int h
  ·exact wpAny_pyHash_str h
 eqBool:=fun hu hv h=>by
  rcases ZaP hu with ⟨i,t,rfl,rfl⟩ | ⟨x,t,rfl,rfl⟩
  ·rcases ZaP hv with ⟨j,u,rfl,rfl⟩ | ⟨y,u,rfl,rfl⟩
   ·rw[key_ll] at h;exact wpAny_eqBool_int h
   ·rw[key_lr] at h;exact SeqAt.EqAt.int_str i t y u _ _ _ _ h
  ·rcases ZaP hv with ⟨j,u,rfl,rfl⟩ | ⟨y,u,rfl,rfl⟩
   ·rw[key_rl] at h;exact SeqAt.EqAt.str_int x t j u _ _ _ _ h
   ·rw[key_rr] at h;exact wpAny_eqBool_str h
 «strs»:=fun k x t v h=>by
  rcases ZaP h with ⟨i,u,rfl,e⟩ | ⟨y,u,rfl,e⟩
  ·exact nomatch e
  ·injection e with e1 _
   subst e1
   cases v<;>rfl
theorem mixKind_int (prog:Yo)(w:World)(i:Int)(t:Tok):(mixKind prog w).is (.inl i) (.int i t)=true:=keyIs_int i t
theorem mixKind_str (prog:Yo)(w:World)(x:Str)(t:Tok):(mixKind prog w).is (.inr x) (.str x t)=true:=keyIs_str x t
inductive V where
 | non | bl (b:Bool) | int (i:Int) | str (x:Str) | byt (b:Array UInt8) | flt (b:UInt64) | ref (a:Addr) | ty (n:String)
 deriving DecidableEq
def RelV:V->Value->Prop
 | .non,u=>u=Xk
 | .bl b,u=>u=Vh b
 | .int i,u=>∃t,u=Value.int i t
 | .str x,u=>∃t,u=Value.str x t
 | .byt b,u=>∃t,u=Value.bytes b t
 | .flt b,u=>∃t,u=Value.float b t
 | .ref a,u=>u=YY a
 | .ty n,u=>u=W1 n
abbrev Vals:List V->List Value->Prop:=Paired RelV
theorem Vals.length {xs:List V}{us:List Value}(r:Vals xs us):xs.length=us.length:=Vf r
theorem Vals.get:∀{xs:List V} {us:List Value} {i:Nat} {x:V},Vals xs us->xs[i]? = some x->∃u,us[i]? = some u/\RelV x u
 | _,_,_,_,.nil,e=>by simp at e
 | _,_,0,_,.cons r _,e=>by simp at e;subst e;exact ⟨_,rfl,r⟩
 | _,_,i + 1,x,.cons _ t,e=>by
  obtain ⟨u,h1,h2⟩:=Vals.get (i:=i) (x:=x) t (by simpa using e)
  exact ⟨u,by simpa using h1,h2⟩
theorem Vals.set {x:V}{u:Value}(r:RelV x u):∀{xs:List V} {us:List Value} (i:Nat),Vals xs us->Vals (xs.set i x) (us.set i u)
 | _,_,_,.nil=>.nil
 | _,_,0,.cons _ t=>.cons r t
 | _,_,i + 1,.cons q t=>.cons q (Vals.set r i t)
theorem Vals.append:∀{xs ys:List V} {us ws:List Value},Vals xs us->Vals ys ws->Vals (xs++ys) (us++ws)
 | _,_,_,_,.nil,s=>s
 | _,_,_,_,.cons r t,s=>.cons r (Vals.append t s)
theorem Vals.take:∀{xs:List V} {us:List Value} (n:Nat),Vals xs us->Vals (xs.take n) (us.take n)
 | _,_,0,_=>.nil
 | _,_,_ + 1,.nil=>.nil
 | _,_,n + 1,.cons r t=>.cons r (Vals.take n t)
theorem Vals.drop:∀{xs:List V} {us:List Value} (n:Nat),Vals xs us->Vals (xs.drop n) (us.drop n)
 | _,_,0,r=>r
 | _,_,_ + 1,.nil=>.nil
 | _,_,n + 1,.cons _ t=>Vals.drop n t
def RelO:Option V->Option Value->Prop
 | some v,some u=>RelV v u
 | none,none=>True
 | _,_=>False
def KV {κ:Type}:List (κ×V)->List (κ×Value)->Prop:=Paired fun (p:κ×V) (q:κ×Value)=>p.1=q.1/\RelV p.2 q.2
def kV:Key->V
 | .inl i=>.int i
 | .inr x=>.str x
inductive HO where
  | lst (xs:List V)
  | tup (xs:List V)
  | dK (kvs:List (Key×V)) | dT (kvs:List (List Key×V))
  | set (S:Int->Bool) (n:Nat)
  | ins (C dx:Addr) (fs:List (Str×V))
  | own (x:Addr)
  | xd (fs:List (Str×V))
  | met (f x:Addr)
  | rng (lo hi:Int)
  | frz (o:Obj) (u:HO)
  | tbl (ps:Array Value)
  | ext (φ:Heap->Prop)
abbrev Hp:=Addr->Option HO
def upd (H:Hp)(a:Addr)(o:HO):Hp:=fun b=>if b=a then some o else H b
theorem Za0 {H:Hp}{a:Addr}{o:HO}:upd H a o a=some o:=by unfold upd;rw[if_pos rfl]
theorem Zas {H:Hp}{a b:Addr}{o:HO}(h:b≠a):upd H a o b=H b:=by unfold upd;rw[if_neg h]
theorem ne_of {H:Hp}{a b:Addr}{o u:HO}(h:H a=some o)(h':H b=some u)(d:o≠u):a≠b:=by
 intro e;subst e;rw[h] at h';exact d (Yz h')
theorem Zao {H:Hp}{a b:Addr}{o:HO}(h:H a=some o)(h':H b=none):a≠b:=by
 intro e;subst e;rw[h] at h';cases h'
section
variable (P:Yo)(w:World)
def ObjOk (H:Hp)(h:Heap)(a:Addr):HO->Prop
 | .lst xs=>xs.length<=Yn/\∃(its:List Value) (n:Nat),Vals xs its/\h.get? a=some { cls:=.type "list",data:=.seq its.toArray n }
 | .tup xs=>xs.length<=Yn/\∃its:List Value,Vals xs its/\IsTup h a its.toArray
 | .dK kvs=>kvs.length<=Yn/\(a==XC)=false/\∃vs,KV kvs vs/\h.DictOf (mixKind P w) a vs
 | .dT kvs=>kvs.length<=Yn/\(a==XC)=false/\∃xs:List (List Key×Addr×Value),
   Paired (fun (p:List Key×V) (q:List Key×Addr×Value)=>p.1=q.1/\H q.2.1=some (.tup (p.1.map kV))/\RelV p.2 q.2.2) kvs xs/\
   ∃o es ep,h.get? a=some o/\o.ExactDict/\o.data=.dict es ep/\es.toList=xs.map (entryOfKey (VM (mixKind P w)))/\(xs.map (·.1)).Nodup
 | .set S n=>h.SetOf (intKind P w) a S n
 | .ins C dx fs=>H dx=some (.own a)/\fs.length<=1000/\dx≠a/\h.get? a=some (W.instObj C dx)/\
   ∃mA,h.Ns1 dx mA/\(∀f,RelO (fs.lookup f) (mA f))/\PySem.Within mA (fs.map (·.1))
 | .own _=>∃o,h.get? a=some o
 | .xd fs=>∃mA,h.Ns1 a mA/\∀f,RelO (fs.lookup f) (mA f)
 | .rng lo hi=>∃t u v,h.get? a=some { cls:=.type "range",data:=.fields #[.int lo t,.int hi u,.int 1 v] }
 | .frz o u=>h.get? a=some o/\ObjOk H h a u
 | .tbl ps=>h.get? a=some { cls:=.none,data:=.fields ps }
 | .met f x=>h.get? a=some (W.methodObj (.ref f) (.ref x))
 | .ext φ=>φ h/\(∃o,h.get? a=some o)/\∀h1 h2:Heap,φ h1->(∀o,h1.get? a=some o->h2.get? a=some o)->φ h2
def HOk (H:Hp)(h:Heap):Prop:=∀a o,H a=some o->ObjOk P w H h a o
end
section
variable {P:Yo}{w:World}{H H':Hp}{h h':Heap}{a:Addr}{o:HO}
theorem ObjOk.lt (x:ObjOk P w H h a o):a < h.objs.size:=by
 cases o with
 | lst xs=>obtain ⟨_,_,_,_,e⟩:=x;exact Yq e
 | tup xs=>obtain ⟨_,_,_,p⟩:=x;exact p.lt
 | dK kvs=>obtain ⟨_,_,_,_,o,_,_,e,_⟩:=x;exact Yq e
 | dT kvs=>obtain ⟨_,_,_,_,o,_,_,e,_⟩:=x;exact Yq e
 | set S n=>obtain ⟨o,_,_,_,e,_⟩:=x;exact Yq e
 | ins C dx fs=>obtain ⟨_,_,_,e,_⟩:=x;exact Yq e
 | own y=>obtain ⟨_,e⟩:=x;exact Yq e
 | xd fs=>obtain ⟨_,⟨_,_,_,e,_⟩,_⟩:=x;exact Yq e
 | rng lo hi=>obtain ⟨_,_,_,e⟩:=x;exact Yq e
 | frz ob u=>obtain ⟨e,_⟩:=x;exact Yq e
 | tbl ps=>exact Yq (show h.get? a=some _ from x)
 | met f y=>exact Yq (show h.get? a=some _ from x)
 | ext φ=>obtain ⟨_,⟨_,e⟩,_⟩:=x;exact Yq e
theorem Paired.mapP {α β:Type}{F G:α->β->Prop}:∀{l₁:List α} {l₂:List β},Paired F l₁ l₂->(∀a b,F a b->G a b)->Paired G l₁ l₂
 | _,_,.nil,_=>.nil
 | _,_,.cons r t,f=>.cons (f _ _ r) (Paired.mapP t f)
theorem ObjOk.stay (x:ObjOk P w H h a o)(k:∀b u,(b=a\/H b=some (.own a))->h.get? b=some u->h'.get? b=some u)
  (ho:∀b,H b=some (.own a)->H' b=some (.own a)) (ht:∀b xs,H b=some (.tup xs)->H' b=some (.tup xs)):ObjOk P w H' h' a o:=by
 induction o with
 | lst xs=>obtain ⟨z,its,n,r,e⟩:=x;exact ⟨z,its,n,r,k _ _ (.inl rfl) e⟩
 | tup xs=>obtain ⟨z,its,r,ob,e,c⟩:=x;exact ⟨z,its,r,ob,k _ _ (.inl rfl) e,c⟩
 | dK kvs=>obtain ⟨z,y,vs,r,ob,es,ep,e,c⟩:=x;exact ⟨z,y,vs,r,ob,es,ep,k _ _ (.inl rfl) e,c⟩
 | dT kvs=>
  obtain ⟨z,y,xs,r,ob,es,ep,e,c⟩:=x
  exact ⟨z,y,xs,Paired.mapP r fun p q z=>⟨z.1,ht _ _ z.2.1,z.2.2⟩,ob,es,ep,k _ _ (.inl rfl) e,c⟩
 | set S n=>obtain ⟨ob,es,ep,t,e,c⟩:=x;exact ⟨ob,es,ep,t,k _ _ (.inl rfl) e,c⟩
 | ins C dx fs=>
  obtain ⟨d,z,ne,e,mA,⟨od,es,ep,e2,c⟩,r⟩:=x
  exact ⟨ho _ d,z,ne,k _ _ (.inl rfl) e,mA,⟨od,es,ep,k _ _ (.inr d) e2,c⟩,r⟩
 | own y=>obtain ⟨ob,e⟩:=x;exact ⟨ob,k _ _ (.inl rfl) e⟩
 | xd fs=>obtain ⟨mA,⟨od,es,ep,e,c⟩,r⟩:=x;exact ⟨mA,⟨od,es,ep,k _ _ (.inl rfl) e,c⟩,r⟩
 | rng lo hi=>obtain ⟨t,u,v,e⟩:=x;exact ⟨t,u,v,k _ _ (.inl rfl) e⟩
 | frz ob u ih=>obtain ⟨e,q⟩:=x;exact ⟨k _ _ (.inl rfl) e,ih q⟩
 | tbl ps=>
  have e:h.get? a=some { cls:=.none,data:=.fields ps }:=x
  show h'.get? a=some { cls:=.none,data:=.fields ps }
  exact k a _ (.inl rfl) e
 | met f y=>
  have e:h.get? a=some (W.methodObj (.ref f) (.ref y)):=x
  show h'.get? a=some (W.methodObj (.ref f) (.ref y))
  exact k a _ (.inl rfl) e
 | ext φ=>obtain ⟨p,⟨o,e⟩,st⟩:=x;exact ⟨st _ _ p fun o q=>k _ _ (.inl rfl) q,⟨o,k _ _ (.inl rfl) e⟩,st⟩
theorem HOk.lt (x:HOk P w H h)(e:H a=some o):a < h.objs.size:=(x a o e).lt
theorem HOk.fresh (x:HOk P w H h)(e:h.objs.size<=a):H a=none:=by
 cases q:H a with
 | none=>rfl
 | some u=>exact absurd (Yv (x.lt q) e) (Xs _)
theorem HOk.kept (x:HOk P w H h)(k:∀b u,h.get? b=some u->h'.get? b=some u):HOk P w H h':=fun a o e=>
 (x a o e).stay (fun b u _ q=>k b u q) (fun _ q=>q) fun _ _ q=>q
theorem HOk.laid (x:HOk P w H h)(k:∀b u,h.get? b=some u->h'.get? b=some u)(hp:h.objs.size<=a)(new:ObjOk P w (upd H a o) h' a o):HOk P w (upd H a o) h':=fun b u e=>by
 have hn:=x.fresh hp
 by_cases hb:b=a
 ·subst hb;rw[Za0] at e;cases e;exact new
 ·rw[Zas hb] at e
  exact (x b u e).stay (fun c v _ q=>k c v q) (fun c q=>by rw[Zas (Zao q hn)];exact q) fun c xs q=>by rw[Zas (Zao q hn)];exact q
end
def Rd (H:Hp)(a:Addr)(u:HO):Prop:=H a=some u\/∃o,H a=some (.frz o u)
theorem Rd.ok {P:Yo}{w:World}{H:Hp}{h:Heap}{a:Addr}{u:HO}(r:Rd H a u)(x:HOk P w H h):ObjOk P w H h a u:=by
 rcases r with r | ⟨o,r⟩
 ·exact x a u r
 ·obtain ⟨_,q⟩:=x a _ r
  exact q
def Mut:Option HO->Prop
 | some (.lst _)=>True
 | some (.dK _)=>True
 | some (.dT _)=>True
 | some (.set _ _)=>True
 | some (.ins _ _ _)=>True
 | some (.ext _)=>True
 | _=>False
section
variable {P:Yo}{w:World}{H:Hp}{h h':Heap}{x e:Addr}{o':HO}
theorem HOk.write (ok:HOk P w H h)(mu:Mut (H x))(he:e=x\/H e=some (.own x))(k:∀b u,b≠e->h.get? b=some u->h'.get? b=some u)(heo:∃u,h'.get? e=some u)
  (new:ObjOk P w (upd H x o') h' x o'):HOk P w (upd H x o') h':=fun b u q=>by
 have nown:∀c y,H c=some (.own y)->c≠x:=fun c y r z=>by subst z;rw[r] at mu;exact mu
 have ntup:∀c xs,H c=some (.tup xs)->c≠x:=fun c xs r z=>by subst z;rw[r] at mu;exact mu
 by_cases hb:b=x
 ·subst hb;rw[Za0] at q;cases q;exact new
 ·rw[Zas hb] at q
  by_cases hbe:b=e
  ·have q':H b=some (.own x):=by
    rcases he with z | z
    ·exact absurd (hbe.trans z) hb
    ·rw[hbe];exact z
   rw[q] at q';cases q'
   obtain ⟨v,hv⟩:=heo
   exact ⟨v,by rw[hbe];exact hv⟩
  ·refine (ok b u q).stay (fun c v hc r=>k c v ?_ r) (fun c r=>by rw[Zas (nown c b r)];exact r) fun c xs r=>by rw[Zas (ntup c xs r)];exact r
   rcases hc with rfl | hc
   ·exact hbe
   ·rintro rfl
    rcases he with z | z
    ·exact nown c b hc z
    ·rw[hc] at z;cases z;exact hb rfl
end
structure Un (fs ex:List Addr)(H H':Hp)(h h':Heap):Prop where
 keep:∀b o,h.get? b=some o->H b=none->b∉fs->b∉ex->h'.get? b=some o
 slot:∀b o,h.get? b=some o->H b=none->b∈fs->b∉ex->∃sl,h'.get? b=some { o with slots:=sl }
 free:∀b o,h.get? b=some o->H b=none->b∉ex->H' b=none
 there:∀b o,h.get? b=some o->b∉ex->∃o',h'.get? b=some o'
 tups:∀b xs,H b=some (.tup xs)->H' b=some (.tup xs)
 frzs:∀b o u,H b=some (.frz o u)->H' b=some (.frz o u)
 tbls:∀b ps,H b=some (.tbl ps)->∃more,H' b=some (.tbl (ps++more))
section
variable {fs fs' ex ex':List Addr}{H H1 H2:Hp}{h h1 h2 h':Heap}{a x e:Addr}{o:HO}
theorem Un.any (u:Un fs ex H H1 h h1){b:Addr}{ob:Obj}(q:h.get? b=some ob)(n:H b=none)(hx:b∉ex):∃sl,h1.get? b=some { ob with slots:=sl }:=by
 by_cases hb:b∈fs
 ·exact u.slot b ob q n hb hx
 ·exact ⟨ob.slots,u.keep b ob q n hb hx⟩
theorem Un.kept (k:∀b u,h.get? b=some u->h'.get? b=some u):Un fs ex H H h h':=
 ⟨fun b ob q _ _ _=>k b ob q,fun b ob q _ _ _=>⟨ob.slots,k b ob q⟩,fun _ _ _ n _=>n,fun b ob q _=>⟨ob,k b ob q⟩,fun _ _ q=>q,fun _ _ _ q=>q,fun _ ps q=>⟨#[],by rw[q];simp⟩⟩
theorem Un.refl:Un fs ex H H h h:=Un.kept fun _ _ q=>q
theorem Un.laid (k:∀b u,h.get? b=some u->h'.get? b=some u)(hp:h.objs.size<=a)(hn:H a=none):Un fs ex H (upd H a o) h h' where
 keep:=fun b u q _ _ _=>k b u q
 slot:=fun b u q _ _ _=>⟨u.slots,k b u q⟩
 free:=fun b u q n _=>by rw[Zas (YH (Yv (Yq q) hp))];exact n
 there:=fun b u q _=>⟨u,k b u q⟩
 tups:=fun b xs q=>by rw[Zas (Zao q hn)];exact q
 frzs:=fun b u xs q=>by rw[Zas (Zao q hn)];exact q
 tbls:=fun b ps q=>⟨#[],by rw[Zas (Zao q hn),q];simp⟩
theorem Un.write (mu:Mut (H x))(he:e=x\/H e=some (.own x))(k:∀b u,b≠e->h.get? b=some u->h'.get? b=some u)(heo:∃u,h'.get? e=some u):Un fs ex H (upd H x o) h h':=by
 have hx:∀b,H b=none->b≠x:=fun b n z=>by subst z;rw[n] at mu;exact mu
 have hb:∀b,H b=none->b≠e:=fun b n z=>by
  subst z
  rcases he with r | r
  ·exact hx b n r
  ·rw[n] at r;cases r
 have hm:∀b u,H b=some u->¬Mut (some u)->b≠x:=fun b u q nm z=>by subst z;rw[q] at mu;exact nm mu
 refine ⟨fun b u q n _ _=>k b u (hb b n) q,fun b u q n _ _=>⟨u.slots,k b u (hb b n) q⟩,fun b u q n _=>by rw[Zas (hx b n)];exact n,fun b u q _=>?_,
  fun b xs q=>by rw[Zas (hm b _ q fun z=>z)];exact q,fun b u xs q=>by rw[Zas (hm b _ q fun z=>z)];exact q,fun b ps q=>⟨#[],by rw[Zas (hm b _ q fun z=>z),q];simp⟩⟩
 by_cases hbe:b=e
 ·subst hbe;exact heo
 ·exact ⟨u,k b u hbe q⟩
end
def trk (h:Heap)(H:Hp):List Addr:=(YT h.objs.size).filter fun a=>(H a).isSome
def hidT (h:Heap)(H:Hp):Heap:=W.hideAll h (trk h H)
theorem hidT_size (h:Heap)(H:Hp):(hidT h H).objs.size=h.objs.size:=W.hideAll_size _ _
theorem hidT_get {h:Heap}{H:Hp}{b:Addr}{o:Obj}(e:h.get? b=some o)(n:H b=none):(hidT h H).get? b=some o:=
 W.hideAll_get _ e fun hm=>by
  have q:(H b).isSome=true:=(List.mem_filter.mp hm).2
  rw[n] at q;simp at q
theorem of_hidT {h:Heap}{H:Hp}{b:Addr}{o:Obj}(e:(hidT h H).get? b=some o):h.get? b=some o/\H b=none:=by
 have e':h.get? b=some o:=W.of_hideAll (trk h H) e
 refine ⟨e',?_⟩
 cases q:H b with
 | none=>rfl
 | some x=>
  have hm:b∈trk h H:=List.mem_filter.mpr ⟨List.mem_range.mpr (Yq e'),by simp[q]⟩
  have z:(hidT h H).get? b=none:=W.hideAll_none (trk h H) hm
  rw[z] at e;cases e
def allNews (g h:Heap)(L:Addr):List (Addr×Obj):=(YT h.objs.size).filterMap fun a=>if a=L\/(g.get? a).isSome=true then none else (h.get? a).map fun o=>(a,o)
def rest (g h:Heap)(L d:Addr):List (Addr×Obj):=(allNews g h L).filter fun p=>decide (p.1≠d)
structure Mod (K:W.Frag)(mg:Str->Option Value)(base:Heap):Prop where
 kin:K.In base
 glob:base.Ns Y5 mg
 blt:∃mb,base.Ns builtinsNs mb/\∀x:Str,x≠"__name__"->mb x=YX x
 nolimit:base.NoLimit
structure Cx where
 prog:Yo
 w:World
 K:W.Frag
 mg:Str->Option Value
 base:Heap
 A:Around
 N:List Str
 s₀:Shared
 H₀:Hp
 env:Env
 outer:List Env
 stack:List Env
 ex:List Addr
 fn:Str->Bool
 calm:Bool
 pn:List (Addr×Obj)
 xe:Value->Shared->Prop
def frs (l:List Env):List Addr:=l.filterMap (·.frame)
abbrev Cx.fs (X:Cx):List Addr:=frs X.outer
def Vis (sc:Scope)(x:Str):Prop:=sc.names.lookup x=some .local\/sc.names.lookup x=some .cell\/sc.names.lookup x=some .free
def Loc (sc:Scope)(x:Str):Prop:=sc.names.lookup x=some .local\/sc.names.lookup x=some .cell
def Look (env:Env)(h:Heap)(m:Str->Option Value)(x:Str)(u:Value):Prop:=
 (env.kindOf x=some .local/\m x=some u)\/((env.kindOf x=some .cell\/env.kindOf x=some .free)/\∃c,env.cells.lookup x=some c/\h.IsCell c (some u))
structure Cx.Ok (X:Cx):Prop where
 mod:Mod X.K X.mg X.base
 kind:X.env.scope.kind=.function
 glob:X.env.globals=Y5
 blt:X.env.builtins=builtinsNs
 above:X.s₀.heap.objs.size<=X.env.locals
 inj:∀x y c,X.env.cells.lookup x=some c->X.env.cells.lookup y=some c->x=y
 has:∀x,(X.env.kindOf x=some .cell\/X.env.kindOf x=some .free)->∃c,X.env.cells.lookup x=some c
 cab:∀x c,X.fn x=true->X.env.cells.lookup x=some c->X.s₀.heap.objs.size<=c
 hd:X.calm=true->X.A.handled=none
 frames:X.A.frames=some X.stack
 stk:X.stack=X.outer\/(X.stack=X.env::X.outer/\X.env.frame=some X.env.locals)
 exf:∀b∈X.ex,b≠X.env.locals/\∀x c,X.env.cells.lookup x=some c->c≠b
 bs:∀b o,X.base.get? b=some o->X.s₀.heap.get? b=some o/\X.H₀ b=none
 bsz:X.base.objs.size<=X.s₀.heap.objs.size
 noex:∀b o,X.base.get? b=some o->b∉X.ex
 exfs:∀b∈X.ex,b∉X.fs
 funs:X.s₀.heap.FunFrames X.base X.outer
 frf:∀b∈X.fs,X.H₀ b=none
structure Inv (X:Cx)(pins:List (Addr×Obj))(σ:List (Option V))(H:Hp)(s:Shared):Prop where
 ok:X.Ok
 os:s.os=X.s₀.os
 bare:VN s.gens
 base:Un X.fs X.ex X.H₀ H X.s₀.heap s.heap
 loc:∃m,s.heap.Ns X.env.locals m/\∀(i:Nat) (x:Str) (v:V),X.N[i]? = some x->σ[i]? = some (some v)->Vis X.env.scope x->∃u,RelV v u/\Look X.env s.heap m x u
 cell:∀x c,X.env.cells.lookup x=some c->∃v,s.heap.IsCell c v
 free:H X.env.locals=none
 freeC:∀x c,X.env.cells.lookup x=some c->H c=none
 pin:∀p∈X.pn++pins,s.heap.get? p.1=some p.2/\H p.1=none/\p.1≠X.env.locals/\p.1∉X.fs/\∀v,p.2.data≠.cell v
 hok:HOk X.prog X.w H s.heap
 len:σ.length=X.N.length
section
variable {X:Cx}{pins:List (Addr×Obj)}{σ:List (Option V)}{H H':Hp}{s:Shared}{h':Heap}
theorem Cx.Ok.nofr (ok:X.Ok){b:Addr}{o:Obj}(e:X.base.get? b=some o):b∉X.fs:=fun hb=>by
 have:=(ok.funs.mem hb).1
 rw[e] at this;cases this
theorem Inv.bs (I:Inv X pins σ H s):∀b o,X.base.get? b=some o->s.heap.get? b=some o/\H b=none:=fun b o e=>
 ⟨I.base.keep b o (I.ok.bs b o e).1 (I.ok.bs b o e).2 (I.ok.nofr e) (I.ok.noex b o e),I.base.free b o (I.ok.bs b o e).1 (I.ok.bs b o e).2 (I.ok.noex b o e)⟩
theorem Inv.bk (I:Inv X pins σ H s):∀b o,X.base.get? b=some o->s.heap.get? b=some o:=fun b o e=>(I.bs b o e).1
theorem Inv.mod (I:Inv X pins σ H s):Mod X.K X.mg X.base:=I.ok.mod
theorem Inv.kIn (I:Inv X pins σ H s):X.K.In s.heap:=I.ok.mod.kin.keeps I.bk
theorem Inv.lt (I:Inv X pins σ H s):X.env.locals < s.heap.objs.size:=let ⟨_,hn,_⟩:=I.loc;hn.lt
theorem Inv.sz (I:Inv X pins σ H s):X.s₀.heap.objs.size<=s.heap.objs.size:=YB I.ok.above (VO I.lt)
theorem Inv.nofs (I:Inv X pins σ H s){a:Addr}(h:s.heap.objs.size<=a):a∉X.fs:=fun hb=>by
 obtain ⟨_,o,ho,_⟩:=I.ok.funs.mem hb
 exact absurd (Yv (Yq ho) (YB I.sz h)) (Xs _)
theorem Inv.cne (I:Inv X pins σ H s):∀x c,X.env.cells.lookup x=some c->c≠X.env.locals:=fun x c e z=>by
 obtain ⟨v,o,ho,hd⟩:=I.cell x c e
 obtain ⟨m,⟨o',es,ep,ho',hd',_⟩,_⟩:=I.loc
 rw[z,ho'] at ho;cases ho;rw[hd'] at hd;cases hd
theorem Inv.funs (I:Inv X pins σ H s):s.heap.FunFrames X.base X.outer:=by
 have all:∀(l:List Env),(∀b∈frs l,b∈X.fs)->X.s₀.heap.FunFrames X.base l->s.heap.FunFrames X.base l:=by
  intro l
  induction l with
  | nil=>intro _ _;trivial
  | cons env r ih=>
   intro hs hl
   obtain ⟨hk,⟨L,o,hf,hn,ho,hd⟩,hr⟩:=hl
   have hL:L∈X.fs:=hs L (by unfold frs;rw[X5,hf];exact Xw)
   obtain ⟨sl,e⟩:=I.base.slot L o ho (I.ok.frf L hL) hL fun z=>I.ok.exfs L z hL
   exact ⟨hk,⟨L,_,hf,hn,e,hd⟩,ih (fun b hb=>hs b (by unfold frs;rw[X5,hf];exact Y4 _ hb)) hr⟩
 exact all X.outer (fun _ hb=>hb) I.ok.funs
theorem Inv.stack (I:Inv X pins σ H s):s.heap.FunFrames X.base X.stack:=by
 rcases I.ok.stk with e | ⟨e,hf⟩
 ·rw[e];exact I.funs
 ·rw[e]
  obtain ⟨m,hn,_⟩:=I.loc
  refine .cons (by rw[I.ok.kind];decide) hf hn ?_ I.funs
  exact Heap.get?_none_of_le (YB I.ok.bsz I.ok.above)
theorem Inv.stkSub (I:Inv X pins σ H s):∀b∈frs X.stack,b∈X.env.locals::X.fs:=fun b hb=>by
 rcases I.ok.stk with e | ⟨e,hf⟩
 ·rw[e] at hb;exact Y4 _ hb
 ·rw[e] at hb
  unfold frs at hb
  rw[X5,hf] at hb
  exact hb
theorem Inv.stkFree (I:Inv X pins σ H s):∀b∈frs X.stack,H b=none:=fun b hb=>by
 rcases Ye.mp (I.stkSub b hb) with e | hb
 ·rw[e];exact I.free
 ·obtain ⟨_,o,ho,_⟩:=I.ok.funs.mem hb
  exact I.base.free b o ho (I.ok.frf b hb) fun z=>I.ok.exfs b z hb
theorem Inv.step {g':Array GenState}{t':Nat}{d':Drawn}{ch:List Addr}(I:Inv X pins σ H s)
  (hch:∀b∈ch,(b∈X.ex\/X.s₀.heap.objs.size<=b)/\b≠X.env.locals/\(∀x c,X.env.cells.lookup x=some c->c≠b)/\∀p∈X.pn++pins,p.1≠b)
  (keep:∀b o,b≠X.env.locals->b∉X.fs->b∉ch->s.heap.get? b=some o->H b=none->h'.get? b=some o)
  (slot:∀b o,b≠X.env.locals->b∈X.fs->b∉ch->s.heap.get? b=some o->H b=none->∃sl,h'.get? b=some { o with slots:=sl }) (free:∀b o,b∉ch->s.heap.get? b=some o->H b=none->H' b=none)
  (there:∀b o,b∉ch->s.heap.get? b=some o->∃o',h'.get? b=some o')
  (tups:∀b xs,H b=some (.tup xs)->H' b=some (.tup xs)) (frzs:∀b o u,H b=some (.frz o u)->H' b=some (.frz o u)) (tbls:∀b ps,H b=some (.tbl ps)->∃more,H' b=some (.tbl (ps++more)))
  (ns:∀m,s.heap.Ns X.env.locals m->h'.Ns X.env.locals m) (hok:HOk X.prog X.w H' h') (hg:VN g'):
  Inv X pins σ H' { s with heap:=h',gens:=g',drawn:=d',toks:=t' }:=by
 have neL:∀b o,X.s₀.heap.get? b=some o->b≠X.env.locals:=fun b o e=>YH (Yv (Yq e) I.ok.above)
 have neC:∀b o,X.s₀.heap.get? b=some o->b∉X.ex->b∉ch:=fun b o e hx hb=>by
  rcases (hch b hb).1 with z | z
  ·exact hx z
  ·exact absurd (Yv (Yq e) z) (Xs _)
 have cellK:∀x c,X.env.cells.lookup x=some c->∀v,s.heap.IsCell c v->h'.IsCell c v:=fun x c e v h_=>by
  obtain ⟨o,ho,hd⟩:=h_
  have nch:c∉ch:=fun z=>(hch c z).2.2.1 x c e rfl
  by_cases hc:c∈X.fs
  ·obtain ⟨sl,q⟩:=slot c o (I.cne x c e) hc nch ho (I.freeC x c e)
   exact ⟨_,q,hd⟩
  ·exact ⟨o,keep c o (I.cne x c e) hc nch ho (I.freeC x c e),hd⟩
 refine ⟨I.ok,I.os,hg,⟨fun b o e n hb hx=>?_,fun b o e n hb hx=>?_,fun b o e n hx=>?_,fun b o e hx=>?_,fun b xs e=>tups b xs (I.base.tups b xs e),fun b o xs e=>frzs b o xs (I.base.frzs b o xs e),fun b ps e=>?_⟩,?_,fun x c e=>?_,?_,fun x c e=>?_,fun p hp=>?_,hok,I.len⟩
 ·exact keep b o (neL b o e) hb (neC b o e hx) (I.base.keep b o e n hb hx) (I.base.free b o e n hx)
 ·obtain ⟨sl,e1⟩:=I.base.slot b o e n hb hx
  obtain ⟨sl',e2⟩:=slot b _ (neL b o e) hb (neC b o e hx) e1 (I.base.free b o e n hx)
  exact ⟨sl',e2⟩
 ·obtain ⟨o',e1⟩:=I.base.there b o e hx
  exact free b o' (neC b o e hx) e1 (I.base.free b o e n hx)
 ·obtain ⟨o',e1⟩:=I.base.there b o e hx
  exact there b o' (neC b o e hx) e1
 ·obtain ⟨m1,e1⟩:=I.base.tbls b ps e
  obtain ⟨m2,e2⟩:=tbls b _ e1
  exact ⟨m1++m2,by rw[e2,Array.append_assoc]⟩
 ·obtain ⟨m,hn,hl⟩:=I.loc
  refine ⟨m,ns m hn,fun i x v e1 e2 e3=>?_⟩
  obtain ⟨u,r,l⟩:=hl i x v e1 e2 e3
  refine ⟨u,r,?_⟩
  rcases l with l | ⟨k,c,e,z⟩
  ·exact .inl l
  ·exact .inr ⟨k,c,e,cellK x c e _ z⟩
 ·obtain ⟨v,z⟩:=I.cell x c e
  exact ⟨v,cellK x c e v z⟩
 ·obtain ⟨m,⟨o,_,_,ho,_⟩,_⟩:=I.loc
  exact free _ o (fun z=>(hch _ z).2.1 rfl) ho I.free
 ·obtain ⟨v,o,ho,hd⟩:=I.cell x c e
  exact free c o (fun z=>(hch c z).2.2.1 x c e rfl) ho (I.freeC x c e)
 ·obtain ⟨e,n,ne,nf,d⟩:=I.pin p hp
  have nch:p.1∉ch:=fun z=>(hch p.1 z).2.2.2 p hp rfl
  exact ⟨keep p.1 p.2 ne nf nch e n,free p.1 p.2 nch e n,ne,nf,d⟩
theorem Inv.un {t':Nat}(I:Inv X pins σ H s)(u:Un X.fs [] H H' s.heap h')(hok:HOk X.prog X.w H' h'):Inv X pins σ H' { s with heap:=h',toks:=t' }:=by
 obtain ⟨m,⟨o,es,ep,ho,r⟩,_⟩:=id I.loc
 obtain ⟨sl,hL⟩:=u.any ho I.free (by simp)
 exact I.step (g':=s.gens) (d':=s.drawn) (ch:=[]) (fun _ z=>nomatch z) (fun b o _ hb _ e n=>u.keep b o e n hb (by simp)) (fun b o _ hb _ e n=>u.slot b o e n hb (by simp)) (fun b o _ e n=>u.free b o e n (by simp)) (fun b o _ e=>u.there b o e (by simp)) u.tups u.frzs u.tbls (fun m' hm=>by
  obtain ⟨o',es',ep',ho',r'⟩:=hm
  rw[ho] at ho';cases ho'
  exact ⟨_,es',ep',hL,r'⟩) hok I.bare
theorem Inv.call {g':Array GenState}{t':Nat}{d':Drawn}{ch:List Addr}(I:Inv X pins σ H s)(u:Un (frs X.stack) ch H H' s.heap h')(hok:HOk X.prog X.w H' h')(hg:VN g')
  (hch:∀b∈ch,(b∈X.ex\/X.s₀.heap.objs.size<=b)/\b≠X.env.locals/\(∀x c,X.env.cells.lookup x=some c->c≠b)/\∀p∈X.pn++pins,p.1≠b):
  Inv X pins σ H' { s with heap:=h',gens:=g',drawn:=d',toks:=t' }:=by
 obtain ⟨m,⟨o,es,ep,ho,r⟩,_⟩:=id I.loc
 obtain ⟨sl,hL⟩:=u.any ho I.free fun z=>(hch _ z).2.1 rfl
 exact I.step (ch:=ch) hch (fun b o hL hb hc e n=>u.keep b o e n (fun z=>(Ye.mp (I.stkSub b z)).elim hL hb) hc) (fun b o _ _ hc e n=>u.any e n hc) (fun b o hc e n=>u.free b o e n hc) (fun b o hc e=>u.there b o e hc) u.tups u.frzs u.tbls (fun m' hm=>by
  obtain ⟨o',es',ep',ho',r'⟩:=hm
  rw[ho] at ho';cases ho'
  exact ⟨_,es',ep',hL,r'⟩) hok hg
theorem Inv.turned {t':Nat}{it:Addr}(I:Inv X pins σ H s)(k:∀b o,b≠it->s.heap.get? b=some o->h'.get? b=some o)(hn:H it=none)(hL:it≠X.env.locals)
  (h1:it∈X.ex\/X.s₀.heap.objs.size<=it) (h2:∀x c,X.env.cells.lookup x=some c->c≠it) (h3:∀p∈X.pn++pins,p.1≠it):Inv X pins σ H { s with heap:=h',toks:=t' }:=by
 have nit:∀b u,H b=some u->b≠it:=fun b u e z=>by rw[z,hn] at e;cases e
 refine I.step (g':=s.gens) (d':=s.drawn) (ch:=[it]) (fun b hb=>?_) (fun b o _ _ hc e _=>k b o (fun z=>hc (by simp[z])) e) (fun b o _ _ hc e _=>⟨o.slots,k b o (fun z=>hc (by simp[z])) e⟩) (fun _ _ _ _ n=>n)
  (fun b o hc e=>⟨o,k b o (fun z=>hc (by simp[z])) e⟩) (fun _ _ e=>e) (fun _ _ _ e=>e) (fun b ps e=>⟨#[],by rw[e];simp⟩) (fun m hm=>?_) (fun b u e=>?_) I.bare
 ·have e:b=it:=by simpa using hb
  subst e
  exact ⟨h1,hL,h2,h3⟩
 ·obtain ⟨o,es,ep,ho,r⟩:=hm
  exact ⟨o,es,ep,k _ o (XA hL) ho,r⟩
 ·refine (I.hok b u e).stay (fun c v hc q=>k c v ?_ q) (fun _ q=>q) fun _ _ q=>q
  rcases hc with z | z
  ·rw[z];exact nit b u e
  ·exact nit c _ z
theorem Inv.tok (I:Inv X pins σ H s)(t:Nat):Inv X pins σ H { s with toks:=t }:=I.un (h':=s.heap) (t':=t) Un.refl I.hok
theorem Inv.kept {t':Nat}(I:Inv X pins σ H s)(k:∀b u,s.heap.get? b=some u->h'.get? b=some u):Inv X pins σ H { s with heap:=h',toks:=t' }:=I.un (Un.kept k) (I.hok.kept k)
theorem Inv.laid {a:Addr}{o:HO}{t':Nat}(I:Inv X pins σ H s)(k:∀b u,s.heap.get? b=some u->h'.get? b=some u)(hp:s.heap.objs.size<=a)(new:ObjOk X.prog X.w (upd H a o) h' a o):
  Inv X pins σ (upd H a o) { s with heap:=h',toks:=t' }:=I.un (Un.laid k hp (I.hok.fresh hp)) (I.hok.laid k hp new)
theorem Inv.write {x e:Addr}{o:HO}{t':Nat}(I:Inv X pins σ H s)(mu:Mut (H x))(he:e=x\/H e=some (.own x))(k:∀b u,b≠e->s.heap.get? b=some u->h'.get? b=some u)(heo:∃u,h'.get? e=some u)
  (new:ObjOk X.prog X.w (upd H x o) h' x o):Inv X pins σ (upd H x o) { s with heap:=h',toks:=t' }:=I.un (Un.write mu he k heo) (I.hok.write mu he k heo new)
theorem Inv.pins_of {pins':List (Addr×Obj)}(I:Inv X pins σ H s)(h:∀p∈pins',s.heap.get? p.1=some p.2/\H p.1=none/\p.1≠X.env.locals/\p.1∉X.fs/\∀v,p.2.data≠.cell v):Inv X pins' σ H s:=
 ⟨I.ok,I.os,I.bare,I.base,I.loc,I.cell,I.free,I.freeC,fun p hp=>(Y8.mp hp).elim (fun z=>I.pin p (Xb _ z)) (h p),I.hok,I.len⟩
theorem nodup_ix {N:List Str}(hN:N.Nodup){i j:Nat}{x:Str}(a:N[i]? = some x)(b:N[j]? = some x):i=j:=by
 obtain ⟨h1,e1⟩:=Y3.mp a
 obtain ⟨h2,e2⟩:=Y3.mp b
 exact (VH hN).mp (e1.trans e2.symm)
theorem store_ok2 {M:Model}{A:Around}{E:Value->Shared->Prop}{i:Nat}{x:Str}{v:V}{u:Value}{Q:Unit->Shared->Prop}(I:Inv X pins σ H s)(hN:X.N.Nodup)(hi:X.N[i]? = some x)(hx:Loc X.env.scope x)(r:RelV v u)
  (h:∀s',Inv X pins (σ.set i (some v)) H s'->(∃a,Wr a s.heap s'.heap/\(a=X.env.locals\/X.env.cells.lookup x=some a))->Q () s') (hf:X.fn x=true\/X.env.scope.names.lookup x=some .local:=by first | exact .inl rfl | exact .inr rfl | assumption):wpAny M A (storeName X.env x u) Q E s:=by
 obtain ⟨m,hn,hl⟩:=id I.loc
 have hcls:(X.env.scope.kind==.class||(X.env.scope.kind==.module&&X.env.locals != X.env.globals))=false:=by rw[I.ok.kind];rfl
 have hiσ:i < σ.length:=by rw[I.len];exact (Y3.mp hi).1
 have cne:=I.cne
 have tracked:∀{a:Addr} {h':Heap},(∃o,s.heap.get? a=some o/\H a=none)->Wr a s.heap h'->HOk X.prog X.w H h':=fun {a h'} ha hs b ob e=>by
  obtain ⟨_,_,hfree⟩:=ha
  refine (I.hok b ob e).stay (fun c w' hc q=>(hs.2 c ?_).trans q) (fun _ q=>q) fun _ _ q=>q
  rintro rfl
  rcases hc with rfl | hc
  ·rw[hfree] at e;cases e
  ·rw[hfree] at hc;cases hc
 rcases hx with hk | hk
 ·refine wpAny_storeName_local hk hn (fun h' hn' hs=>?_) hcls
  obtain ⟨oL,_,_,hoL,_⟩:=id hn
  refine h _ ⟨I.ok,I.os,I.bare,⟨fun b o e n hb hx=>?_,fun b o e n hb hx=>?_,I.base.free,fun b o e hx=>?_,I.base.tups,I.base.frzs,I.base.tbls⟩,⟨_,hn',fun j y v' e1 e2 e3=>?_⟩,fun y c e=>?_,I.free,I.freeC,fun p hp=>?_,tracked ⟨oL,hoL,I.free⟩ hs,by simpa using I.len⟩ ⟨_,hs,.inl rfl⟩
  ·exact (hs.2 b (YH (Yv (Yq e) I.ok.above))).trans (I.base.keep b o e n hb hx)
  ·obtain ⟨sl,e1⟩:=I.base.slot b o e n hb hx
   exact ⟨sl,(hs.2 b (YH (Yv (Yq e) I.ok.above))).trans e1⟩
  ·obtain ⟨o',e1⟩:=I.base.there b o e hx
   exact ⟨o',(hs.2 b (YH (Yv (Yq e) I.ok.above))).trans e1⟩
  ·by_cases hj:j=i
   ·subst hj
    rw[hi] at e1;cases e1
    rw[Xq hiσ] at e2
    cases e2
    exact ⟨u,r,.inl ⟨hk,by simp⟩⟩
   ·rw[Xc (XA hj)] at e2
    obtain ⟨u',r',q⟩:=hl j y v' e1 e2 e3
    refine ⟨u',r',?_⟩
    rcases q with ⟨k,e⟩ | ⟨k,c,e,z⟩
    ·refine .inl ⟨k,?_⟩
     have:y≠x:=fun e=>hj (nodup_ix hN e1 (e ▸ hi))
     simp[this,e]
    ·exact .inr ⟨k,c,e,z.sameBut hs (cne y c e)⟩
  ·obtain ⟨w',z⟩:=I.cell y c e
   exact ⟨w',z.sameBut hs (cne y c e)⟩
  ·obtain ⟨e,n,ne,nf,d⟩:=I.pin p hp
   exact ⟨(hs.2 p.1 ne).trans e,n,ne,nf,d⟩
 ·have hfn:X.fn x=true:=by
   rcases hf with z | z
   ·exact z
   ·rw[z] at hk;cases hk
  obtain ⟨c,hc⟩:=I.ok.has x (.inl hk)
  obtain ⟨w',z⟩:=I.cell x c hc
  refine wpAny_storeName_cell I.ok.kind hk hc z (fun h' hc' hs=>?_)
  obtain ⟨oc,hoc,hocd⟩:=id z
  refine h { s with heap:=h' } ⟨I.ok,I.os,I.bare,⟨fun b o e n hb hx=>?_,fun b o e n hb hx=>?_,I.base.free,fun b o e hx=>?_,I.base.tups,I.base.frzs,I.base.tbls⟩,⟨m,hn.sameBut hs (XA (cne x c hc)),fun j y v' e1 e2 e3=>?_⟩,fun y c' e=>?_,I.free,I.freeC,fun p hp=>?_,tracked ⟨oc,hoc,I.freeC x c hc⟩ hs,by simpa using I.len⟩ ⟨c,hs,.inr hc⟩
  ·exact (hs.2 b (YH (Yv (Yq e) (I.ok.cab x c hfn hc)))).trans (I.base.keep b o e n hb hx)
  ·obtain ⟨sl,e1⟩:=I.base.slot b o e n hb hx
   exact ⟨sl,(hs.2 b (YH (Yv (Yq e) (I.ok.cab x c hfn hc)))).trans e1⟩
  ·obtain ⟨o',e1⟩:=I.base.there b o e hx
   exact ⟨o',(hs.2 b (YH (Yv (Yq e) (I.ok.cab x c hfn hc)))).trans e1⟩
  ·by_cases hj:j=i
   ·subst hj
    rw[hi] at e1;cases e1
    rw[Xq hiσ] at e2
    cases e2
    exact ⟨u,r,.inr ⟨.inl hk,c,hc,hc'⟩⟩
   ·rw[Xc (XA hj)] at e2
    obtain ⟨u',r',q⟩:=hl j y v' e1 e2 e3
    refine ⟨u',r',?_⟩
    rcases q with q | ⟨k,c',e,z'⟩
    ·exact .inl q
    ·refine .inr ⟨k,c',e,z'.sameBut hs ?_⟩
     rintro rfl
     exact hj (nodup_ix hN e1 (I.ok.inj _ _ _ e hc ▸ hi))
  ·by_cases hcc:c'=c
   ·subst hcc;exact ⟨_,hc'⟩
   ·obtain ⟨w2,z2⟩:=I.cell y c' e
    exact ⟨w2,z2.sameBut hs hcc⟩
  ·obtain ⟨e,n,ne,nf,d⟩:=I.pin p hp
   refine ⟨(hs.2 p.1 ?_).trans e,n,ne,nf,d⟩
   intro q
   rw[q,hoc] at e
   have q':oc=p.2:=Yz e
   exact d w' (by rw[←q'];exact hocd)
theorem store_ok {M:Model}{A:Around}{E:Value->Shared->Prop}{i:Nat}{x:Str}{v:V}{u:Value}{Q:Unit->Shared->Prop}(I:Inv X pins σ H s)(hN:X.N.Nodup)(hi:X.N[i]? = some x)(hx:Loc X.env.scope x)(r:RelV v u)
  (h:∀s',Inv X pins (σ.set i (some v)) H s'->Q () s') (hf:X.fn x=true\/X.env.scope.names.lookup x=some .local:=by first | exact .inl rfl | exact .inr rfl | assumption):wpAny M A (storeName X.env x u) Q E s:=
 store_ok2 I hN hi hx r (fun s' I' _=>h s' I') hf
theorem Inv.call' {s':Shared}{ch:List Addr}(I:Inv X pins σ H s)(ho:s'.os=s.os)(u:Un (frs X.stack) ch H H' s.heap s'.heap)(hok:HOk X.prog X.w H' s'.heap)(hg:VN s'.gens)
  (hch:∀b∈ch,(b∈X.ex\/X.s₀.heap.objs.size<=b)/\b≠X.env.locals/\(∀x c,X.env.cells.lookup x=some c->c≠b)/\∀p∈X.pn++pins,p.1≠b):Inv X pins σ H' s':=by
 obtain ⟨h',g',d',t',o'⟩:=s'
 have e:o'=s.os:=ho
 subst e
 exact I.call (g':=g') (t':=t') (d':=d') u hok hg hch
end
abbrev XK:=Value->Option Addr->Hp->Prop
abbrev St:=List (Option V)
abbrev VK:=V->Hp->Prop
abbrev TE:=St->Hp->VK->Prop
abbrev TT:=St->Hp->(Bool->Hp->Prop)->Prop
abbrev TA:=St->Hp->(List V->Hp->Prop)->Prop
structure Ends where
 nx:St->Hp->Prop
 rt:VK
 bk:St->Hp->Prop:=fun _ _=>False
 ct:St->Hp->Prop:=fun _ _=>False
abbrev TS:=Ends->St->Hp->Prop
def EP (X:Cx)(pins:List (Addr×Obj))(σ:St)(Q:VK)(u:Value)(s':Shared):Prop:=∃v H',Inv X pins σ H' s'/\RelV v u/\Q v H'
def TP (X:Cx)(pins:List (Addr×Obj))(σ:St)(Q:Bool->Hp->Prop)(b:Bool)(s':Shared):Prop:=∃H',Inv X pins σ H' s'/\Q b H'
def AP (X:Cx)(pins:List (Addr×Obj))(σ:St)(Q:List V->Hp->Prop)(us:List Value)(s':Shared):Prop:=∃vs H',Inv X pins σ H' s'/\Vals vs us/\Q vs H'
def SP (X:Cx)(pins:List (Addr×Obj))(D:Ends)(f:Flow)(s':Shared):Prop:=
 match f with
 | .next=>∃σ' H',Inv X pins σ' H' s'/\D.nx σ' H'
 | .brk=>∃σ' H',Inv X pins σ' H' s'/\D.bk σ' H'
 | .cont=>∃σ' H',Inv X pins σ' H' s'/\D.ct σ' H'
 | .ret u=>∃v σ' H',Inv X pins σ' H' s'/\RelV v u/\D.rt v H'
def PE (X:Cx)(e:Expr)(t:TE):Prop:=
 ∀(pins:List (Addr×Obj)) (s:Shared) (σ:St) (H:Hp) (Q:VK),Inv X pins σ H s->t σ H Q->wpAny (model X.prog X.w) X.A (eval e X.env) (EP X pins σ Q) X.xe s
def PT (X:Cx)(e:Expr)(t:TT):Prop:=
 ∀(pins:List (Addr×Obj)) (s:Shared) (σ:St) (H:Hp) (Q:Bool->Hp->Prop),Inv X pins σ H s->t σ H Q->wpAny (model X.prog X.w) X.A (isTrue e X.env (eval e X.env)) (TP X pins σ Q) X.xe s
def PW (X:Cx)(e:Expr)(t:TT):Prop:=
 ∀(whole:Sem Value) (pins:List (Addr×Obj)) (s:Shared) (σ:St) (H:Hp) (Q:Bool->Hp->Prop),Inv X pins σ H s->t σ H Q->wpAny (model X.prog X.w) X.A (isTrue e X.env whole) (TP X pins σ Q) X.xe s
def PA (X:Cx)(es:List Expr)(t:TA):Prop:=
 ∀(pos:Pos) (pins:List (Addr×Obj)) (s:Shared) (σ:St) (H:Hp) (Q:List V->Hp->Prop),Inv X pins σ H s->t σ H Q->wpAny (model X.prog X.w) X.A (spliced (backTo pos (Yg es X.env))) (AP X pins σ Q) X.xe s
def PS (X:Cx)(st:Stmt)(t:TS):Prop:=
 ∀(pins:List (Addr×Obj)) (s:Shared) (σ:St) (H:Hp) (D:Ends),Inv X pins σ H s->t D σ H->wpAny (model X.prog X.w) X.A (exec st X.env) (SP X pins D) X.xe s
def PSs (X:Cx)(st:List Stmt)(t:TS):Prop:=
 ∀(pins:List (Addr×Obj)) (s:Shared) (σ:St) (H:Hp) (D:Ends),Inv X pins σ H s->t D σ H->wpAny (model X.prog X.w) X.A (execs st X.env) (SP X pins D) X.xe s
theorem thn {α:Type}{t:Sem α}{Q Q':α->Shared->Prop}{M:Model}{A:Around}{E:Value->Shared->Prop}{s:Shared}(h:wpAny M A t Q E s)(hQ:∀a s,Q a s->Q' a s):wpAny M A t Q' E s:=XV h hQ fun _ _ x=>x
section
variable {X:Cx}
theorem bin {a b:Expr}{ta tb:TE}(ha:PE X a ta)(hb:PE X b tb){pins:List (Addr×Obj)}{s:Shared}{σ:St}{H:Hp}{R:V->V->Hp->Prop}(I:Inv X pins σ H s)(h:ta σ H fun x H1=>tb σ H1 fun y H2=>R x y H2)
  {α:Type} {Q:α->Shared->Prop} {f:Value->Value->Sem α}
  (hf:∀v u s2 x y H2,Inv X pins σ H2 s2->RelV x v->RelV y u->R x y H2->wpAny (model X.prog X.w) X.A (f v u) Q X.xe s2):
  wpAny (model X.prog X.w) X.A (eval a X.env) (fun v s₁=>wpAny (model X.prog X.w) X.A (eval b X.env) (fun u s₂=>wpAny (model X.prog X.w) X.A (f v u) Q X.xe s₂) X.xe s₁) X.xe s:=by
 refine thn (ha pins s σ H _ I h) fun v s1 h_=>?_
 obtain ⟨x,H1,I1,r1,q1⟩:=h_
 refine thn (hb pins s1 σ H1 _ I1 q1) fun u s2 h_=>?_
 obtain ⟨y,H2,I2,r2,q2⟩:=h_
 exact hf v u s2 x y H2 I2 r1 r2 q2
def tVar (i:Nat):TE:=fun σ H Q=>∃v,σ[i]? = some (some v)/\Q v H
def tC (v:V):TE:=fun _ H Q=>Q v H
theorem pe_var {i:Nat}{x:Str}{pos:Pos}(hN:X.N[i]? = some x)(hv:Vis X.env.scope x)(hd:(x==("__debug__":Str))=false:=by decide)(hcd:(x==("__classdict__":Str))=false:=by decide):PE X (.Name x pos) (tVar i):=by
 intro pins s σ H Q I h
 obtain ⟨v,e,h⟩:=h
 obtain ⟨m,hn,hl⟩:=I.loc
 obtain ⟨u,r,l⟩:=hl i x v hN e hv
 have fin:EP X pins σ Q u s:=⟨v,H,I,r,h⟩
 rcases l with ⟨hk,hm⟩ | ⟨hk,c,hc,hcell⟩
 ·exact wpAny_Name (wpAny_loadName_local I.ok.kind hk hn hm fin) hd
 ·rcases hk with hk | hk
  ·exact wpAny_Name (wpAny_loadName_cell I.ok.kind hk hc hcell fin) hd
  ·exact wpAny_Name (wpAny_loadName_free I.ok.kind hk hc hcell fin hcd) hd
theorem pe_int {i j pos}:PE X (.Constant (.int i) j pos) (tC (.int i)):=fun _ _ _ H _ I h=>wpAny_Constant_int ⟨.int i,H,I.tok _,⟨_,rfl⟩,h⟩
theorem pe_bl {b j pos}:PE X (.Constant (.bool b) j pos) (tC (.bl b)):=fun _ _ _ H _ I h=>Constant_bool ⟨.bl b,H,I,rfl,h⟩
theorem pe_str {x j pos}:PE X (.Constant (.str x) j pos) (tC (.str x)):=fun _ _ _ H _ I h=>Calls.Constant_str ⟨.str x,H,I.tok _,⟨_,rfl⟩,h⟩
def Gl (X:Cx)(x:Str):Prop:=X.env.kindOf x=some .globalImplicit
theorem ld_glob {E:Value->Shared->Prop}{pins:List (Addr×Obj)}{s:Shared}{σ:St}{H:Hp}{x:Str}{u:Value}{pos:Pos}{Q:Value->Shared->Prop}(I:Inv X pins σ H s)(hg:Gl X x)(hm:X.mg x=some u)(h:Q u s)
  (hd:(x==("__debug__":Str))=false:=by decide):wpAny (model X.prog X.w) X.A (eval (.Name x pos) X.env) Q E s:=
 Vt I.ok.kind hg (Calls.loadGlobal_global (by rw[I.ok.glob];exact I.mod.glob.keeps I.bk) hm h) hd
theorem Zc1 {E:Value->Shared->Prop}{pins:List (Addr×Obj)}{s:Shared}{σ:St}{H:Hp}{x:Str}{u:Value}{pos:Pos}{Q:Value->Shared->Prop}(I:Inv X pins σ H s)(hg:Gl X x)(hm:X.mg x=none)(hv:YX x=some u)(h:Q u s)
  (hn:x≠"__name__":=by decide) (hd:(x==("__debug__":Str))=false:=by decide):wpAny (model X.prog X.w) X.A (eval (.Name x pos) X.env) Q E s:=by
 obtain ⟨mb,h1,h2⟩:=I.mod.blt
 exact Vt I.ok.kind hg (Calls.loadGlobal_builtin (by rw[I.ok.glob];exact I.mod.glob.keeps I.bk) hm (by rw[I.ok.blt];exact h1.keeps I.bk) ((h2 x hn).trans hv) h) hd
theorem pe_glob {x:Str}{v:V}{u:Value}{pos:Pos}(hg:Gl X x)(hm:X.mg x=some u)(r:RelV v u)(hd:(x==("__debug__":Str))=false:=by decide):PE X (.Name x pos) (tC v):=
 fun _ _ _ H _ I h=>ld_glob I hg hm ⟨v,H,I,r,h⟩ hd
theorem pe_bltn {x:Str}{v:V}{u:Value}{pos:Pos}(hg:Gl X x)(hm:X.mg x=none)(hv:YX x=some u)(r:RelV v u)(hn:x≠"__name__":=by decide)(hd:(x==("__debug__":Str))=false:=by decide):PE X (.Name x pos) (tC v):=
 fun _ _ _ H _ I h=>Zc1 I hg hm hv ⟨v,H,I,r,h⟩ hn hd
variable {a b:Expr}{ta tb:TE}{pos:Pos}
variable {tA tB':TT}{rest:List Expr}
def tOr (t u:TT):TT:=fun σ H Q=>t σ H fun c H1=>if c=true then Q true H1 else u σ H1 Q
def tNot (t:TT):TT:=fun σ H Q=>t σ H fun c H1=>Q (!c) H1
theorem pw_or1 (ha:PT X a tA):PW X (.BoolOp .Or [a] pos) tA:=by
 intro wh pins s σ H Q I h
 refine isTrue_or (thn (ha pins s σ H Q I h) fun c s1 e=>?_)
 cases c with
 | false=>exact isTrue_or_nil e
 | true=>exact e
theorem pw_or (ha:PT X a tA)(hb:PW X (.BoolOp .Or (b::rest) pos) tB'):PW X (.BoolOp .Or (a::b::rest) pos) (tOr tA tB'):=by
 intro wh pins s σ H Q I h
 refine isTrue_or (thn (ha pins s σ H _ I h) fun c s1 h_=>?_)
 obtain ⟨H1,I1,q1⟩:=h_
 cases c with
 | true=>exact ⟨H1,I1,q1⟩
 | false=>exact hb wh pins s1 σ H1 Q I1 q1
theorem pt_not (ha:PT X a tA):PT X (.UnaryOp .Not a pos) (tNot tA):=by
 intro pins s σ H Q I h
 exact isTrue_not (ha pins s σ H (fun c H1=>Q (!c) H1) I h)
def tAndV (ta tb:TE):TE:=fun σ H Q=>ta σ H fun x H1=>∃c,x=.bl c/\if c=true then tb σ H1 Q else Q (.bl false) H1
def tOrV (ta tb:TE):TE:=fun σ H Q=>ta σ H fun x H1=>∃c,x=.bl c/\if c=true then Q (.bl true) H1 else tb σ H1 Q
def tNotV (ta:TE):TE:=fun σ H Q=>ta σ H fun x H1=>∃c,x=.bl c/\Q (.bl (!c)) H1
theorem pe_one {op}{t:TE}(h:PE X a t):PE X (.BoolOp op [a] pos) t:=fun pins s σ H Q I hw=>BoolOp_one (h pins s σ H Q I hw)
theorem pe_and (ha:PE X a ta)(hb:PE X (.BoolOp .And (b::rest) pos) tb):PE X (.BoolOp .And (a::b::rest) pos) (tAndV ta tb):=by
 intro pins s σ H Q I h
 refine BoolOp_and (thn (ha pins s σ H _ I h) fun v s1 h_=>?_)
 obtain ⟨x,H1,I1,r1,q1⟩:=h_
 obtain ⟨c,rfl,q1⟩:=q1
 cases r1
 refine Xl ?_
 cases c with
 | true=>exact hb pins s1 σ H1 Q I1 q1
 | false=>exact ⟨.bl false,H1,I1,rfl,q1⟩
theorem pe_or (ha:PE X a ta)(hb:PE X (.BoolOp .Or (b::rest) pos) tb):PE X (.BoolOp .Or (a::b::rest) pos) (tOrV ta tb):=by
 intro pins s σ H Q I h
 refine BoolOp_or (thn (ha pins s σ H _ I h) fun v s1 h_=>?_)
 obtain ⟨x,H1,I1,r1,q1⟩:=h_
 obtain ⟨c,rfl,q1⟩:=q1
 cases r1
 refine Xl ?_
 cases c with
 | false=>exact hb pins s1 σ H1 Q I1 q1
 | true=>exact ⟨.bl true,H1,I1,rfl,q1⟩
theorem pe_not (ha:PE X a ta):PE X (.UnaryOp .Not a pos) (tNotV ta):=by
 intro pins s σ H Q I h
 refine UnaryOp_ (thn (ha pins s σ H _ I h) fun v s1 h_=>?_)
 obtain ⟨x,H1,I1,r1,q1⟩:=h_
 obtain ⟨c,rfl,q1⟩:=q1
 cases r1
 exact not_of (Xl ⟨.bl (!c),H1,I1,rfl,q1⟩)
def tIf (t:TT)(ta tb:TE):TE:=fun σ H Q=>t σ H fun c H1=>if c=true then ta σ H1 Q else tb σ H1 Q
theorem pe_ifExp {c:Expr}(hc:PT X c tA)(ha:PE X a ta)(hb:PE X b tb):PE X (.IfExp c a b pos) (tIf tA ta tb):=by
 intro pins s σ H Q I h
 refine wpAny_IfExp (thn (hc pins s σ H _ I h) fun d s1 h_=>?_)
 obtain ⟨H1,I1,q1⟩:=h_
 cases d with
 | true=>exact ha pins s1 σ H1 Q I1 q1
 | false=>exact hb pins s1 σ H1 Q I1 q1
end
def SqL (K:W.Frag)(H:Hp)(a:Addr)(xs:List V):Prop:=
 Rd H a (.lst xs)\/
  ∃(o:Obj) (its:Array Value) (n:Nat),K.lookup a=some o/\o.cls=.type "list"/\o.dict=none/\o.data=.seq its n/\its.size<=Yn/\Vals xs its.toList
def SqT (K:W.Frag)(H:Hp)(a:Addr)(xs:List V):Prop:=
 Rd H a (.tup xs)\/
  ∃(o:Obj) (its:Array Value) (n:Nat),K.lookup a=some o/\o.cls=.type "tuple"/\o.data=.seq its n/\its.size<=Yn/\Vals xs its.toList
def absV:Value->Option V
 | .none=>some .non
 | .bool b=>some (.bl b)
 | .int i _=>some (.int i)
 | .str x _=>some (.str x)
 | .bytes b _=>some (.byt b)
 | .float b _=>some (.flt b)
 | .ref a=>some (.ref a)
 | .type n=>some (.ty n)
 | _=>none
theorem RelV.abs {x:V}{u:Value}(r:RelV x u):absV u=some x:=by
 cases x with
 | non=>cases r;rfl
 | bl _=>cases r;rfl
 | int _=>obtain ⟨t,rfl⟩:=r;rfl
 | str _=>obtain ⟨t,rfl⟩:=r;rfl
 | byt _=>obtain ⟨t,rfl⟩:=r;rfl
 | flt _=>obtain ⟨t,rfl⟩:=r;rfl
 | ref _=>cases r;rfl
 | ty _=>cases r;rfl
theorem RelV.inj {x y:V}{u:Value}(r:RelV x u)(q:RelV y u):x=y:=Yz (r.abs.symm.trans q.abs)
theorem Vals.inj:∀{xs ys:List V} {us:List Value},Vals xs us->Vals ys us->xs=ys
 | _,_,_,.nil,.nil=>rfl
 | _,_,_,.cons r t,.cons r' t'=>by rw[r.inj r',Vals.inj t t']
section
variable {X:Cx}{pins:List (Addr×Obj)}{σ:St}{H:Hp}{s:Shared}{a:Addr}{xs ys:List V}
theorem SqL.of {K:W.Frag}(h:H a=some (.lst xs)):SqL K H a xs:=.inl (.inl h)
theorem Inv.list (I:Inv X pins σ H s)(h:SqL X.K H a xs):∃its:List Value,Vals xs its/\PlainL s.heap a its.toArray/\xs.length<=sizeLine:=by
 rcases h with h | ⟨o,its,n,hk,hc,hd,hs,hz,r⟩
 ·obtain ⟨z,its,n,r,e⟩:=h.ok I.hok
  exact ⟨its,r,⟨_,n,e,rfl,rfl,rfl⟩,z⟩
 ·refine ⟨its.toList,r,⟨o,n,I.kIn a o hk,hc,hd,by simpa using hs⟩,?_⟩
  have e:=r.length
  simp only[Yy] at e
  lia
theorem Inv.tuple (I:Inv X pins σ H s)(h:SqT X.K H a xs):∃its:List Value,Vals xs its/\IsTup s.heap a its.toArray/\xs.length<=sizeLine:=by
 rcases h with h | ⟨o,its,n,hk,hc,hs,hz,r⟩
 ·obtain ⟨z,its,r,p⟩:=h.ok I.hok
  exact ⟨its,r,p,z⟩
 ·refine ⟨its.toList,r,⟨o,I.kIn a o hk,hc,n,by simpa using hs⟩,?_⟩
  have e:=r.length
  simp only[Yy] at e
  lia
theorem Inv.list_inj (I:Inv X pins σ H s)(h:SqL X.K H a xs)(h':SqL X.K H a ys):xs=ys:=by
 obtain ⟨its,r,⟨o,n,e,_,_,d⟩,_⟩:=I.list h
 obtain ⟨its',r',⟨o',n',e',_,_,d'⟩,_⟩:=I.list h'
 rw[e] at e';cases e'
 rw[d] at d'
 injection d' with d1 _
 have:its=its':=by simpa using congrArg Array.toList d1
 subst this
 exact r.inj r'
theorem Inv.tuple_inj (I:Inv X pins σ H s)(h:SqT X.K H a xs)(h':SqT X.K H a ys):xs=ys:=by
 obtain ⟨its,r,⟨o,e,_,n,d⟩,_⟩:=I.tuple h
 obtain ⟨its',r',⟨o',e',_,n',d'⟩,_⟩:=I.tuple h'
 rw[e] at e';cases e'
 rw[d] at d'
 injection d' with d1 _
 have:its=its':=by simpa using congrArg Array.toList d1
 subst this
 exact r.inj r'
end
abbrev Cx.wish (X:Cx)(E:Value->Shared->Prop):Cx:={ X with xe:=E }
abbrev Cx.nox (X:Cx):Cx:=X.wish fun _ _=>False
theorem Cx.Ok.wish {X:Cx}(ok:X.Ok)(E:Value->Shared->Prop):(X.wish E).Ok:=
 ⟨ok.mod,ok.kind,ok.glob,ok.blt,ok.above,ok.inj,ok.has,ok.cab,ok.hd,ok.frames,ok.stk,ok.exf,ok.bs,ok.bsz,ok.noex,ok.exfs,ok.funs,ok.frf⟩
theorem Cx.Ok.unwish {X:Cx}{E:Value->Shared->Prop}(ok:(X.wish E).Ok):X.Ok:=
 ⟨ok.mod,ok.kind,ok.glob,ok.blt,ok.above,ok.inj,ok.has,ok.cab,ok.hd,ok.frames,ok.stk,ok.exf,ok.bs,ok.bsz,ok.noex,ok.exfs,ok.funs,ok.frf⟩
section
variable {X:Cx}{pins:List (Addr×Obj)}{σ:St}{H:Hp}{s:Shared}{E:Value->Shared->Prop}
theorem Inv.wish (I:Inv X pins σ H s)(E:Value->Shared->Prop):Inv (X.wish E) pins σ H s:=⟨I.ok.wish E,I.os,I.bare,I.base,I.loc,I.cell,I.free,I.freeC,I.pin,I.hok,I.len⟩
theorem Inv.unwish (I:Inv (X.wish E) pins σ H s):Inv X pins σ H s:=⟨I.ok.unwish,I.os,I.bare,I.base,I.loc,I.cell,I.free,I.freeC,I.pin,I.hok,I.len⟩
theorem SP.unwish {D:Ends}{f:Flow}{s':Shared}(h:SP (X.wish E) pins D f s'):SP X pins D f s':=by
 cases f with
 | next=>obtain ⟨σ',H',I,q⟩:=h;exact ⟨σ',H',I.unwish,q⟩
 | brk=>obtain ⟨σ',H',I,q⟩:=h;exact ⟨σ',H',I.unwish,q⟩
 | cont=>obtain ⟨σ',H',I,q⟩:=h;exact ⟨σ',H',I.unwish,q⟩
 | ret u=>obtain ⟨v,σ',H',I,r,q⟩:=h;exact ⟨v,σ',H',I.unwish,r,q⟩
theorem PSs.nox {st:List Stmt}{t:TS}(h:PSs X.nox st t):PSs X st t:=fun pins s σ H D I hw=>
 XV (h pins s σ H D (I.wish _) hw) (fun _ _ q=>q.unwish) fun _ _ z=>Wl z
end
section
variable {X:Cx}{st:Stmt}{rest:List Stmt}{t u:TS}{e:Expr}{te:TE}{pos:Pos}
def tNext:TS:=fun D σ H=>D.nx σ H
def tSeq (t u:TS):TS:=fun D σ H=>t { D with nx:=u D } σ H
theorem pss_nil:PSs X [] tNext:=fun _ _ σ H _ I h=>VP ⟨σ,H,I,h⟩
theorem pss_cons (h1:PS X st t)(h2:PSs X rest u):PSs X (st::rest) (tSeq t u):=by
 intro pins s σ H D I h
 refine wpAny_execs_cons (thn (h1 pins s σ H { D with nx:=u D } I h) fun f s1 q=>?_)
 cases f with
 | next=>
  obtain ⟨σ',H',I',q⟩:=q
  exact h2 pins s1 σ' H' D I' q
 | ret v=>exact q
 | brk=>exact q
 | cont=>exact q
theorem pss_one (h1:PS X st t):PSs X [st] t:=by
 intro pins s σ H D I h
 refine wpAny_execs_cons (thn (h1 pins s σ H D I h) fun f s1 q=>?_)
 cases f with
 | next=>exact VP q
 | ret v=>exact q
 | brk=>exact q
 | cont=>exact q
theorem Inv.quiet {pins:List (Addr×Obj)}{σ:St}{H:Hp}{s:Shared}(I:Inv X pins σ H s):interactive X.env=false:=by simp[interactive,I.ok.kind]
def tDrop (te:TE):TS:=fun D σ H=>te σ H fun _ H1=>D.nx σ H1
theorem ps_expr (he:PE X e te)(hs:Vk e none pos.line X.env=pure false:=by rfl):PS X (.Expr e pos) (tDrop te):=by
 intro pins s σ H D I h
 exact wpAny_Expr_any (thn (he pins s σ H _ I h) fun v s1 ⟨x,H1,I1,r1,q1⟩=>⟨σ,H1,I1,q1⟩) I.quiet hs
def tRet (te:TE):TS:=fun D σ H=>te σ H D.rt
theorem ps_ret (he:PE X e te):PS X (.Return (some e) pos) (tRet te):=by
 intro pins s σ H D I h
 exact wpAny_Return_some (thn (he pins s σ H _ I h) fun v s1 ⟨x,H1,I1,r1,q1⟩=>⟨x,σ,H1,I1,r1,q1⟩)
def tIfS (c:TT)(t u:TS):TS:=fun D σ H=>c σ H fun b H1=>if b=true then t D σ H1 else u D σ H1
theorem ps_if {c:Expr}{a b:List Stmt}{tc:TT}(hc:PT X c tc)(ha:PSs X a t)(hb:PSs X b u):PS X (.If c a b pos) (tIfS tc t u):=by
 intro pins s σ H D I h
 refine wpAny_If (thn (hc pins s σ H _ I h) fun d s1 h_=>?_)
 obtain ⟨H1,I1,q1⟩:=h_
 cases d with
 | true=>exact ha pins s1 σ H1 D I1 q1
 | false=>exact hb pins s1 σ H1 D I1 q1
end
abbrev TG:=V->St->Hp->(St->Hp->Prop)->Prop
abbrev TGs:=List V->St->Hp->(St->Hp->Prop)->Prop
def PG (X:Cx)(target:Expr)(t:TG):Prop:=
 ∀(pins:List (Addr×Obj)) (s:Shared) (σ:St) (H:Hp) (v:V) (u:Value) (Q:St->Hp->Prop),Inv X pins σ H s->RelV v u->t v σ H Q->
  wpAny (model X.prog X.w) X.A (assign target X.env u) (fun _ s'=>∃σ' H',Inv X pins σ' H' s'/\Q σ' H') X.xe s
def PGs (X:Cx)(ts:List Expr)(t:TGs):Prop:=
 ∀(pins:List (Addr×Obj)) (s:Shared) (σ:St) (H:Hp) (vs:List V) (us:List Value) (Q:St->Hp->Prop),Inv X pins σ H s->Vals vs us->t vs σ H Q->
  wpAny (model X.prog X.w) X.A (assignInOrder ((Xg ts X.env).map (·.2)) us) (fun _ s'=>∃σ' H',Inv X pins σ' H' s'/\Q σ' H') X.xe s
abbrev TSet:=V->V->V->Hp->(Hp->Prop)->Prop
def PSet (X:Cx)(t:TSet):Prop:=
 ∀(pins:List (Addr×Obj)) (s:Shared) (σ:St) (H:Hp) (o i v:V) (ov iv u:Value) (Q:Hp->Prop),Inv X pins σ H s->RelV o ov->RelV i iv->RelV v u->t o i v H Q->
  wpAny (model X.prog X.w) X.A (setItem ov iv u) (fun _ s'=>∃H',Inv X pins σ H' s'/\Q H') X.xe s
abbrev TIp:=V->V->Hp->VK->Prop
def PIp (X:Cx)(op:Operator)(t:TIp):Prop:=
 ∀(pins:List (Addr×Obj)) (s:Shared) (σ:St) (H:Hp) (x y:V) (v u:Value) (Q:VK),Inv X pins σ H s->RelV x v->RelV y u->t x y H Q->
  wpAny (model X.prog X.w) X.A (inplaceOp op v u) (EP X pins σ Q) X.xe s
section
variable {X:Cx}{pos:Pos}
def gName (i:Nat):TG:=fun v σ H Q=>Q (σ.set i (some v)) H
theorem pg_name {i:Nat}{x:Str}(hN:X.N.Nodup)(hi:X.N[i]? = some x)(hx:Loc X.env.scope x)(hf:X.fn x=true\/X.env.scope.names.lookup x=some .local:=by first | exact .inl rfl | exact .inr rfl | assumption):PG X (.Name x pos) (gName i):=by
 intro pins s σ H v u Q I r h
 exact wpAny_assign_Name (store_ok I hN hi hx r (fun s' I'=>⟨_,H,I',h⟩) hf)
def gNil:TGs:=fun vs σ H Q=>vs=[]/\Q σ H
def gCons (t:TG)(u:TGs):TGs:=fun vs σ H Q=>∃v r,vs=v::r/\t v σ H fun σ' H'=>u r σ' H' Q
theorem pgs_nil:PGs X [] gNil:=by
 intro pins s σ H vs us Q I r h
 obtain ⟨e,h⟩:=h
 subst e
 cases r
 exact assignInOrder_nil ⟨σ,H,I,h⟩
theorem pgs_cons {e:Expr}{es:List Expr}{t:TG}{u:TGs}(h1:PG X e t)(h2:PGs X es u)
  (hs:(Xg (e::es) X.env).map (·.2)=assign e X.env::(Xg es X.env).map (·.2):=by rfl):PGs X (e::es) (gCons t u):=by
 intro pins s σ H vs us Q I r h
 obtain ⟨v,vr,e1,h⟩:=h
 subst e1
 cases r with
 | cons r rr=>
  rw[hs]
  refine assignInOrder_cons (thn (h1 pins s σ H _ _ _ I r h) fun _ s1 h_=>?_)
  obtain ⟨σ1,H1,I1,q1⟩:=h_
  exact h2 pins s1 σ1 H1 _ _ Q I1 rr q1
def gTup (K:W.Frag)(n:Nat)(t:TGs):TG:=fun v σ H Q=>∃a xs,v=.ref a/\SqT K H a xs/\xs.length=n/\t xs σ H Q
theorem pg_tup {es:List Expr}{k:Nat}{t:TGs}{n:Nat}(hc:X.calm=true)(h:PGs X es t)
  (hn:(Xg es X.env).length=n:=by rfl) (hst:(Xg es X.env).findIdx? (·.1)=none:=by rfl):PG X (.Tuple es k pos) (gTup X.K n t):=by
 intro pins s σ H v u Q I r hw
 obtain ⟨a,xs,e1,hq,hl,hw⟩:=hw
 subst e1
 cases r
 obtain ⟨its,rv,ht,hz⟩:=I.tuple hq
 refine assign_Tuple_tuple (I.ok.hd hc) ht (by simp[hn,←hl,rv.length]) hst fun h' hx=>?_
 have I1:Inv X pins σ H { s with heap:=h' }:=I.kept (t':=s.toks) fun b o e=>hx b o (YH (Yq e)) e
 exact h pins _ σ H xs _ Q I1 (by simpa using rv) hw
def gSub (to ti:TE)(t:TSet):TG:=fun v σ H Q=>to σ H fun o H1=>ti σ H1 fun i H2=>t o i v H2 fun H3=>Q σ H3
theorem pg_sub {o i:Expr}{to ti:TE}{t:TSet}(ho:PE X o to)(hi:PE X i ti)(hs:PSet X t)
  (ha:∀v,assign (.Subscript o i pos) X.env v=(do
   let ov ←V1 [v] (eval o X.env)
   let iv ←V1 [v,ov] (eval i X.env)
   standAt pos
   V1 [v,ov,iv] (setItem ov iv v)
   release [v,ov,iv] []):=by intro _;rfl):PG X (.Subscript o i pos) (gSub to ti t):=by
 intro pins s σ H v u Q I r h
 rw[ha]
 refine Yc (Y6 (thn (ho pins s σ H _ I h) fun ov s1 h_=>?_))
 obtain ⟨x,H1,I1,r1,q1⟩:=h_
 refine Yc (Y6 (thn (hi pins s1 σ H1 _ I1 q1) fun iv s2 h_=>?_))
 obtain ⟨y,H2,I2,r2,q2⟩:=h_
 refine Yc (wpAny_standAt (Yc (Y6 (thn (hs pins s2 σ H2 x y v ov iv u _ I2 r1 r2 r q2) fun _ s3 h_=>?_))))
 obtain ⟨H3,I3,q3⟩:=h_
 exact wpAny_release ⟨σ,H3,I3,q3⟩
def tAsg (te:TE)(g:TG):TS:=fun D σ H=>te σ H fun x H1=>g x σ H1 D.nx
theorem ps_asg {tg e:Expr}{te:TE}{g:TG}(he:PE X e te)(hg:PG X tg g)(hs:swapsWithSole [tg] e pos.line X.env=pure false:=by rfl)(hw:swappedStores [tg] e X.env=pure none:=by rfl)
  (h1:(Xg [tg] X.env).map (·.2)=[assign tg X.env]:=by rfl):PS X (.Assign [tg] e pos) (tAsg te g):=by
 intro pins s σ H D I h
 refine wpAny_Assign_stores (thn (he pins s σ H _ I h) fun v s1 ⟨x,H1,I1,r1,q1⟩=>?_) hs hw
 rw[h1]
 exact thn (hg pins s1 σ H1 x v _ I1 r1 q1) fun _ s2 q=>q
theorem ps_set {i:Nat}{x:Str}{e:Expr}{te:TE}{pos':Pos}(hN:X.N.Nodup)(hi:X.N[i]? = some x)(hx:Loc X.env.scope x)(he:PE X e te)(hs:Vk e (some (.Name x pos')) pos.line X.env=pure false:=by rfl)(hf:X.fn x=true\/X.env.scope.names.lookup x=some .local:=by first | exact .inl rfl | exact .inr rfl | assumption):
  PS X (.Assign [.Name x pos'] e pos) (tAsg te (gName i)):=by
 intro pins s σ H D I h
 refine wpAny_Assign_Name (thn (he pins s σ H _ I h) fun v s1 ⟨y,H1,I1,r1,q1⟩=>?_) hs
 exact store_ok I1 hN hi hx r1 (fun s2 I2=>⟨_,H1,I2,q1⟩) hf
def tAug (i:Nat)(te:TE)(ti:TIp):TS:=fun D σ H=>∃x,σ[i]? = some (some x)/\te σ H fun y H1=>ti x y H1 fun z H2=>D.nx (σ.set i (some z)) H2
theorem ps_aug {i:Nat}{x:Str}{e:Expr}{te:TE}{op:Operator}{ti:TIp}{pos':Pos}(hN:X.N.Nodup)(hi:X.N[i]? = some x)(hx:Loc X.env.scope x)(he:PE X e te)(ho:PIp X op ti)(hf:X.fn x=true\/X.env.scope.names.lookup x=some .local:=by first | exact .inl rfl | exact .inr rfl | assumption):
  PS X (.AugAssign (.Name x pos') op e pos) (tAug i te ti):=by
 intro pins s σ H D I h
 obtain ⟨v,e1,h⟩:=h
 obtain ⟨m,hn,hl⟩:=I.loc
 have vis:Vis X.env.scope x:=by rcases hx with k | k;exact .inl k;exact .inr (.inl k)
 obtain ⟨u,r,l⟩:=hl i x v hi e1 vis
 refine wpAny_AugAssign_Name ?_
 have go:wpAny (model X.prog X.w) X.A (eval e X.env) (fun w s₂=>wpAny (model X.prog X.w) X.A (inplaceOp op u w) (fun r s₃=>wpAny (model X.prog X.w) X.A (storeName X.env x r) (fun _=>SP X pins D .next) X.xe s₃) X.xe s₂) X.xe s:=by
  refine thn (he pins s σ H _ I h) fun w s1 h_=>?_
  obtain ⟨y,H1,I1,r1,q1⟩:=h_
  refine thn (ho pins s1 σ H1 v y u w _ I1 r r1 q1) fun z s2 h_=>?_
  obtain ⟨zv,H2,I2,r2,q2⟩:=h_
  exact store_ok I2 hN hi hx r2 (fun s3 I3=>⟨_,H2,I3,q2⟩) hf
 rcases l with ⟨hk,hm⟩ | ⟨hk,c,hc,hcell⟩
 ·exact wpAny_loadName_local I.ok.kind hk hn hm go
 ·rcases hk with hk | hk
  ·exact wpAny_loadName_cell I.ok.kind hk hc hcell go
  ·rcases hx with k | k
   ·have:X.env.scope.names.lookup x=some .free:=hk
    rw[k] at this;cases this
   ·have:X.env.scope.names.lookup x=some .free:=hk
    rw[k] at this;cases this
end
structure It where
 go:Nat->Hp->Prop
 yld:Nat->Hp->V->Hp->Prop
 stop:Nat->Hp->Prop
def FpOk (X:Cx)(pins:List (Addr×Obj))(H:Hp)(b:Addr):Prop:=
 H b=none/\b≠X.env.locals/\b∉X.fs/\(b∈X.ex\/X.s₀.heap.objs.size<=b)/\(∀x c,X.env.cells.lookup x=some c->c≠b)/\∀p∈X.pn++pins,p.1≠b
theorem Inv.fpOk {X:Cx}{pins:List (Addr×Obj)}{σ:St}{H H':Hp}{s:Shared}{b:Addr}(I:Inv X pins σ H s)(hb:s.heap.objs.size<=b)(hn:H' b=none):FpOk X pins H' b:=by
 refine ⟨hn,Ws (Yv I.lt hb),I.nofs hb,.inr (YB I.sz hb),fun x c e z=>?_,fun p hp z=>?_⟩
 ·obtain ⟨v,q⟩:=I.cell x c e
  exact absurd (Yv q.lt (by rw[z];exact hb)) (Xs _)
 ·exact absurd (Yv (Yq (I.pin p hp).1) (by rw[z];exact hb)) (Xs _)
structure Turn (P:Yo)(w:World)(K:W.Frag)(tg:Expr)(J:It)(fp:List Addr)(it:Addr)(tn:Nat->Heap->Prop):Prop where
 mem:it∈fp
 obj:∀i h,tn i h->∀b∈fp,∃o,h.get? b=some o/\∀v,o.data≠.cell v
 keep:∀i h h',tn i h->(∀b∈fp,∀o,h.get? b=some o->h'.get? b=some o)->tn i h'
 item:∀(X:Cx),X.prog=P->X.w=w->X.K=K->X.calm=true->∀(i:Nat) (pins:List (Addr×Obj)) (s:Shared) (σ:St) (H:Hp) (E:Value->Shared->Prop),Inv X pins σ H s->(∀b∈fp,FpOk X pins H b)->tn i s.heap->J.go i H->
  wpAny (model P w) X.A (pyNext (.ref it)) (fun r s1=>∃u,r=some u/\
   wpAny (model P w) X.A (WH tg (.ref it) u) (fun _ s2=>∃x H',Inv X pins σ H' s2/\RelV x u/\J.yld i H x H'/\tn (i + 1) s2.heap/\∀b∈fp,H' b=none) E s1) E s
 done:∀(X:Cx),X.prog=P->X.w=w->X.K=K->X.calm=true->∀(i:Nat) (pins:List (Addr×Obj)) (s:Shared) (σ:St) (H:Hp) (E:Value->Shared->Prop),Inv X pins σ H s->(∀b∈fp,FpOk X pins H b)->tn i s.heap->J.stop i H->
  wpAny (model P w) X.A (pyNext (.ref it)) (fun r s1=>r=none/\Inv X pins σ H s1) E s
 self:∀(A:Around) (i:Nat) (s:Shared) (Q:Value->Shared->Prop) (E:Value->Shared->Prop),tn i s.heap->Q (.ref it) s->wpAny (model P w) A (pyIter (.ref it)) Q E s
abbrev TI:=St->Hp->(It->Hp->Prop)->Prop
def PIE (X:Cx)(pins:List (Addr×Obj))(σ:St)(tg:Expr)(R:It->Hp->Prop)(itv:Value)(s2:Shared):Prop:=
 ∃(it:Addr) (fp:List Addr) (tn:Nat->Heap->Prop) (J:It) (H':Hp),itv=.ref it/\Inv X pins σ H' s2/\Turn X.prog X.w X.K tg J fp it tn/\tn 0 s2.heap/\(∀b∈fp,FpOk X pins H' b)/\R J H'
def PI (X:Cx)(tg iter:Expr)(wi:TI):Prop:=
 ∀(pins:List (Addr×Obj)) (s:Shared) (σ:St) (H:Hp) (R:It->Hp->Prop),Inv X pins σ H s->wi σ H R->
  wpAny (model X.prog X.w) X.A (eval iter X.env) (fun v s1=>wpAny (model X.prog X.w) X.A (pyIter v) (PIE X pins σ tg R) X.xe s1) X.xe s
theorem go_of {M:Model}{A:Around}{E:Value->Shared->Prop}{s:Shared}{tg:Expr}{it:Addr}{u:Value}{o:Obj}{n:String}{vs:Array Value}{Q:Unit->Shared->Prop}(ho:s.heap.get? it=some o)(hc:o.cls=.type n)(hd:o.data=.fields vs)
    (hn:["enumerate","zip","dict_itemiterator","dict_reverseitemiterator","odict_iterator","itertools.zip_longest","itertools.pairwise"].contains n=false) (hQ:Q () s):wpAny M A (WH tg (.ref it) u) Q E s:=by
  unfold WH
  cases tg<;>first
    | exact Yk hQ
    | (cases u<;>first
        | exact Yk hQ
        | (refine Yc (wpAny_load ho ?_)
           rw[hc,hd]
           show wpAny M A (if (["enumerate","zip","dict_itemiterator","dict_reverseitemiterator","odict_iterator","itertools.zip_longest","itertools.pairwise"].contains n&&vs[0]?==some (rawInt _))=true then _ else _) Q E s
           rw[if_neg (by intro h;rw[hn,Bool.false_and] at h;cases h)]
           exact Yk hQ))
def Itl (K:W.Frag)(a:Addr):It:=
 ⟨fun i H=>∃xs x,SqL K H a xs/\xs[i]? = some x,fun i H x H'=>H'=H/\∀xs,SqL K H a xs->xs[i]? = some x,fun i H=>∃xs,SqL K H a xs/\xs.length<=i⟩
def Itt (K:W.Frag)(a:Addr):It:=
 ⟨fun i H=>∃xs x,SqT K H a xs/\xs[i]? = some x,fun i H x H'=>H'=H/\∀xs,SqT K H a xs->xs[i]? = some x,fun i H=>∃xs,SqT K H a xs/\xs.length<=i⟩
def Itr (lo:Int)(n:Nat):It:=⟨fun i _=>i < n,fun i H x H'=>H'=H/\x=.int (lo + i),fun i _=>n<=i⟩
theorem turn_list {P:Yo}{w:World}{K:W.Frag}{tg:Expr}(a it:Addr):Turn P w K tg (Itl K a) [it] it (fun i h=>h.IsListIter it a i) where
 mem:=by simp
 obj:=fun i h st b hb=>by
  have e:b=it:=by simpa using hb
  subst e
  obtain ⟨o,e,c,d⟩:=st
  exact ⟨o,e,fun v z=>by rw[d] at z;cases z⟩
 keep:=fun i h h' st k=>st.at fun o e=>k it (by simp) o e
 item:=by
  intro X hP hw hK hc i pins s σ H E I hf st hg
  subst hP hw hK
  obtain ⟨xs,x,hq,hx⟩:=hg
  obtain ⟨its,rv,p,hz⟩:=I.list hq
  obtain ⟨u,hu,ru⟩:=rv.get hx
  obtain ⟨f0,f1,f2,f3,f4,f5⟩:=hf it (by simp)
  refine wpAny_pyNext_list_item st p.isList (x:=u) (by simpa using hu) fun h' st' sb=>?_
  have I1:Inv X pins σ H { s with heap:=h' }:=I.turned (t':=s.toks) (fun b o hb e=>(sb.2 b hb).trans e) f0 f1 f3 f4 f5
  obtain ⟨o,e,c,d⟩:=id st'
  exact ⟨u,rfl,go_of (s:={ s with heap:=h' }) e c d (by decide) ⟨x,H,I1,ru,⟨rfl,fun ys hy=>by rw[I.list_inj hy hq];exact hx⟩,st',fun b hb=>(hf b hb).1⟩⟩
 done:=by
  intro X hP hw hK hc i pins s σ H E I hf st hg
  subst hP hw hK
  obtain ⟨xs,hq,hx⟩:=hg
  obtain ⟨its,rv,p,hz⟩:=I.list hq
  obtain ⟨f0,f1,f2,f3,f4,f5⟩:=hf it (by simp)
  have hl:=rv.length
  exact wpAny_pyNext_list_end (I.ok.hd hc) st p.isList (by simp;lia) fun h' eb=>⟨rfl,I.turned (t':=s.toks) (fun b o hb e=>eb b o hb e) f0 f1 f3 f4 f5⟩
 self:=fun _ _ _ _ _ st h=>wpAny_pyIter_listiter st h
theorem turn_tuple {P:Yo}{w:World}{K:W.Frag}{tg:Expr}(a it:Addr):Turn P w K tg (Itt K a) [it] it (fun i h=>h.IsTupleIter it a i) where
 mem:=by simp
 obj:=fun i h st b hb=>by
  have e:b=it:=by simpa using hb
  subst e
  obtain ⟨o,e,c,d⟩:=st
  exact ⟨o,e,fun v z=>by rw[d] at z;cases z⟩
 keep:=fun i h h' st k=>st.at fun o e=>k it (by simp) o e
 item:=by
  intro X hP hw hK hc i pins s σ H E I hf st hg
  subst hP hw hK
  obtain ⟨xs,x,hq,hx⟩:=hg
  obtain ⟨its,rv,p,hz⟩:=I.tuple hq
  obtain ⟨u,hu,ru⟩:=rv.get hx
  obtain ⟨f0,f1,f2,f3,f4,f5⟩:=hf it (by simp)
  refine wpAny_pyNext_tuple_item st (show s.heap.IsTuple a its.toArray from p) (x:=u) (by simpa using hu) fun h' st' sb=>?_
  have I1:Inv X pins σ H { s with heap:=h' }:=I.turned (t':=s.toks) (fun b o hb e=>(sb.2 b hb).trans e) f0 f1 f3 f4 f5
  obtain ⟨o,e,c,d⟩:=id st'
  exact ⟨u,rfl,go_of (s:={ s with heap:=h' }) e c d (by decide) ⟨x,H,I1,ru,⟨rfl,fun ys hy=>by rw[I.tuple_inj hy hq];exact hx⟩,st',fun b hb=>(hf b hb).1⟩⟩
 done:=by
  intro X hP hw hK hc i pins s σ H E I hf st hg
  subst hP hw hK
  obtain ⟨xs,hq,hx⟩:=hg
  obtain ⟨its,rv,p,hz⟩:=I.tuple hq
  obtain ⟨f0,f1,f2,f3,f4,f5⟩:=hf it (by simp)
  have hl:=rv.length
  exact wpAny_pyNext_tuple_end (I.ok.hd hc) st (show s.heap.IsTuple a its.toArray from p) (by simp;lia) fun h' eb=>⟨rfl,I.turned (t':=s.toks) (fun b o hb e=>eb b o hb e) f0 f1 f3 f4 f5⟩
 self:=fun _ _ _ _ _ st h=>wpAny_pyIter_tupleiter st h
theorem turn_range {P:Yo}{w:World}{K:W.Frag}{tg:Expr}(it:Addr)(lo:Int)(n:Nat):Turn P w K tg (Itr lo n) [it] it (fun i h=>IsRangeIter h it (lo + (i:Nat) * 1) ((n:Int) - (i:Nat)) 1) where
 mem:=by simp
 obj:=fun i h st b hb=>by
  have e:b=it:=by simpa using hb
  subst e
  exact ⟨_,st,fun v z=>by
   have z':Data.fields _=Data.cell v:=z
   cases z'⟩
 keep:=fun i h h' st k=>k it (by simp) _ st
 item:=by
  intro X hP hw hK hc i pins s σ H E I hf st hg
  subst hP hw hK
  obtain ⟨f0,f1,f2,f3,f4,f5⟩:=hf it (by simp)
  have W:=Walks.range (prog:=X.prog) (w:=X.w) (I.ok.hd hc) it lo 1 n
  refine W.item i s _ _ hg st fun v h' tk hv st' kk=>?_
  obtain ⟨t,rfl⟩:=hv
  have I1:Inv X pins σ H { s with heap:=h',toks:=tk }:=I.turned (fun b o hb e=>kk b o (by simpa using hb) e) f0 f1 f3 f4 f5
  refine ⟨_,rfl,go_of (s:={ s with heap:=h',toks:=tk }) (n:="range_iterator") st' rfl rfl (by decide) ⟨.int (lo + i),H,I1,⟨t,?_⟩,⟨rfl,rfl⟩,st',fun b hb=>(hf b hb).1⟩⟩
  rw[Int.mul_one]
 done:=by
  intro X hP hw hK hc i pins s σ H E I hf st hg
  subst hP hw hK
  obtain ⟨f0,f1,f2,f3,f4,f5⟩:=hf it (by simp)
  exact wpAny_pyNext_range_end (I.ok.hd hc) st (by have:n<=i:=hg;lia) fun h' eb=>⟨rfl,I.turned (t':=s.toks) (fun b o hb e=>eb b o hb e) f0 f1 f3 f4 f5⟩
 self:=fun _ _ _ _ _ st h=>wpAny_pyIter_rangeiter st h
section
variable {X:Cx}{tg:Expr}
theorem range_it {pins:List (Addr×Obj)}{σ:St}{H:Hp}{s:Shared}{R:It->Hp->Prop}{E:Value->Shared->Prop}{lo hi:Int}{t u v:Tok}{tk:Nat}(I:Inv X pins σ H s)(h1:-(2 ^ 62)<=lo)(h2:lo < 2 ^ 62)(h3:-(2 ^ 62)<=hi)(h4:hi < 2 ^ 62)
  (q:R (Itr lo (hi - lo).toNat) H):wpAny (model X.prog X.w) X.A (pyIter (.ref s.heap.objs.size)) (PIE X pins σ tg R) E { s with heap:=s.heap.push { cls:=.type "range",data:=.fields #[.int lo t,.int hi u,.int 1 v] },toks:=tk }:=by
 refine wpAny_pyIter_range (IsRange.new ..) (small_one h1 h2 h3 h4) ?_
 have I1:Inv X pins σ H { s with heap:=s.heap.push { cls:=.type "range",data:=.fields #[.int lo t,.int hi u,.int 1 v] },toks:=tk }:=I.kept fun b o e=>Yb _ e
 refine ⟨(s.heap.push { cls:=.type "range",data:=.fields #[.int lo t,.int hi u,.int 1 v] }).objs.size,[(s.heap.push { cls:=.type "range",data:=.fields #[.int lo t,.int hi u,.int 1 v] }).objs.size],_,_,H,rfl,
  I1.kept (t':=tk) fun b o e=>Yb _ e,turn_range _ lo (hi - lo).toNat,?_,fun b hb=>?_,q⟩
 ·have e1:lo + ((0:Nat):Int) * 1=lo:=by simp
  have e2:(((hi - lo).toNat:Nat):Int) - ((0:Nat):Int)=Builtin.Range.rangeSize lo hi 1:=by rw[rangeSize_one];split<;>lia
  show IsRangeIter _ _ (lo + ((0:Nat):Int) * 1) ((((hi - lo).toNat:Nat):Int) - ((0:Nat):Int)) 1
  rw[e1,e2]
  exact Yh _ rfl
 ·have e:b=(s.heap.push { cls:=.type "range",data:=.fields #[.int lo t,.int hi u,.int 1 v] }).objs.size:=by simpa using hb
  subst e
  exact I1.fpOk (Yx _) (I1.hok.fresh (Yx _))
def iRng1 (ta:TA):TI:=fun σ H R=>ta σ H fun vs H1=>∃j:Int,vs=[.int j]/\-(2 ^ 62)<=j/\j < 2 ^ 62/\R (Itr 0 j.toNat) H1
theorem pi_range1 {a:Expr}{ta:TA}{p pos:Pos}(hg:Gl X "range")(hm:X.mg "range"=none)(ha:PA X [a] ta)(hs:Yg [a] X.env=[(false,eval a X.env)]:=by rfl):PI X tg (.Call (.Name "range" p) [a] [] pos) (iRng1 ta):=by
 intro pins s σ H R I h
 refine Call_ (Zc1 I hg hm boot_range (Xm (thn (ha pos pins s σ H _ I h) fun us s1 ⟨vs,H1,I1,r1,q1⟩=>?_) hs rfl))
 obtain ⟨j,e,q1,q2,q⟩:=q1
 subst e
 cases r1 with
 | cons r rr=>
  cases rr
  obtain ⟨t,rfl⟩:=r
  exact call_range_1 (range_it I1 (by lia) (by lia) q1 q2 (by simpa using q))
def tFor (wi:TI)(g:TG)(tb:TS):TS:=fun D σ H=>wi σ H fun J H1=>∃W:Nat->Nat->St->Hp->Prop,(∃m,W 0 m σ H1)/\∀i m σ H,W i m σ H->
 (J.stop i H/\D.nx σ H)\/(J.go i H/\∃N:St->Hp->Prop,(∀σ' H',N σ' H'->∃m',m' < m/\W (i + 1) m' σ' H')/\∀x H',J.yld i H x H'->g x σ H' fun σ2 H2=>tb { D with nx:=N,ct:=N,bk:=D.nx } σ2 H2)
def pinsAt (fp:List Addr)(h:Heap):List (Addr×Obj):=fp.filterMap fun b=>(h.get? b).map fun o=>(b,o)
theorem ZbL {fp:List Addr}{h:Heap}{b:Addr}{o:Obj}(hb:b∈fp)(e:h.get? b=some o):(b,o)∈pinsAt fp h:=List.mem_filterMap.mpr ⟨b,hb,by rw[e];rfl⟩
theorem of_pinsAt {fp:List Addr}{h:Heap}{p:Addr×Obj}(hp:p∈pinsAt fp h):p.1∈fp/\h.get? p.1=some p.2:=by
 obtain ⟨b,hb,e⟩:=List.mem_filterMap.mp hp
 cases q:h.get? b with
 | none=>rw[q] at e;cases e
 | some o=>
  rw[q] at e
  have e':(b,o)=p:=Yz e
  subst e'
  exact ⟨hb,q⟩
theorem Inv.pinned {pins:List (Addr×Obj)}{σ:St}{H:Hp}{s:Shared}{fp:List Addr}(I:Inv X pins σ H s)(hf:∀b∈fp,FpOk X pins H b)(ho:∀b∈fp,∃o,s.heap.get? b=some o/\∀v,o.data≠.cell v):Inv X (pins++pinsAt fp s.heap) σ H s:=
 I.pins_of fun p hp=>(Y8.mp hp).elim (fun z=>I.pin p (YL _ z)) fun z=>by
  obtain ⟨hb,e⟩:=of_pinsAt z
  obtain ⟨f0,f1,f2,_⟩:=hf p.1 hb
  obtain ⟨o,e',d⟩:=ho p.1 hb
  rw[e] at e';cases e'
  exact ⟨e,f0,f1,f2,d⟩
theorem Inv.unpinned {pins pl:List (Addr×Obj)}{σ:St}{H:Hp}{s:Shared}(I:Inv X (pins++pl) σ H s):Inv X pins σ H s:=I.pins_of fun p hp=>I.pin p (YL _ (Xb _ hp))
theorem ps_for {iter:Expr}{body:List Stmt}{wi:TI}{g:TG}{tb:TS}{pos:Pos}(hp:PassesOwn (model X.prog X.w) X.A X.env X.xe)(hc:X.calm=true)(hi:PI X tg iter wi)(hg:PG X tg g)(hb:PSs X body tb)
  (hs:∀x,W2 iter X.env x=pure x:=by intro _;rfl):PS X (.For tg iter body [] pos) (tFor wi g tb):=by
 intro pins s σ H D I h
 refine wpAny_For (thn (hi pins s σ H _ I h) fun v s1 h1=>thn h1 fun itv s2 h2=>?_) hs
 obtain ⟨it,fp,tn,J,H2,e,I2,T,st2,f2,W,⟨m0,w0⟩,turn⟩:=h2
 subst e
 have stat:∀{H':Hp},(∀b∈fp,H' b=none)->∀b∈fp,FpOk X pins H' b:=fun hn b hb=>⟨hn b hb,(f2 b hb).2⟩
 refine codeAny_forLoop_any (fun n s'=>∃i σ' H',Inv X pins σ' H' s'/\tn i s'.heap/\(∀b∈fp,H' b=none)/\W i n σ' H') ?_ m0 ⟨0,σ,H2,I2,st2,fun b hb=>(f2 b hb).1,w0⟩
 rintro n s3 ⟨i,σ3,H3,I3,st3,fr3,w3⟩
 rcases turn i n σ3 H3 w3 with ⟨stop,qn⟩ | ⟨go,N,hN,step⟩
 ·refine WI hp (thn (T.done X rfl rfl rfl hc i pins s3 σ3 H3 X.xe I3 (stat fr3) st3 stop) fun r s4 h_=>?_)
  obtain ⟨hr,I4⟩:=h_
  subst hr
  exact VP ⟨σ3,H3,I4,qn⟩
 ·refine WI hp (thn (T.item X rfl rfl rfl hc i pins s3 σ3 H3 X.xe I3 (stat fr3) st3 go) fun r s4 h_=>?_)
  obtain ⟨u,hr,h4⟩:=h_
  subst hr
  refine WI hp (thn h4 fun _ s5 h_=>?_)
  obtain ⟨x,H5,I5,r5,y5,st5,fr5⟩:=h_
  have I5':=I5.pinned (stat fr5) (T.obj _ _ st5)
  refine WI hp (thn (hg _ s5 σ3 H5 x u _ I5' r5 (step x H5 y5)) fun _ s6 h_=>?_)
  obtain ⟨σ6,H6,I6,q6⟩:=h_
  refine WI hp (thn (hb _ s6 σ6 H6 _ I6 q6) fun f s7 q7=>?_)
  have again:∀{σ7:St} {H7:Hp},Inv X (pins++pinsAt fp s5.heap) σ7 H7 s7->N σ7 H7->∃m,m < n/\∃i σ' H',Inv X pins σ' H' s7/\tn i s7.heap/\(∀b∈fp,H' b=none)/\W i m σ' H':=fun {σ7 H7} I7 n7=>by
   obtain ⟨m',hm,w7⟩:=hN σ7 H7 n7
   refine ⟨m',hm,i + 1,σ7,H7,I7.unpinned,T.keep _ _ _ st5 fun b hb o e=>(I7.pin (b,o) (YL _ (YL _ (ZbL hb e)))).1,fun b hb=>?_,w7⟩
   obtain ⟨o,e,d⟩:=T.obj _ _ st5 b hb
   exact (I7.pin (b,o) (YL _ (YL _ (ZbL hb e)))).2.1
  cases f with
  | next=>obtain ⟨σ7,H7,I7,n7⟩:=q7;exact again I7 n7
  | cont=>obtain ⟨σ7,H7,I7,n7⟩:=q7;exact again I7 n7
  | brk=>obtain ⟨σ7,H7,I7,q7⟩:=q7;exact ⟨σ7,H7,I7.unpinned,q7⟩
  | ret v=>obtain ⟨x7,σ7,H7,I7,r7,q7⟩:=q7;exact ⟨x7,σ7,H7,I7.unpinned,r7,q7⟩
end
abbrev R2:=V->V->Hp->VK->Prop
def OpR (X:Cx)(f:Value->Value->Sem Value)(r:R2):Prop:=
 ∀(pins:List (Addr×Obj)) (s:Shared) (σ:St) (H:Hp) (x y:V) (v u:Value) (Q:VK),Inv X pins σ H s->RelV x v->RelV y u->r x y H Q->
  wpAny (model X.prog X.w) X.A (f v u) (EP X pins σ Q) X.xe s
def UnR (X:Cx)(f:Value->Sem Value)(r:V->Hp->VK->Prop):Prop:=
 ∀(pins:List (Addr×Obj)) (s:Shared) (σ:St) (H:Hp) (x:V) (v:Value) (Q:VK),Inv X pins σ H s->RelV x v->r x H Q->
  wpAny (model X.prog X.w) X.A (f v) (EP X pins σ Q) X.xe s
def CallR (X:Cx)(f:Value)(r:List V->Hp->VK->Prop):Prop:=
 ∀(pins:List (Addr×Obj)) (s:Shared) (σ:St) (H:Hp) (xs:List V) (us:List Value) (Q:VK),Inv X pins σ H s->Vals xs us->r xs H Q->
  wpAny (model X.prog X.w) X.A (call f us) (EP X pins σ Q) X.xe s
def TruR (X:Cx)(r:V->Hp->(Bool->Hp->Prop)->Prop):Prop:=
 ∀(pins:List (Addr×Obj)) (s:Shared) (σ:St) (H:Hp) (x:V) (v:Value) (Q:Bool->Hp->Prop),Inv X pins σ H s->RelV x v->r x H Q->
  wpAny (model X.prog X.w) X.A (truthy v) (TP X pins σ Q) X.xe s
def tOp (r:R2)(ta tb:TE):TE:=fun σ H Q=>ta σ H fun x H1=>tb σ H1 fun y H2=>r x y H2 Q
def tUn (r:V->Hp->VK->Prop)(ta:TE):TE:=fun σ H Q=>ta σ H fun x H1=>r x H1 Q
def rI (C:Int->Int->Prop)(g:Int->Int->V):R2:=fun x y H Q=>∃i j,x=.int i/\y=.int j/\C i j/\Q (g i j) H
def rI0 (g:Int->Int->V):R2:=fun x y H Q=>∃i j,x=.int i/\y=.int j/\Q (g i j) H
def rU (g:Int->V):V->Hp->VK->Prop:=fun x H Q=>∃i,x=.int i/\Q (g i) H
section
variable {X:Cx}{a b c:Expr}{ta tb tc:TE}{pos:Pos}
theorem binT (ha:PE X a ta)(hb:PE X b tb){pins:List (Addr×Obj)}{s:Shared}{σ:St}{H:Hp}{R:V->V->Hp->Prop}(I:Inv X pins σ H s)
  (h:ta σ H fun x H1=>tb σ H1 fun y H2=>R x y H2) {Q:Value->Shared->Prop} {f:Value->Value->Sem Value}
  (hf:∀v u s2 x y H2,Inv X pins σ H2 s2->RelV x v->RelV y u->R x y H2->wpAny (model X.prog X.w) X.A (f v u) Q X.xe s2):
  wpAny (model X.prog X.w) X.A (eval a X.env) (fun v s₁=>wpAny (model X.prog X.w) X.A (eval b X.env) (fun u s₂=>wpAny (model X.prog X.w) X.A (f v u) Q X.xe s₂) X.xe s₁) X.xe s:=by
 refine thn (ha pins s σ H _ I h) fun v s1 h_=>?_
 obtain ⟨x,H1,I1,r1,q1⟩:=h_
 refine thn (hb pins s1 σ H1 _ I1 q1) fun u s2 h_=>?_
 obtain ⟨y,H2,I2,r2,q2⟩:=h_
 exact hf v u s2 x y H2 I2 r1 r2 q2
theorem pe_op {op:Operator}{r:R2}(ho:OpR X (X6 op) r)(ha:PE X a ta)(hb:PE X b tb):PE X (.BinOp a op b pos) (tOp r ta tb):=by
 intro pins s σ H Q I h
 exact wpAny_BinOp (binT ha hb I h fun v u s2 x y H2 I2 rx ry q=>ho pins s2 σ H2 x y v u Q I2 rx ry q)
theorem pe_un {op:UnaryOp}{r:V->Hp->VK->Prop}(ho:UnR X (unaryOp op) r)(ha:PE X a ta):PE X (.UnaryOp op a pos) (tUn r ta):=by
 intro pins s σ H Q I h
 exact UnaryOp_ (thn (ha pins s σ H _ I h) fun v s1 ⟨x,H1,I1,r1,q1⟩=>ho pins s1 σ H1 x v Q I1 r1 q1)
theorem opI {f:Value->Value->Sem Value}{C:Int->Int->Prop}{g:Int->Int->Int}
  (rule:∀(i j:Int) (t u:Tok) (s:Shared) (Q:Value->Shared->Prop) (E:Value->Shared->Prop),C i j->Q (.int (g i j) s.toks) { s with toks:=s.toks + 1 }->wpAny (model X.prog X.w) X.A (f (.int i t) (.int j u)) Q E s):
  OpR X f (rI C fun i j=>.int (g i j)):=by
 intro pins s σ H x y v u Q I rx ry h
 obtain ⟨i,j,rfl,rfl,hc,q⟩:=h
 obtain ⟨t,rfl⟩:=rx
 obtain ⟨t',rfl⟩:=ry
 exact rule i j t t' s _ _ hc ⟨.int (g i j),H,I.tok _,⟨_,rfl⟩,q⟩
theorem opI0 {f:Value->Value->Sem Value}{g:Int->Int->Int}
  (rule:∀(i j:Int) (t u:Tok) (s:Shared) (Q:Value->Shared->Prop) (E:Value->Shared->Prop),Q (.int (g i j) s.toks) { s with toks:=s.toks + 1 }->wpAny (model X.prog X.w) X.A (f (.int i t) (.int j u)) Q E s):
  OpR X f (rI0 fun i j=>.int (g i j)):=by
 intro pins s σ H x y v u Q I rx ry h
 obtain ⟨i,j,rfl,rfl,q⟩:=h
 obtain ⟨t,rfl⟩:=rx
 obtain ⟨t',rfl⟩:=ry
 exact rule i j t t' s _ _ ⟨.int (g i j),H,I.tok _,⟨_,rfl⟩,q⟩
theorem opB0 {f:Value->Value->Sem Value}{g:Int->Int->Bool}
  (rule:∀(i j:Int) (t u:Tok) (s:Shared) (Q:Value->Shared->Prop) (E:Value->Shared->Prop),Q (.bool (g i j)) s->wpAny (model X.prog X.w) X.A (f (.int i t) (.int j u)) Q E s):
  OpR X f (rI0 fun i j=>.bl (g i j)):=by
 intro pins s σ H x y v u Q I rx ry h
 obtain ⟨i,j,rfl,rfl,q⟩:=h
 obtain ⟨t,rfl⟩:=rx
 obtain ⟨t',rfl⟩:=ry
 exact rule i j t t' s _ _ ⟨.bl (g i j),H,I,rfl,q⟩
def CPow (i j:Int):Prop:=0<=j/\j<=1000000/\i.natAbs < 2 ^ 64
def CMul (i j:Int):Prop:=(-(2 ^ 64) < i/\i < 2 ^ 64)\/(-(2 ^ 64) < j/\j < 2 ^ 64)
theorem CMul.ok {i j:Int}(h:CMul i j):IntMulOk i j:=by
 rcases h with ⟨h1,h2⟩ | ⟨h1,h2⟩
 ·exact .of_left (intBits_le_64 h1 h2)
 ·exact .of_right (intBits_le_64 h1 h2)
theorem op_add:OpR X (X6 .Add) (rI0 fun i j=>.int (i + j)):=opI0 fun _ _ _ _ _ _ _ q=>add_int q
theorem op_sub:OpR X (X6 .Sub) (rI0 fun i j=>.int (i - j)):=opI0 fun _ _ _ _ _ _ _ q=>sub_int q
theorem op_mul:OpR X (X6 .Mult) (rI CMul fun i j=>.int (i * j)):=opI fun _ _ _ _ _ _ _ hc q=>mul_int q hc.ok
theorem op_mod:OpR X (X6 .Mod) (rI (fun _ j=>0 < j) fun i j=>.int (i % j)):=opI fun i j _ _ _ _ _ hc q=>by
 have h1:(0:Int) < j:=hc
 exact mod_int' (by lia) (by rw[Int.fmod_eq_emod_of_nonneg i (by lia)];exact q)
theorem op_pow:OpR X (X6 .Pow) (rI CPow fun i j=>.int (i ^ j.toNat)):=opI fun _ _ _ _ _ _ _ hc q=>pow_int_small hc.1 hc.2.1 hc.2.2 q
theorem unI {f:Value->Sem Value}{g:Int->Int}
  (rule:∀(i:Int) (t:Tok) (s:Shared) (Q:Value->Shared->Prop) (E:Value->Shared->Prop),Q (.int (g i) s.toks) { s with toks:=s.toks + 1 }->wpAny (model X.prog X.w) X.A (f (.int i t)) Q E s):
  UnR X f (rU fun i=>.int (g i)):=by
 intro pins s σ H x v Q I rx h
 obtain ⟨i,rfl,q⟩:=h
 obtain ⟨t,rfl⟩:=rx
 exact rule i t s _ _ ⟨.int (g i),H,I.tok _,⟨_,rfl⟩,q⟩
theorem un_neg:UnR X (unaryOp .USub) (rU fun i=>.int (-i)):=unI fun _ _ _ _ _ q=>neg_int q
end
def scal:V->V->Bool
 | .non,.non=>true | .non,.int _=>true | .int _,.non=>true | .non,.bl _=>true | .bl _,.non=>true | .non,.str _=>true | .str _,.non=>true
 | .int _,.int _=>true | .bl _,.bl _=>true | .str _,.str _=>true | .byt _,.byt _=>true
 | .int _,.str _=>true | .str _,.int _=>true | .bl _,.str _=>true | .str _,.bl _=>true
 | _,_=>false
def rEq:R2:=fun x y H Q=>scal x y=true/\Q (.bl (decide (x=y))) H
def rNe:R2:=fun x y H Q=>scal x y=true/\Q (.bl (!decide (x=y))) H
theorem dec_int {i j:Int}:decide (V.int i=V.int j)=(i==j):=by
 rw[WJ]
 simp
theorem dec_bl {i j:Bool}:decide (V.bl i=V.bl j)=(i==j):=by
 rw[WJ]
 simp
theorem dec_str {i j:Str}:decide (V.str i=V.str j)=(i==j):=by
 rw[WJ]
 simp
theorem dec_byt {i j:Array UInt8}:decide (V.byt i=V.byt j)=(i.toList==j.toList):=by
 rw[WJ]
 cases i
 cases j
 simp
section
variable {X:Cx}{a b c:Expr}{ta tb tc:TE}{pos:Pos}
theorem ZaL {pins:List (Addr×Obj)}{σ:St}{H:Hp}{s:Shared}{Q:VK}{k k':Bool}(I:Inv X pins σ H s)(q:Q (.bl k) H)(e:k=k'):EP X pins σ Q (.bool k') s:=by
 subst e
 exact ⟨.bl k,H,I,rfl,q⟩
theorem Zbj:OpR X (YZ .Eq) rEq:=by
 intro pins s σ H x y v u Q I rx ry h
 obtain ⟨hs,q⟩:=h
 cases x with
 | non=>
  cases rx
  cases y with
  | non=>cases ry;exact PySem.EqNone.eq_none_none (ZaL I q (by simp))
  | bl j=>cases ry;exact PySem.EqNone.eq_none_bool (ZaL I q (by simp))
  | int j=>obtain ⟨t',rfl⟩:=ry;exact PySem.EqNone.eq_none_int (ZaL I q (by simp))
  | str j=>obtain ⟨t',rfl⟩:=ry;exact PySem.EqNone.eq_none_str (ZaL I q (by simp))
  | _=>exact absurd (show false=true from hs) Yi
 | bl i=>
  cases rx
  cases y with
  | non=>cases ry;exact PySem.EqNone.eq_bool_none (ZaL I q (by simp))
  | bl j=>cases ry;exact eq_bool (ZaL I q dec_bl)
  | str j=>obtain ⟨t',rfl⟩:=ry;exact PySem.EqMixed.eq_bool_str (ZaL I q (by simp))
  | _=>exact absurd (show false=true from hs) Yi
 | int i=>
  obtain ⟨t,rfl⟩:=rx
  cases y with
  | non=>cases ry;exact PySem.EqNone.eq_int_none (ZaL I q (by simp))
  | int j=>obtain ⟨t',rfl⟩:=ry;exact eq_int (ZaL I q dec_int)
  | str j=>obtain ⟨t',rfl⟩:=ry;exact PySem.EqMixed.eq_int_str (ZaL I q (by simp))
  | _=>exact absurd (show false=true from hs) Yi
 | str i=>
  obtain ⟨t,rfl⟩:=rx
  cases y with
  | non=>cases ry;exact PySem.EqNone.eq_str_none (ZaL I q (by simp))
  | bl j=>cases ry;exact PySem.EqMixed.eq_str_bool (ZaL I q (by simp))
  | int j=>obtain ⟨t',rfl⟩:=ry;exact PySem.EqMixed.eq_str_int (ZaL I q (by simp))
  | str j=>obtain ⟨t',rfl⟩:=ry;exact eq_str (ZaL I q dec_str)
  | _=>exact absurd (show false=true from hs) Yi
 | byt i=>
  obtain ⟨t,rfl⟩:=rx
  cases y with
  | byt j=>obtain ⟨t',rfl⟩:=ry;exact W.eq_bytes (ZaL I q dec_byt)
  | _=>exact absurd (show false=true from hs) Yi
 | _=>cases y<;>exact absurd (show false=true from hs) Yi
theorem op_ne:OpR X (YZ .NotEq) rNe:=by
 intro pins s σ H x y v u Q I rx ry h
 obtain ⟨hs,q⟩:=h
 cases x with
 | non=>
  cases rx
  cases y with
  | non=>cases ry;exact PySem.EqNone.ne_none_none (ZaL I q (by simp))
  | bl j=>cases ry;exact PySem.EqNone.ne_none_bool (ZaL I q (by simp))
  | int j=>obtain ⟨t',rfl⟩:=ry;exact PySem.EqNone.ne_none_int (ZaL I q (by simp))
  | str j=>obtain ⟨t',rfl⟩:=ry;exact PySem.EqNone.ne_none_str (ZaL I q (by simp))
  | _=>exact absurd (show false=true from hs) Yi
 | bl i=>
  cases rx
  cases y with
  | non=>cases ry;exact PySem.EqNone.ne_bool_none (ZaL I q (by simp))
  | bl j=>cases ry;exact ne_bool (ZaL I q (congrArg not dec_bl))
  | str j=>obtain ⟨t',rfl⟩:=ry;exact PySem.EqMixed.ne_bool_str (ZaL I q (by simp))
  | _=>exact absurd (show false=true from hs) Yi
 | int i=>
  obtain ⟨t,rfl⟩:=rx
  cases y with
  | non=>cases ry;exact PySem.EqNone.ne_int_none (ZaL I q (by simp))
  | int j=>obtain ⟨t',rfl⟩:=ry;exact ne_int (ZaL I q (congrArg not dec_int))
  | str j=>obtain ⟨t',rfl⟩:=ry;exact PySem.EqMixed.ne_int_str (ZaL I q (by simp))
  | _=>exact absurd (show false=true from hs) Yi
 | str i=>
  obtain ⟨t,rfl⟩:=rx
  cases y with
  | non=>cases ry;exact PySem.EqNone.ne_str_none (ZaL I q (by simp))
  | bl j=>cases ry;exact PySem.EqMixed.ne_str_bool (ZaL I q (by simp))
  | int j=>obtain ⟨t',rfl⟩:=ry;exact PySem.EqMixed.ne_str_int (ZaL I q (by simp))
  | str j=>obtain ⟨t',rfl⟩:=ry;exact ne_str (ZaL I q (congrArg not dec_str))
  | _=>exact absurd (show false=true from hs) Yi
 | byt i=>
  obtain ⟨t,rfl⟩:=rx
  cases y with
  | byt j=>obtain ⟨t',rfl⟩:=ry;exact W.ne_bytes (ZaL I q (congrArg not dec_byt))
  | _=>exact absurd (show false=true from hs) Yi
 | _=>cases y<;>exact absurd (show false=true from hs) Yi
theorem op_lt:OpR X (YZ .Lt) (rI0 fun i j=>.bl (decide (i < j))):=opB0 fun _ _ _ _ _ _ _ q=>lt_int q
theorem op_le:OpR X (YZ .LtE) (rI0 fun i j=>.bl (decide (i<=j))):=opB0 fun _ _ _ _ _ _ _ q=>le_int q
theorem op_gt:OpR X (YZ .Gt) (rI0 fun i j=>.bl (decide (j < i))):=opB0 fun _ _ _ _ _ _ _ q=>gt_int q
theorem op_ge:OpR X (YZ .GtE) (rI0 fun i j=>.bl (decide (j<=i))):=opB0 fun _ _ _ _ _ _ _ q=>ge_int q
theorem op_in_str:OpR X (YZ .In) (fun x y H Q=>∃i j,x=.str i/\y=.str j/\Q (.bl (!(X7 j i 0 j.length 1).isEmpty)) H):=by
 intro pins s σ H x y v u Q I rx ry h
 obtain ⟨i,j,rfl,rfl,q⟩:=h
 obtain ⟨t,rfl⟩:=rx
 obtain ⟨t',rfl⟩:=ry
 exact in_str (ZaL I q rfl)
theorem nomark (b:Expr){op:CmpOp}(h:op≠.In:=by decide)(h2:op≠.NotIn:=by decide):WK op b=false:=by
 have e1:(op==CmpOp.In)=false:=by cases op<;>first | rfl | exact absurd rfl h
 have e2:(op==CmpOp.NotIn)=false:=by cases op<;>first | rfl | exact absurd rfl h2
 cases b<;>simp[WK,e1,e2]
theorem pe_cmpR {op:CmpOp}{r:R2}(ho:OpR X (YZ op) r)(ha:PE X a ta)(hb:PE X b tb)(hm:WK op b=false):PE X (.Compare a [op] [b] pos) (tOp r ta tb):=by
 intro pins s σ H Q I h
 exact wpAny_Compare1 (binT ha hb I h fun v u s2 x y H2 I2 rx ry q=>ho pins s2 σ H2 x y v u Q I2 rx ry q) hm
def tTest (t:TE):TT:=fun σ H Q=>t σ H fun x H'=>∃k,x=.bl k/\Q k H'
theorem pt_cmpR {op:CmpOp}{r:R2}(ho:OpR X (YZ op) r)(ha:PE X a ta)(hb:PE X b tb)(hm:WK op b=false):PT X (.Compare a [op] [b] pos) (tTest (tOp r ta tb)):=by
 intro pins s σ H Q I h
 refine wpAny_isTrue_Compare1 (thn (ha pins s σ H _ I h) fun v s1 ⟨x,H1,I1,r1,q1⟩=>thn (hb pins s1 σ H1 _ I1 q1) fun u s2 ⟨y,H2,I2,r2,q2⟩=>
  thn (ho pins s2 σ H2 x y v u _ I2 r1 r2 q2) fun c s3 ⟨z,H3,I3,r3,k,e,q3⟩=>?_) hm
 subst e
 cases r3
 exact Xl ⟨H3,I3,q3⟩
def tChain (r r':R2)(ta tb tc:TE):TE:=fun σ H Q=>ta σ H fun x H1=>tb σ H1 fun y H2=>r x y H2 fun z H3=>∃k,z=.bl k/\
 (if k=true then tc σ H3 fun w' H4=>r' y w' H4 Q else Q (.bl false) H3)
theorem pe_chain {op op':CmpOp}{r r':R2}(ho:OpR X (YZ op) r)(ho':OpR X (YZ op') r')(ha:PE X a ta)(hb:PE X b tb)(hc:PE X c tc)
  (hm:lastMarks [op,op'] [b,c]=false:=by with_unfolding_all rfl):PE X (.Compare a [op,op'] [b,c] pos) (tChain r r' ta tb tc):=by
 intro pins s σ H Q I h
 refine Compare_chain (thn (ha pins s σ H _ I h) fun v s1 ⟨x,H1,I1,r1,q1⟩=>chain_link (thn (hb pins s1 σ H1 _ I1 q1) fun u s2 ⟨y,H2,I2,r2,q2⟩=>
  thn (ho pins s2 σ H2 x y v u _ I2 r1 r2 q2) fun d s3 ⟨z,H3,I3,r3,k,e,q3⟩=>?_)) hm
 subst e
 cases r3
 refine Xl ?_
 cases k with
 | false=>exact ite_ff ⟨.bl false,H3,I3,rfl,q3⟩
 | true=>exact ite_tt (chain_last (thn (hc pins s3 σ H3 _ I3 q3) fun w' s4 ⟨z',H4,I4,r4,q4⟩=>ho' pins s4 σ H4 y z' u w' Q I4 r2 r4 q4))
theorem pt_chain {op op':CmpOp}{r r':R2}(ho:OpR X (YZ op) r)(ho':OpR X (YZ op') r')(ha:PE X a ta)(hb:PE X b tb)(hc:PE X c tc)
  (hm:lastMarks [op,op'] [b,c]=false:=by with_unfolding_all rfl):PT X (.Compare a [op,op'] [b,c] pos) (tTest (tChain r r' ta tb tc)):=by
 intro pins s σ H Q I h
 refine isTrue_chain (thn (ha pins s σ H _ I h) fun v s1 ⟨x,H1,I1,r1,q1⟩=>test_link (thn (hb pins s1 σ H1 _ I1 q1) fun u s2 ⟨y,H2,I2,r2,q2⟩=>
  thn (ho pins s2 σ H2 x y v u _ I2 r1 r2 q2) fun d s3 ⟨z,H3,I3,r3,k,e,q3⟩=>?_)) hm
 subst e
 cases r3
 refine Xl ?_
 cases k with
 | false=>
  obtain ⟨k',e',q'⟩:=q3
  cases e'
  exact ite_ff ⟨H3,I3,q'⟩
 | true=>
  refine ite_tt (test_last (thn (hc pins s3 σ H3 _ I3 q3) fun w' s4 ⟨z',H4,I4,r4,q4⟩=>thn (ho' pins s4 σ H4 y z' u w' _ I4 r2 r4 q4) fun d' s5 h_=>?_))
  obtain ⟨z2,H5,I5,r5,k2,e2,q5⟩:=h_
  subst e2
  cases r5
  exact Xl ⟨H5,I5,q5⟩
def TruV (K:W.Frag)(x:V)(H:Hp)(k:Bool):Prop:=
 match x with
 | .non=>k=false
 | .bl b=>k=b
 | .int i=>k=(i != 0)
 | .str y=>y.length<=Yn/\k=((y.length:Int) != 0)
 | .byt y=>y.size<=Yn/\k=((y.size:Int) != 0)
 | .ref p=>(∃xs,SqL K H p xs/\k=!xs.isEmpty)\/(∃xs,SqT K H p xs/\k=!xs.isEmpty)\/∃kvs,H p=some (.dK kvs)/\k=!kvs.isEmpty
 | _=>False
theorem isEmpty_kv {κ:Type}{kvs:List (κ×V)}{vs:List (κ×Value)}(r:KV kvs vs):(!vs.isEmpty)=!kvs.isEmpty:=by
 cases r<;>rfl
theorem Zdp {xs:List V}{its:List Value}(r:Vals xs its):(!its.toArray.isEmpty)=!xs.isEmpty:=by
 cases r<;>simp
theorem line63:(Yn:Nat) < 2 ^ 63:=by rw[YE];decide
theorem tru_ok:TruR X (fun x H Q=>∃k,TruV X.K x H k/\Q k H):=by
 intro pins s σ H x v Q I rx h
 obtain ⟨k,e,q⟩:=h
 have hl:=line63
 have hs:Yn=16777216:=YE
 cases x with
 | non=>
  cases rx
  have e':k=false:=e
  subst e'
  exact truthy_none ⟨H,I,q⟩
 | bl b=>
  cases rx
  have e':k=b:=e
  subst e'
  exact Xl ⟨H,I,q⟩
 | int i=>
  obtain ⟨t,rfl⟩:=rx
  have e':k=(i != 0):=e
  subst e'
  exact PySem.P.truthy_int ⟨H,I,q⟩
 | str y=>
  obtain ⟨t,rfl⟩:=rx
  obtain ⟨hy,e'⟩:y.length<=Yn/\k=((y.length:Int) != 0):=e
  subst e'
  exact PySem.P.truthy_str (by lia) ⟨H,I.tok _,q⟩
 | byt y=>
  obtain ⟨t,rfl⟩:=rx
  obtain ⟨hy,e'⟩:y.size<=Yn/\k=((y.size:Int) != 0):=e
  subst e'
  exact W.truthy_bytes (by lia) ⟨H,I.tok _,q⟩
 | ref p=>
  cases rx
  have e':(∃xs,SqL X.K H p xs/\k=!xs.isEmpty)\/(∃xs,SqT X.K H p xs/\k=!xs.isEmpty)\/∃kvs,H p=some (.dK kvs)/\k=!kvs.isEmpty:=e
  rcases e' with ⟨xs,hx,e'⟩ | ⟨xs,hx,e'⟩ | ⟨kvs,hx,e'⟩
  ·subst e'
   obtain ⟨its,r,pl,hz⟩:=I.list hx
   have hlen:=r.length
   exact wpAny_truthy_list pl.isList (by simp only[Yl];lia) ⟨H,I.tok _,by rw[Zdp r];exact q⟩
  ·subst e'
   obtain ⟨its,r,pl,hz⟩:=I.tuple hx
   have hlen:=r.length
   exact truthy_tuple pl (by simp only[Yl];lia) ⟨H,I.tok _,by rw[Zdp r];exact q⟩
  ·subst e'
   obtain ⟨hz,hS,vs,r,m⟩:kvs.length<=Yn/\(p==XC)=false/\∃vs,KV kvs vs/\s.heap.DictOf (mixKind X.prog X.w) p vs:=I.hok p _ hx
   have hlen:kvs.length=vs.length:=Vf r
   exact wpAny_truthy_dict hS m (by lia) ⟨H,I.tok _,by rw[isEmpty_kv r];exact q⟩
 | _=>exact (show False from e).elim
theorem pt_truth (ha:PE X a ta)(he:∀whole,isTrue a X.env whole=(do let v ←whole;standAt a.pos;V1 [v] (truthy v))):
  PT X a (fun σ H Q=>ta σ H fun x H'=>∃k,TruV X.K x H' k/\Q k H'):=by
 intro pins s σ H Q I h
 exact isTrue_plain (thn (ha pins s σ H _ I h) fun v s1 ⟨x,H1,I1,r1,q1⟩=>tru_ok pins s1 σ H1 x v Q I1 r1 q1) (he _)
theorem op_add_str:OpR X (X6 .Add) (fun x y H Q=>∃i j,x=.str i/\y=.str j/\i.length + j.length<=Yn/\Q (.str (i++j)) H):=by
 intro pins s σ H x y v u Q I rx ry h
 obtain ⟨i,j,rfl,rfl,hz,q⟩:=h
 obtain ⟨t,rfl⟩:=rx
 obtain ⟨t',rfl⟩:=ry
 exact add_str (fun t' tk=>⟨.str (i++j),H,I.tok _,⟨_,rfl⟩,q⟩) hz
theorem iop_add_str:OpR X (inplaceOp .Add) (fun x y H Q=>∃i j,x=.str i/\y=.str j/\i.length + j.length<=Yn/\Q (.str (i++j)) H):=by
 intro pins s σ H x y v u Q I rx ry h
 obtain ⟨i,j,rfl,rfl,hz,q⟩:=h
 obtain ⟨t,rfl⟩:=rx
 obtain ⟨t',rfl⟩:=ry
 exact iadd_str (fun t' tk=>⟨.str (i++j),H,I.tok _,⟨_,rfl⟩,q⟩) hz
theorem vals1 {x:V}{us:List Value}(r:Vals [x] us):∃u,us=[u]/\RelV x u:=by
 cases r with
 | cons r1 r2=>cases r2;exact ⟨_,rfl,r1⟩
theorem vals2 {x y:V}{us:List Value}(r:Vals [x,y] us):∃u w',us=[u,w']/\RelV x u/\RelV y w':=by
 cases r with
 | cons r1 r2=>
  cases r2 with
  | cons r3 r4=>cases r4;exact ⟨_,_,rfl,r1,r3⟩
theorem call_max2 (hc:X.calm=true):CallR X (.builtin "max") (fun xs H Q=>∃i j,xs=[.int i,.int j]/\Q (.int (if j > i then j else i)) H):=by
 intro pins s σ H xs us Q I r h
 obtain ⟨i,j,rfl,q⟩:=h
 obtain ⟨u,w',rfl,⟨t,rfl⟩,⟨t',rfl⟩⟩:=vals2 r
 refine max_two_ints (I.ok.hd hc) fun h' tk k=>⟨_,H,I.kept k,?_,q⟩
 by_cases hj:j > i
 ·rw[if_pos hj,if_pos hj];exact ⟨_,rfl⟩
 ·rw[if_neg hj,if_neg hj];exact ⟨_,rfl⟩
theorem call_min2 (hc:X.calm=true):CallR X (.builtin "min") (fun xs H Q=>∃i j,xs=[.int i,.int j]/\Q (.int (if j < i then j else i)) H):=by
 intro pins s σ H xs us Q I r h
 obtain ⟨i,j,rfl,q⟩:=h
 obtain ⟨u,w',rfl,⟨t,rfl⟩,⟨t',rfl⟩⟩:=vals2 r
 refine min_two_ints (I.ok.hd hc) fun h' tk k=>⟨_,H,I.kept k,?_,q⟩
 by_cases hj:j < i
 ·rw[if_pos hj,if_pos hj];exact ⟨_,rfl⟩
 ·rw[if_neg hj,if_neg hj];exact ⟨_,rfl⟩
theorem call_int1:CallR X (.type "int") (fun xs H Q=>(∃i,xs=[.int i]/\Q (.int i) H)\/∃k,xs=[.bl k]/\Q (.int (if k then 1 else 0)) H):=by
 intro pins s σ H xs us Q I r h
 rcases h with ⟨i,rfl,q⟩ | ⟨k,rfl,q⟩
 ·obtain ⟨u,rfl,t,rfl⟩:=vals1 r
  exact call_int_int ⟨.int i,H,I,⟨_,rfl⟩,q⟩
 ·obtain ⟨u,rfl,r1⟩:=vals1 r
  cases r1
  exact call_int_bool ⟨.int (if k then 1 else 0),H,I.tok _,⟨_,rfl⟩,q⟩
def LenV (K:W.Frag)(x:V)(H:Hp)(n:Nat):Prop:=
 match x with
 | .str y=>y.length<=Yn/\n=y.length
 | .byt y=>y.size<=Yn/\n=y.size
 | .ref p=>(∃xs,SqL K H p xs/\n=xs.length)\/∃xs,SqT K H p xs/\n=xs.length
 | _=>False
theorem call_len:CallR X (.builtin "len") (fun xs H Q=>∃x n,xs=[x]/\LenV X.K x H n/\Q (.int n) H):=by
 intro pins s σ H xs us Q I r h
 obtain ⟨x,n,rfl,e,q⟩:=h
 obtain ⟨u,rfl,rx⟩:=vals1 r
 have hl:=line63
 have hs:Yn=16777216:=YE
 cases x with
 | str y=>
  obtain ⟨t,rfl⟩:=rx
  obtain ⟨hy,e'⟩:y.length<=Yn/\n=y.length:=e
  subst e'
  exact len_str (by lia) ⟨.int _,H,I.tok _,⟨_,rfl⟩,q⟩
 | byt y=>
  obtain ⟨t,rfl⟩:=rx
  obtain ⟨hy,e'⟩:y.size<=Yn/\n=y.size:=e
  subst e'
  exact W.len_bytes (by lia) ⟨.int _,H,I.tok _,⟨_,rfl⟩,q⟩
 | ref p=>
  cases rx
  have e':(∃xs,SqL X.K H p xs/\n=xs.length)\/∃xs,SqT X.K H p xs/\n=xs.length:=e
  rcases e' with ⟨xs,hx,e'⟩ | ⟨xs,hx,e'⟩
  ·subst e'
   obtain ⟨its,r',pl,hz⟩:=I.list hx
   have hlen:=r'.length
   exact Calls.call_len_list pl.isList (by simp only[Yl];lia) ⟨.int xs.length,H,I.tok _,⟨_,by simp only[Yl];rw[hlen]⟩,q⟩
  ·subst e'
   obtain ⟨its,r',pl,hz⟩:=I.tuple hx
   have hlen:=r'.length
   exact len_tuple pl (by simp only[Yl];lia) ⟨.int xs.length,H,I.tok _,⟨_,by simp only[Yl];rw[hlen]⟩,q⟩
 | _=>exact (show False from e).elim
end
structure ObjM (h:Heap)(x dx C:Addr)(mA:Str->Option Value):Prop where
 obj:h.get? x=some (W.instObj C dx)
 ns:h.Ns1 dx mA
 ne:dx≠x
theorem lookIn_ns {h:Heap}{dx:Addr}{mA:Str->Option Value}(n:h.Ns1 dx mA):∃od,h.get? dx=some od/\∀name,W.lookIn name od=some (mA name):=by
 obtain ⟨o,es,ep,ho,hd,hk,_,hm⟩:=n
 refine ⟨o,ho,fun name=>?_⟩
 have e:=hm name
 unfold nsFind findBy at e
 rw[←Array.find?_toList] at e
 unfold W.lookIn
 rw[hd]
 dsimp only
 split
 ·rename_i y q
  rw[q] at e
  exact congrArg some e
 ·rename_i q
  rw[q] at e
  have a:es.toList.any (·.refKey)=false:=by
   rw[List.any_eq_false]
   intro y hy
   obtain ⟨z,t,hkey⟩:=hk y (Array.mem_toList_iff.mp hy)
   simp[DictEntry.refKey,hkey]
  have a':¬es.toList.any (·.refKey)=true:=by rw[a];exact Yi
  rw[if_neg a']
  exact congrArg some e
theorem ObjM.look {h:Heap}{x dx C:Addr}{mA:Str->Option Value}(I:ObjM h x dx C mA):∃od,W.InstAt h x (W.instObj C dx) C (some od)/\∀name,W.lookIn name od=some (mA name):=
 let ⟨od,ho,hl⟩:=lookIn_ns I.ns
 ⟨od,⟨I.obj,rfl,rfl,ho⟩,hl⟩
theorem RelO.some_of {v:V}{o:Option Value}(r:RelO (some v) o):∃u,o=some u/\RelV v u:=by
 cases o with
 | none=>exact (show False from r).elim
 | some u=>exact ⟨u,rfl,r⟩
section
variable {P:Yo}{w:World}{H H':Hp}{h h':Heap}{a C dx:Addr}{fs fs':List (Str×V)}
theorem ins_get (hok:HOk P w H h)(e:H a=some (.ins C dx fs)):∃mA,ObjM h a dx C mA/\(∀f,RelO (fs.lookup f) (mA f))/\PySem.Within mA (fs.map (·.1))/\fs.length<=1000/\H dx=some (.own a):=by
 obtain ⟨d,z,ne,ob,mA,n,r,q⟩:=(show ObjOk P w H h a (.ins C dx fs) from hok a _ e)
 exact ⟨mA,⟨ob,n,ne⟩,r,q,z,d⟩
end
structure Cls (K:W.Frag)(C:Addr):Prop where
 pg:W.plainGet K C YW=true
 hd:W.hasDictIn K C=true
 po:W.plainOver K C=true
 sa:W.findIn K (.ref C) "__setattr__"=some (some (.builtin "object.__setattr__"))
theorem Cls.get {K:W.Frag}{C:Addr}(c:Cls K C)(f:Str):W.plainGet K C f=true:=c.pg
section
variable {X:Cx}{pins:List (Addr×Obj)}{σ:St}{H:Hp}{s:Shared}{A:Around}{E:Value->Shared->Prop}{Q:Value->Shared->Prop}{c:Value}{b:Bool}
inductive TyOf (K:W.Frag)(H:Hp):V->Value->Prop where
 | non:TyOf K H .non (.type "NoneType")
 | bl (x:Bool):TyOf K H (.bl x) (.type "bool")
 | int (i:Int):TyOf K H (.int i) (.type "int")
 | str (x:Str):TyOf K H (.str x) (.type "str")
 | flt (x:UInt64):TyOf K H (.flt x) (.type "float")
 | lst {a:Addr} {xs:List V} (e:H a=some (.lst xs)):TyOf K H (.ref a) (.type "list")
 | frz {a:Addr} {o:Obj} {xs:List V} (e:H a=some (.frz o (.lst xs))):TyOf K H (.ref a) (.type "list")
 | tup {a:Addr} {xs:List V} (e:H a=some (.tup xs)):TyOf K H (.ref a) (.type "tuple")
 | dK {a:Addr} {kvs:List (Key×V)} (e:H a=some (.dK kvs)):TyOf K H (.ref a) (.type "dict")
 | dT {a:Addr} {kvs:List (List Key×V)} (e:H a=some (.dT kvs)):TyOf K H (.ref a) (.type "dict")
 | ins {a C dx:Addr} {fs:List (Str×V)} (e:H a=some (.ins C dx fs)) (cl:Cls K C) (ha:W.findIn K (.ref C) "__class__"=some (some (.builtin "object.__class__")))
   (hn:W.specialIn K (.builtin "object.__class__") "__get__"=some (some (.builtin "getset_descriptor.__get__"))) (htk:W.takesIn K (.builtin "object.__class__")=some true)
   (hm:W.mroIn K C (.type "object")=some true):TyOf K H (.ref a) (.ref C)
theorem ZbD {x:V}{u t:Value}(I:Inv X pins σ H s)(rx:RelV x u)(ty:TyOf X.K H x t)(e:W.kitOne X.K t c=some b)(h:∀tk,Q (.bool b) { s with toks:=tk }):
  wpAny (model X.prog X.w) A (call (.builtin "isinstance") [u,c]) Q E s:=by
 cases ty with
 | non=>cases (show u=Xk from rx);exact Wf W.kitx_none I.kIn Wm e (fun z=>nomatch z) h
 | bl y=>cases (show u=Vh y from rx);exact Wf W.kitx_bool I.kIn Wm e (fun z=>nomatch z) h
 | int i=>obtain ⟨t,q⟩:=(show ∃t,u=Value.int i t from rx);cases q;exact Wf W.kitx_int I.kIn Wm e (fun z=>nomatch z) h
 | str y=>obtain ⟨t,q⟩:=(show ∃t,u=Value.str y t from rx);cases q;exact Wf W.kitx_str I.kIn Wm e (fun z=>nomatch z) h
 | flt y=>obtain ⟨t,q⟩:=(show ∃t,u=Value.float y t from rx);cases q;exact Wf W.kitx_float I.kIn Wm e (fun z=>nomatch z) h
 | @lst a xs ea=>
  cases (show u=YY a from rx)
  obtain ⟨_,_,n,_,h1⟩:=(show ObjOk X.prog X.w H s.heap a (.lst xs) from I.hok a _ ea)
  exact Wf W.kitx_list I.kIn ⟨_,h1,rfl⟩ e (fun z=>nomatch z) h
 | @frz a ob xs ea=>
  cases (show u=YY a from rx)
  obtain ⟨_,_,_,n,_,h1⟩:=(show ObjOk X.prog X.w H s.heap a (.frz ob (.lst xs)) from I.hok a _ ea)
  exact Wf W.kitx_list I.kIn ⟨_,h1,rfl⟩ e (fun z=>nomatch z) h
 | @tup a xs ea=>
  cases (show u=YY a from rx)
  obtain ⟨_,_,_,p⟩:=(show ObjOk X.prog X.w H s.heap a (.tup xs) from I.hok a _ ea)
  obtain ⟨o,h1,h2,_⟩:=p
  exact Wf W.kitx_tuple I.kIn ⟨o,h1,h2⟩ e (fun z=>nomatch z) h
 | @dK a kvs ea=>
  cases (show u=YY a from rx)
  obtain ⟨_,_,vs,_,p⟩:=(show ObjOk X.prog X.w H s.heap a (.dK kvs) from I.hok a _ ea)
  obtain ⟨o,es,ep,h1,h2,_⟩:=p
  exact Wf W.kitx_dict I.kIn ⟨o,h1,h2.1⟩ e (fun z=>nomatch z) h
 | @dT a kvs ea=>
  cases (show u=YY a from rx)
  obtain ⟨_,_,xs,_,o,es,ep,h1,h2,_⟩:=(show ObjOk X.prog X.w H s.heap a (.dT kvs) from I.hok a _ ea)
  exact Wf W.kitx_dict I.kIn ⟨o,h1,h2.1⟩ e (fun z=>nomatch z) h
 | @ins a C dx fs ea cl ha hn htk hm=>
  cases (show u=YY a from rx)
  obtain ⟨mA,O,_⟩:=ins_get I.hok ea
  obtain ⟨od,J,_⟩:=O.look
  exact Wf (W.kitx_own (cl.get _) cl.hd ha hn htk hm) I.kIn J e (fun z=>nomatch z) h
end
structure Room (k:Nat)(A:Around):Prop where
 hd:A.handled=none
 dp:A.depth + 3 * k + 5 < recursionLimit
 un:A.units + 16 * k + 200 < cLine
theorem Room.mono {j k:Nat}{A:Around}(r:Room k A)(h:j<=k):Room j A:=⟨r.hd,by have:=r.dp;lia,by have:=r.un;lia⟩
theorem Room.deeper {k:Nat}{A:Around}(r:Room (k + 1) A)(env:Env):Room k (A.deeper env):=
 ⟨r.hd,by have:=r.dp;show A.depth + 1 + 3 * k + 5 < _;lia,by have:=r.un;show A.units + 3 + 16 * k + 200 < _;lia⟩
theorem Room.depth {k:Nat}{A:Around}(r:Room k A):A.depth < recursionLimit:=by have:=r.dp;lia
theorem Room.units {k:Nat}{A:Around}(r:Room k A):A.units + 64 < cLine:=by have:=r.un;lia
def tNil:TA:=fun _ H Q=>Q [] H
def tCons (ta:TE)(tr:TA):TA:=fun σ H Q=>ta σ H fun x H1=>tr σ H1 fun xs H2=>Q (x::xs) H2
section
variable {X:Cx}{e:Expr}{es:List Expr}{te:TE}{t:TA}{pos:Pos}
theorem pa_nil:PA X [] tNil:=fun _ _ _ _ H Q I h=>Calls.spliced_nil ⟨[],H,I,.nil,h⟩
theorem pa_cons (ha:PE X e te)(hr:PA X es t)(hs:Yg (e::es) X.env=(false,eval e X.env)::Yg es X.env:=by rfl):PA X (e::es) (tCons te t):=by
 intro pos pins s σ H Q I h
 rw[hs]
 show wpAny _ _ (spliced ((false,eval e X.env)::backTo pos (Yg es X.env))) _ _ s
 refine Calls.spliced_cons (thn (ha pins s σ H _ I h) fun u s1 h_=>?_)
 obtain ⟨x,H1,I1,r1,q1⟩:=h_
 exact thn (hr pos pins s1 σ H1 _ I1 q1) fun us s2 ⟨xs,H2,I2,r2,q2⟩=>⟨x::xs,H2,I2,.cons r1 r2,q2⟩
def tTup (t:TA):TE:=fun σ H Q=>t σ H fun xs H1=>xs.length<=Yn/\∀p,H1 p=none->Q (.ref p) (upd H1 p (.tup xs))
def tLst (t:TA):TE:=fun σ H Q=>t σ H fun xs H1=>xs.length<=Yn/\∀p,H1 p=none->Q (.ref p) (upd H1 p (.lst xs))
theorem pe_tup {x1}(h:PA X es t):PE X (.Tuple es x1 pos) (tTup t):=by
 intro pins s σ H Q I hq
 refine wpAny_Tuple_spliced (thn (h pos pins s σ H _ I hq) fun us s1 ⟨xs,H1,I1,r,z,q⟩=>⟨by rw[←r.length];exact z,?_⟩)
 have hf:H1 s1.heap.objs.size=none:=I1.hok.fresh (Yx _)
 refine ⟨.ref s1.heap.objs.size,upd H1 s1.heap.objs.size (.tup xs),I1.laid (t':=s1.toks) (fun b u e=>Yb _ e) (Yx _) ?_,rfl,q _ hf⟩
 exact ⟨z,us,r,⟨_,Yh _ rfl,rfl,_,rfl⟩⟩
theorem pe_lst (h:PA X es t):PE X (.List es pos) (tLst t):=by
 intro pins s σ H Q I hq
 refine wpAny_List_spliced (thn (h pos pins s σ H _ I hq) fun us s1 ⟨xs,H1,I1,r,z,q⟩=>⟨by rw[←r.length];exact z,?_⟩)
 have hf:H1 s1.heap.objs.size=none:=I1.hok.fresh (Yx _)
 refine ⟨.ref s1.heap.objs.size,upd H1 s1.heap.objs.size (.lst xs),I1.laid (t':=s1.toks) (fun b u e=>Yb _ e) (Yx _) ?_,rfl,q _ hf⟩
 exact ⟨z,us,0,r,Yh _ rfl⟩
end
abbrev Sp:=List V->Hp->VK->XK->Prop
abbrev CXT:=List Env->Hp->Shared->XK->Value->Shared->Prop
structure Env0 (P:Yo)(w:World)(K:W.Frag)(mg:Str->Option Value)(base:Heap)(A:Around)(outer:List Env)(s:Shared)(H:Hp):Prop where
 frames:A.frames=some outer
 mod:Mod K mg base
 bs:∀b o,base.get? b=some o->s.heap.get? b=some o/\H b=none
 bsz:base.objs.size<=s.heap.objs.size
 funs:s.heap.FunFrames base outer
 frf:∀b∈frs outer,H b=none
 hok:HOk P w H s.heap
 bare:VN s.gens
def CE (outer:List Env)(P:Yo)(w:World)(H:Hp)(s:Shared)(Q:VK)(u:Value)(s':Shared):Prop:=
 ∃v H',s'.os=s.os/\VN s'.gens/\Un (frs outer) [] H H' s.heap s'.heap/\HOk P w H' s'.heap/\RelV v u/\Q v H'
def CR (CX:CXT)(outer:List Env)(P:Yo)(w:World)(H:Hp)(s:Shared)(Q:VK)(E:XK)(r:Result)(s':Shared):Prop:=
 match r with
 | .ok (.ret u)=>CE outer P w H s Q u s'
 | .ok _=>False
 | .error e=>CX outer H s E e s'
structure FnOk (P:Yo)(w:World)(K:W.Frag)(mg:Str->Option Value)(base:Heap)(CX:CXT)(k:Nat)(f:Addr)(fd:Ym)(ps:List Str)(sp:Sp):Prop where
 len:∀vs H Q E,sp vs H Q E->vs.length=ps.length
 run:∀(A:Around) (outer:List Env) (s:Shared) (H:Hp) (args:Args) (us:List Value) (vs:List V) (Q:VK) (E:XK),Room k A->Env0 P w K mg base A outer s H->BindsTo s fd args (ps.zip us)->Vals vs us->sp vs H Q E->
  V2 (model P w) A (.call (.ref f) args) (CR CX outer P w H s Q E) s
theorem FnOk.mono {P:Yo}{w:World}{K:W.Frag}{mg:Str->Option Value}{base:Heap}{CX:CXT}{j k:Nat}{f:Addr}{fd:Ym}{ps:List Str}{sp:Sp}(F:FnOk P w K mg base CX j f fd ps sp)(h:j<=k):
  FnOk P w K mg base CX k f fd ps sp:=⟨F.len,fun A outer s H args us vs Q E hr=>F.run A outer s H args us vs Q E (hr.mono h)⟩
theorem FnOk.imp {P:Yo}{w:World}{K:W.Frag}{mg:Str->Option Value}{base:Heap}{CX:CXT}{k:Nat}{f:Addr}{fd:Ym}{ps:List Str}{sp sp':Sp}(F:FnOk P w K mg base CX k f fd ps sp)
  (h:∀vs H Q E,sp' vs H Q E->sp vs H Q E):FnOk P w K mg base CX k f fd ps sp':=
 ⟨fun vs H Q E q=>F.len vs H Q E (h _ _ _ _ q),fun A outer s H args us vs Q E hr he hb hv hs=>F.run A outer s H args us vs Q E hr he hb hv (h _ _ _ _ hs)⟩
section
variable {X:Cx}{pins:List (Addr×Obj)}{σ:St}{H:Hp}{s s':Shared}
theorem Inv.env0 (I:Inv X pins σ H s):Env0 X.prog X.w X.K X.mg X.base X.A X.stack s H:=
 ⟨I.ok.frames,I.ok.mod,I.bs,YB I.ok.bsz I.sz,I.stack,I.stkFree,I.hok,I.bare⟩
theorem Inv.after {Q:VK}{u:Value}(I:Inv X pins σ H s)(h:CE X.stack X.prog X.w H s Q u s'):EP X pins σ Q u s':=by
 obtain ⟨v,H',os,bare,un,hok,r,q⟩:=h
 obtain ⟨hh,g,d,t,os'⟩:=s'
 obtain rfl:os'=s.os:=os
 exact ⟨v,H',I.call (h':=hh) (g':=g) (d':=d) (t':=t) (ch:=[]) un hok bare (fun b z=>absurd z (by simp)),r,q⟩
end
def tCall (sp:Sp)(dvs:List V)(E:XK)(t:TA):TE:=fun σ H Q=>t σ H fun vs H1=>sp (vs++dvs) H1 Q E
def Binds (K:W.Frag)(fd:Ym)(ps:List Str)(ds:List Value):Prop:=
 ∀(s:Shared) (us:List Value),K.In s.heap->(us++ds).length=ps.length->BindsTo s fd ⟨us,[]⟩ (ps.zip (us++ds))
theorem Binds.all {K:W.Frag}{fd:Ym}{ps:List Str}(h:∀us:List Value,us.length=ps.length->bindArgs fd ⟨us,[]⟩=pure (ps.zip us)):Binds K fd ps []:=fun s us _ hl=>by
 rw[YA] at hl ⊢
 exact .of_eq (h us hl)
def Passes (CX:CXT)(X:Cx)(E:XK):Prop:=∀(pins:List (Addr×Obj)) (σ:St) (H:Hp) (s:Shared) (e:Value) (s':Shared),Inv X pins σ H s->CX X.stack H s E e s'->X.xe e s'
section
variable {X:Cx}{CX:CXT}{k:Nat}{f C:Addr}{fd:Ym}{ps:List Str}{sp:Sp}{dvs:List V}{ds:List Value}{E:XK}{x m:Str}{p pos apos:Pos}{e o:Expr}{es:List Expr}{ta:TE}{t:TA}
theorem run_fn {pins:List (Addr×Obj)}{σ:St}{H:Hp}{s:Shared}{Q:VK}{us:List Value}{vs:List V}(F:FnOk X.prog X.w X.K X.mg X.base CX k f fd ps sp)(hr:Room k X.A)(hb:Binds X.K fd ps ds)(hd:Vals dvs ds)(hx:Passes CX X E)
  (I:Inv X pins σ H s) (r:Vals vs us) (h:sp (vs++dvs) H Q E):wpAny (model X.prog X.w) X.A (call (.ref f) us) (EP X pins σ Q) X.xe s:=by
 have r2:Vals (vs++dvs) (us++ds):=r.append hd
 have hl:(us++ds).length=ps.length:=by rw[←r2.length];exact F.len _ _ _ _ h
 refine wpAny_call (codeAny_mono (F.run X.A X.stack s H ⟨us,[]⟩ (us++ds) (vs++dvs) Q E hr I.env0 (hb s us I.kIn hl) r2 h) fun r s' hq=>?_)
 cases r with
 | error e=>exact hx pins σ H s e s' I hq
 | ok fl=>
  cases fl with
  | ret u=>exact I.after hq
  | next=>exact Wl hq
  | brk=>exact Wl hq
  | cont=>exact Wl hq
theorem pe_call (F:FnOk X.prog X.w X.K X.mg X.base CX k f fd ps sp)(hr:Room k X.A)(hg:Gl X x)(hm:X.mg x=some (.ref f))(hk:Yw X.K (.ref f)=true)(hb:Binds X.K fd ps ds)(hd:Vals dvs ds)(hx:Passes CX X E)
  (ha:PA X (e::es) t) (hdb:(x==("__debug__":Str))=false:=by decide) (he:Yg (e::es) X.env=(false,eval e X.env)::Yg es X.env:=by rfl) (hpl:(backTo pos (Yg es X.env)).any (·.1)=false:=by rfl):
  PE X (.Call (.Name x p) (e::es) [] pos) (tCall sp dvs E t):=by
 intro pins s σ H Q I h
 refine WL (ld_glob I hg hm ?_ hdb)
 refine W.callWith_K (h₀:=X.base) I.ok.mod.kin hk (thn (ha pos pins s σ H _ I h) fun us s1 ⟨vs,H1,I1,r,q⟩=>⟨I1.kIn,?_⟩) he hpl
 exact run_fn F hr hb hd hx I1 r q
structure Mk (K:W.Frag)(C f:Addr):Prop where
 makes:W.makesIn K C=true
 init:W.findIn K (.ref C) "__init__"=some (some (.ref f))
 fn:W.isFn K (.ref f)=true
 kp:Yw K (.ref C)=true
end
structure FnScope (N P:List Str)(sc:Scope):Prop where
 kind:sc.kind=.function
 co:sc.isCoroutine=false
 gen:sc.isGenerator=false
 nd:N.Nodup
 pre:N.take P.length=P
 par:∀x∈P,sc.names.lookup x=some .local\/sc.names.lookup x=some .cell
 nofree:∀y∈sc.names,y.2≠.free
theorem bindL_out {kindOf:Str->Option WN}{x:Str}:∀{binds:List (Str×Value)} {m:Str->Option Value},(∀v,(x,v)∉binds)->bindL kindOf binds m x=m x
  | [],_,_=>rfl
  | (n,v)::r,m,h=>by
    unfold bindL
    rw[bindL_out fun w hw=>h w (Y4 _ hw)]
    split
    · have:x≠n:=by rintro rfl;exact h v Xw
      simp[this]
    · rfl
theorem bindC_out {kindOf:Str->Option WN}{x:Str}:∀{binds:List (Str×Value)} {m:Str->Option Value},(∀v,(x,v)∉binds)->bindC kindOf binds m x=m x
  | [],_,_=>rfl
  | (n,v)::r,m,h=>by
    unfold bindC
    rw[bindC_out fun w hw=>h w (Y4 _ hw)]
    split
    · rfl
    · have:x≠n:=by rintro rfl;exact h v Xw
      simp[this]
theorem bindL_get {kindOf:Str->Option WN}{x:Str}{v:Value}:∀{P:List Str} {vs:List Value} {i:Nat} {m:Str->Option Value},P.Nodup->P[i]? = some x->vs[i]? = some v->kindOf x=some .local->
  bindL kindOf (P.zip vs) m x=some v
 | [],_,_,_,_,h,_,_=>by simp at h
 | _::_,[],_,_,_,_,h,_=>by simp at h
 | p::P,w::vs,0,m,nd,h1,h2,hk=>by
  simp at h1 h2;subst h1;subst h2
  show bindL kindOf ((p,w)::P.zip vs) m p=_
  unfold bindL
  rw[bindL_out fun v hv=>(WO.mp nd).1 (VQ hv).1,if_pos hk]
  simp
 | p::P,w::vs,i + 1,m,nd,h1,h2,hk=>by
  show bindL kindOf ((p,w)::P.zip vs) m x=_
  unfold bindL
  exact bindL_get (i:=i) (WO.mp nd).2 (by simpa using h1) (by simpa using h2) hk
theorem bindC_get {kindOf:Str->Option WN}{x:Str}{v:Value}:∀{P:List Str} {vs:List Value} {i:Nat} {m:Str->Option Value},P.Nodup->P[i]? = some x->vs[i]? = some v->kindOf x≠some .local->
  bindC kindOf (P.zip vs) m x=some v
 | [],_,_,_,_,h,_,_=>by simp at h
 | _::_,[],_,_,_,_,h,_=>by simp at h
 | p::P,w::vs,0,m,nd,h1,h2,hk=>by
  simp at h1 h2;subst h1;subst h2
  show bindC kindOf ((p,w)::P.zip vs) m p=_
  unfold bindC
  rw[bindC_out fun v hv=>(WO.mp nd).1 (VQ hv).1,if_neg hk]
  simp
 | p::P,w::vs,i + 1,m,nd,h1,h2,hk=>by
  show bindC kindOf ((p,w)::P.zip vs) m x=_
  unfold bindC
  exact bindC_get (i:=i) (WO.mp nd).2 (by simpa using h1) (by simpa using h2) hk
def start (N:List Str)(vs:List V):St:=vs.map some++YO (N.length - vs.length) none
def cxOf (CX:CXT)(P:Yo)(w:World)(K:W.Frag)(mg:Str->Option Value)(base:Heap)(N:List Str)(qual:Str)(scope:Scope)(f:Addr)(cd:Value)(A:Around)(outer:List Env)(s:Shared)(H:Hp)(E:XK):Cx where
 prog:=P
 w:=w
 K:=K
 mg:=mg
 base:=base
 A:=A.deeper (envOfC qual scope s.heap.objs.size f cd)
 N:=N
 s₀:=s
 H₀:=H
 env:=envOfC qual scope s.heap.objs.size f cd
 outer:=outer
 stack:=envOfC qual scope s.heap.objs.size f cd::outer
 ex:=[]
 calm:=true
 fn:=fun _=>true
 pn:=[]
 xe:=fun e s'=>wpAny (model P w) (A.deeper (envOfC qual scope s.heap.objs.size f cd)) (leaving (envOfC qual scope s.heap.objs.size f cd) e) (fun _ s''=>CX outer H s E e s'') (fun e' s''=>CX outer H s E e' s'') s'
theorem cell_has {sc:Scope}{n:Nat}{x:Str}(h:sc.names.lookup x=some .cell):∃c,(cellsFrom n sc.names []).lookup x=some c:=by
 have q:=W.cellsFrom_some sc.names n [] (.inl h)
 exact WE.mp q
theorem inv_start {CX:CXT}{P:Yo}{w:World}{K:W.Frag}{mg:Str->Option Value}{base:Heap}{N ps:List Str}{qual:Str}{scope:Scope}{f:Addr}{cd:Value}{A:Around}{outer:List Env}{s s1:Shared}{H:Hp}{E:XK}{us:List Value}{vs:List V}
  (S:FnScope N ps scope) (hd:A.handled=none) (e0:Env0 P w K mg base A outer s H) (hl:vs.length=ps.length) (r:Vals vs us)
  (x:InCallC s s.heap.objs.size (bindL (envOfC qual scope s.heap.objs.size f cd).kindOf (ps.zip us) fun _=>none) (cellsFrom (s.heap.objs.size + 1) scope.names []) (bindC (envOfC qual scope s.heap.objs.size f cd).kindOf (ps.zip us) fun _=>none) s1):
  Inv (cxOf CX P w K mg base N qual scope f cd A outer s H E) [] (start N vs) H s1:=by
 have hpl:ps.length<=N.length:=by have:=congrArg List.length S.pre;rw[XI] at this;lia
 obtain ⟨h1,tk,rfl,hk⟩:=x.done
 have noA:∀b:Addr,b∉(cxOf CX P w K mg base N qual scope f cd A outer s H E).ex:=fun b z=>absurd (show b∈([]:List Addr) from z) (by simp)
 refine ⟨⟨e0.mod,S.kind,rfl,rfl,Yx _,fun y z c h1 h2=>?_,fun y hy=>?_,fun y c _ h=>?_,fun _=>hd,Around.frames_deeper e0.frames,.inr ⟨rfl,rfl⟩,fun b z=>absurd z (noA b),e0.bs,e0.bsz,fun b _ _=>noA b,fun b z=>absurd z (noA b),e0.funs,e0.frf⟩,
  rfl,e0.bare,Un.kept hk,⟨_,x.toInCall.ns,fun i y v h1 h2 h3=>?_⟩,fun y c h=>⟨_,x.cell y c h⟩,e0.hok.fresh (Yx _),fun y c h=>?_,fun p hp=>absurd (show p∈([]:List (Addr×Obj)) from hp) (by simp),e0.hok.kept hk,?_⟩
 ·exact name_of_addr x.apart (X8 h1) (X8 h2)
 ·have hy:scope.names.lookup y=some .cell\/scope.names.lookup y=some .free:=hy
  rcases hy with hy | hy
  ·exact cell_has hy
  ·exact absurd rfl (S.nofree _ (X8 hy))
 ·exact VO (x.above y c (X8 h))
 ·have hi:i < vs.length:=by
   unfold start at h2
   by_cases hi:i < vs.length
   ·exact hi
   ·rw[YS (by simpa using hi)] at h2
    rw[List.getElem?_replicate] at h2
    split at h2<;>cases h2
  have ha:vs[i]? = some v:=by
   unfold start at h2
   rw[YC (by simpa using hi),YK] at h2
   cases e:vs[i]? with
   | none=>rw[e] at h2;cases h2
   | some a=>rw[e] at h2;cases h2;rfl
  obtain ⟨u,hu,rv⟩:=r.get ha
  have hp:ps[i]? = some y:=by
   rw[←S.pre,XW (by lia)];exact h1
  have ndP:ps.Nodup:=by rw[←S.pre];exact S.nd.sublist (List.take_sublist _ _)
  refine ⟨u,rv,?_⟩
  rcases S.par y (Xd hp) with k | k
  ·exact .inl ⟨k,bindL_get ndP hp hu k⟩
  ·obtain ⟨c,e⟩:=cell_has (n:=s.heap.objs.size + 1) k
   refine .inr ⟨.inl k,c,e,?_⟩
   have q:=x.cell y c e
   rw[bindC_get ndP hp hu (by show scope.names.lookup y≠_;rw[k];decide)] at q
   exact q
 ·exact e0.hok.fresh (VO (x.above y c (X8 h)))
 ·unfold start
  show _=N.length
  rw[YU,Yu,List.length_replicate]
  lia
theorem fn_of {CX:CXT}{P:Yo}{w:World}{K:W.Frag}{mg:Str->Option Value}{base:Heap}{k:Nat}{f:Addr}{name qual:Str}{params:Arguments}{body:List Stmt}{scope:Scope}{dV kV doc pm cdv ct oc:Value}{an od:Option Addr}
  {osl:Array (Option Value)} {N ps:List Str} {sp:Sp} (lk:K.lookup f=some ⟨oc,od,.func (W.fnOf name qual params body scope dV kV doc pm an cdv ct),osl⟩) (hcd:W.codeIn K cdv qual=true) (S:FnScope N ps scope)
  (len:∀vs H Q E,sp vs H Q E->vs.length=ps.length)
  (hbody:∀(A:Around) (outer:List Env) (s:Shared) (H:Hp) (vs:List V) (Q:VK) (E:XK),Room k (A.deeper (envOfC qual scope s.heap.objs.size f cdv))->sp vs H Q E->
   ∃t,PSs (cxOf CX P w K mg base N qual scope f cdv A outer s H E) body t/\t { nx:=fun _ H'=>Q .non H',rt:=Q } (start N vs) H):
  FnOk P w K mg base CX (k + 1) f (W.fnOf name qual params body scope dV kV doc pm an cdv ct) ps sp:=by
 refine ⟨len,fun A outer s H args us vs Q E hr e0 hb r hsp=>?_⟩
 have hl:=len _ _ _ _ hsp
 have KX:K.In s.heap:=e0.mod.kin.keeps fun b o e=>(e0.bs b o e).1
 have lim:s.heap.NoLimit:=e0.mod.nolimit.keeps fun b o e=>(e0.bs b o e).1
 have hkind:∀y∈ps.zip us,scope.names.lookup y.1=some .local\/(scope.names.lookup y.1=some .cell/\((cellsFrom (s.heap.objs.size + 1) scope.names []).lookup y.1).isSome=true):=fun ⟨n,v⟩ hy=>by
  rcases S.par n (VQ hy).1 with q | q
  ·exact .inl q
  ·exact .inr ⟨q,W.cellsFrom_some _ _ _ (.inl q)⟩
 refine codeAny_call_function hr.depth (KX _ _ lk) rfl S.co S.gen rfl (W.codeRec_of KX hcd) (hb _ _ _ _ ?_)
 refine wpAny_newFunctionEnv_cells S.kind hkind fun env he s1 x=>?_
 subst he
 refine ⟨lim.keeps x.toInCall.keep,codeAny_func ?_⟩
 obtain ⟨t,ht,hq⟩:=hbody A outer s H vs Q E (hr.deeper _) hsp
 have I:Inv (cxOf CX P w K mg base N qual scope f cdv A outer s H E) [] (start N vs) H s1:=inv_start S hr.hd e0 hl r x
 refine XV (ht [] s1 (start N vs) H _ I hq) (fun fl s' hs=>?_) fun e s' hs=>hs
 have fin:∀{σ':St} {H':Hp} {v:V} {u:Value},Inv (cxOf CX P w K mg base N qual scope f cdv A outer s H E) [] σ' H' s'->RelV v u->Q v H'->CE outer P w H s Q u s':=
  fun {σ' H' v u} J rv q=>⟨v,H',J.os,J.bare,J.base,J.hok,rv,q⟩
 cases fl with
 | ret u=>
  obtain ⟨v,σ',H',J,rv,q⟩:=hs
  exact fin J rv q
 | next=>
  obtain ⟨σ',H',J,q⟩:=hs
  exact fin (v:=V.non) (u:=Xk) J rfl q
 | brk=>
  obtain ⟨_,_,_,q⟩:=hs
  exact Wl q
 | cont=>
  obtain ⟨_,_,_,q⟩:=hs
  exact Wl q
section
variable {X:Cx}{x:Str}{p pos:Pos}{e:Expr}{es:List Expr}{t:TA}{id T:String}{r:List V->Hp->VK->Prop}
def tCB (r:List V->Hp->VK->Prop)(t:TA):TE:=fun σ H Q=>t σ H fun vs H1=>r vs H1 Q
theorem pe_callB (hc:CallR X (.builtin id) r)(hg:Gl X x)(hm:X.mg x=none)(hv:YX x=some (.builtin id))(ha:PA X (e::es) t)(hn:x≠"__name__":=by decide)(hdb:(x==("__debug__":Str))=false:=by decide)
  (he:Yg (e::es) X.env=(false,eval e X.env)::Yg es X.env:=by rfl) (hpl:(backTo pos (Yg es X.env)).any (·.1)=false:=by rfl):PE X (.Call (.Name x p) (e::es) [] pos) (tCB r t):=by
 intro pins s σ H Q I h
 refine WL (Zc1 I hg hm hv ?_ hn hdb)
 exact PyProof.Rows.callWith_builtin1 (thn (ha pos pins s σ H _ I h) fun us s1 ⟨vs,H1,I1,r1,q1⟩=>hc pins s1 σ H1 vs us Q I1 r1 q1) he hpl
theorem pe_callTy (hc:CallR X (.type T) r)(hg:Gl X x)(hm:X.mg x=none)(hv:YX x=some (.type T))(ha:PA X (e::es) t)(hn:x≠"__name__":=by decide)(hdb:(x==("__debug__":Str))=false:=by decide)
  (he:Yg (e::es) X.env=(false,eval e X.env)::Yg es X.env:=by rfl) (hpl:(backTo pos (Yg es X.env)).any (·.1)=false:=by rfl):PE X (.Call (.Name x p) (e::es) [] pos) (tCB r t):=by
 intro pins s σ H Q I h
 refine WL (Zc1 I hg hm hv ?_ hn hdb)
 exact Xm (thn (ha pos pins s σ H _ I h) fun us s1 ⟨vs,H1,I1,r1,q1⟩=>hc pins s1 σ H1 vs us Q I1 r1 q1) he hpl
end
end L2
namespace HT
open PySem PyProof.Rows
section
variable {prog:Yo}{w:World}{A:Around}{E:Value->Shared->Prop}{s:Shared}
theorem cat_tup {t b:Addr}{vs ws:List Value}{Q:Value->Shared->Prop}(ht:IsTup s.heap t vs.toArray)(hb:IsTup s.heap b ws.toArray)(hv:vs≠[])
  (h1:ws=[]->Q (.ref t) s) (h2:ws≠[]->Q (.ref s.heap.objs.size) { s with heap:=s.heap.push { cls:=.type "tuple",data:=.seq (vs++ws).toArray } })
  (hsz:vs.length + ws.length<=Yn):wpAny (model prog w) A (X6 .Add (.ref t) (.ref b)) Q E s:=by
 obtain ⟨⟨cls,dd,data,sl⟩,ho,hc,n,hd⟩:=id ht
 obtain ⟨⟨cls2,dd2,data2,sl2⟩,ho2,hc2,n2,hd2⟩:=id hb
 simp only at hc hd hc2 hd2
 subst hc hd hc2 hd2
 have e:vs.toArray++ws.toArray=(vs++ws).toArray:=by simp
 by_cases hw:ws=[]
 ·exact VR ⟨_,ho,rfl⟩ ⟨_,ho2,rfl⟩ VI seq_tuple_add WZ WP (WF _ _)
   (tuple_addW1 t b vs.toArray ws.toArray n n2 dd dd2 sl sl2 (by simpa using hv) (by simp[hw])) ⟨ho,ho2,h1 hw⟩
 ·refine VR ⟨_,ho,rfl⟩ ⟨_,ho2,rfl⟩ VI seq_tuple_add WZ WP (WF _ _)
   (tuple_addW2 t b vs.toArray ws.toArray n n2 dd dd2 sl sl2 (by simpa using hv) (by simpa using hw) (by rw[Yl,Yl];exact hsz)) ⟨ho,ho2,?_⟩
  rw[e]
  exact h2 hw
def sIx (n d:Nat):Option Int->Nat
 | none=>d
 | some v=>if v < 0 then (v + (n:Int)).toNat else min v.toNat n
theorem sIx_le (n d:Nat)(hd:d<=n)(o:Option Int):sIx n d o<=n:=by
 cases o with
 | none=>exact hd
 | some v=>
  show (if v < 0 then (v + (n:Int)).toNat else min v.toNat n)<=n
  by_cases hv:v < 0
  ·rw[if_pos hv];lia
  ·rw[if_neg hv];exact Nat.min_le_right _ _
theorem clip_eq (v:Int)(n d:Nat):(if v < 0 then max (v + (n:Int)) 0 else min v (n:Int))=((sIx n d (some v):Nat):Int):=by
 show (if v < 0 then max (v + (n:Int)) 0 else min v (n:Int))=(((if v < 0 then (v + (n:Int)).toNat else min v.toNat n):Nat):Int)
 by_cases hv:v < 0
 ·simp only[if_pos hv];lia
 ·simp only[if_neg hv];lia
theorem adjust_gen (lo hi:Option Int)(n:Nat):WA lo hi 1 (n:Int)=(((sIx n 0 lo:Nat):Int),((sIx n n hi:Nat):Int)):=by
 have h1:¬((1:Int) < 0):=by lia
 unfold WA
 simp only[h1,if_false]
 refine Prod.ext ?_ ?_
 ·cases lo with
  | none=>rfl
  | some v=>exact clip_eq v n 0
 ·cases hi with
  | none=>rfl
  | some v=>exact clip_eq v n n
theorem places_gen (i j:Nat):XR (i:Int) (j:Int) 1=j - i:=by
 unfold XR
 have h1:(1:Int) > 0:=by lia
 simp only[h1,if_true,Int.ediv_one]
 split<;>lia
theorem slicePart_ {v:Value}{o:Option Int}{Q:Option Int->Shared->Prop}(p:IsPart v o)(h:Q o s):wpAny (model prog w) A (Builtin.Slice.slicePartIndex v) Q E s:=by
 cases p with
 | none=>exact slicePart_none h
 | int i t=>exact slicePart_int h
theorem sliceApplied_gen {sl:Addr}{vl vu:Value}{lo hi:Option Int}{n:Nat}{Q:Int×Int×Nat->Shared->Prop}(hs:s.heap.IsSliceOf sl vl vu .none)(pl:IsPart vl lo)(pu:IsPart vu hi)
  (h:Q (((sIx n 0 lo:Nat):Int),1,sIx n n hi - sIx n 0 lo) s):wpAny (model prog w) A (Vu (.ref sl) (pure (n:Int))) Q E s:=by
 obtain ⟨os,hos,hcs,hds⟩:=id hs
 unfold Vu Builtin.Slice.sliceFields
 refine Yc (Yc (Xn hos hds (x:=vl) rfl (Yc (Xn hos hds (x:=vu) rfl (Yc (Xn hos hds (x:=.none) rfl (Yk ?_)))))))
 refine Yc (slicePart_none ?_)
 show wpAny _ _ (if ((1:Int)==0)=true then _ else _) _ _ s
 rw[if_neg (by decide)]
 refine Yc (slicePart_ pl (Yc (slicePart_ pu (Yc (Yk ?_)))))
 show wpAny _ _ (match WA lo hi 1 (n:Int) with | (lo,hi)=>pure (lo,(1:Int),XR lo hi 1)) _ _ s
 rw[adjust_gen lo hi n]
 show wpAny _ _ (pure (((sIx n 0 lo:Nat):Int),(1:Int),XR ((sIx n 0 lo:Nat):Int) ((sIx n n hi:Nat):Int) 1)) _ _ s
 rw[places_gen]
 exact Yk h
theorem pick_gen (xs:Array Value)(i k:Nat):((YT k).filterMap fun (m:Nat)=>xs[((i:Int) + (m:Int) * 1).toNat]?).toArray=((xs.toList.drop i).take k).toArray:=by
 have e:(fun (m:Nat)=>xs[((i:Int) + (m:Int) * 1).toNat]?)=fun m=>xs[i + m]?:=by
  funext m
  have:((i:Int) + (m:Int) * 1).toNat=i + m:=by lia
  rw[this]
 rw[e]
 have:=pick_run xs i k
 rw[List.filterMap_map] at this
 have e2:((fun x=>xs[x]?) ∘ fun x=>i + x)=fun m=>xs[i + m]?:=rfl
 rw[e2] at this
 rw[this]
theorem getItem_tuple_cut {t sl:Addr}{items:Array Value}{vl vu:Value}{lo hi:Option Int}{Q:Value->Shared->Prop}(ht:IsTup s.heap t items)(hs:s.heap.IsSliceOf sl vl vu .none)(pl:IsPart vl lo)(pu:IsPart vu hi)
  (hw:¬(sIx items.size 0 lo=0/\sIx items.size items.size hi=items.size))
  (h:Q (.ref s.heap.objs.size) { s with heap:=s.heap.push { cls:=.type "tuple",data:=.seq ((items.toList.drop (sIx items.size 0 lo)).take (sIx items.size items.size hi - sIx items.size 0 lo)).toArray } })
  (hsz:items.size<=Yn):wpAny (model prog w) A (VS (.ref t) (.ref sl)) Q E s:=by
 have htake:sizeOk (.seq ((items.toList.drop (sIx items.size 0 lo)).take (sIx items.size items.size hi - sIx items.size 0 lo)).toArray):=by
  show ((items.toList.drop (sIx items.size 0 lo)).take (sIx items.size items.size hi - sIx items.size 0 lo)).toArray.size<=Yn
  rw[Yl,XI,List.length_drop,Yy]
  lia
 have hj:sIx items.size items.size hi<=items.size:=sIx_le _ _ (Yx _) hi
 obtain ⟨os,hos,hcs,hds⟩:=id hs
 have hTs:s.TypeIs (.ref sl) "slice":=⟨os,hos,hcs⟩
 unfold VS
 try with_reducible refine Y6 ?_
 first | refine Yc (Yk ?_) | skip
 refine Yc (wpAny_sequenceKey ht.typeIs (by decide) ?_)
 refine Yc (Xa (name:=X1 "__getitem__") ht.typeIs Y0
  (Xh Y0 ht.typeIs entry_tuple_getitem ?_ (args_tuple_getitem _ _)))
 show wpAny _ _ (Vv (.ref t) >>= _) _ _ s
 refine Yc (tupleItemsOf_ ht ?_)
 refine Yc (VT hTs ?_)
 rw[if_pos (by decide)]
 refine Yc (sliceApplied_gen hs pl pu ?_)
 have hno:¬((((sIx items.size 0 lo:Nat):Int)==0&&(1:Int)==1&&(sIx items.size items.size hi - sIx items.size 0 lo)==items.size)=true):=by
  intro q
  rw[Yp,Yp] at q
  have q1:((sIx items.size 0 lo:Nat):Int)=0:=eq_of_beq q.1.1
  have q2:sIx items.size items.size hi - sIx items.size 0 lo=items.size:=eq_of_beq q.2
  exact hw ⟨by lia,by lia⟩
 show wpAny _ _ (if (((sIx items.size 0 lo:Nat):Int)==0&&(1:Int)==1&&(sIx items.size items.size hi - sIx items.size 0 lo)==items.size)=true then _ else _) _ _ s
 rw[if_neg hno,pick_gen]
 first
  | exact Yc (m:=XX _) (Xr (Yk ⟨_,rfl,Yk h⟩) htake)
  | exact Yc (m:=XX _) (Xr (Yc (Yk (Yk ⟨_,rfl,Yk h⟩))) htake)
  | exact Yc (Yc (m:=XX _) (Xr (Yk (Yk ⟨_,rfl,Yk h⟩)) htake))
  | exact Yc (Yc (m:=XX _) (Xr (Yk ⟨_,rfl,Yk h⟩) htake))
end
end HT
namespace L2
open PySem PySem.Spec PyProof.Rows
abbrev TO:=St->Hp->(Option Int->Hp->Prop)->Prop
def PO (X:Cx)(e:Option Expr)(t:TO):Prop:=
 ∀(pins:List (Addr×Obj)) (s:Shared) (σ:St) (H:Hp) (Q:Option Int->Hp->Prop),Inv X pins σ H s->t σ H Q->
  wpAny (model X.prog X.w) X.A (evalPart e X.env) (fun u s'=>∃o H',Inv X pins σ H' s'/\IsPart u o/\Q o H') X.xe s
def tNoPart:TO:=fun _ H Q=>Q none H
def tPart (t:TE):TO:=fun σ H Q=>t σ H fun x H1=>∃i,x=.int i/\Q (some i) H1
section
variable {X:Cx}{e:Expr}{te:TE}{lo hi:Option Expr}{tl th:TO}{pos p2:Pos}
theorem po_none:PO X none tNoPart:=by
 intro pins s σ H Q I h
 rw[evalPart_none]
 exact Yk ⟨none,H,I,.none,h⟩
theorem po_some (h:PE X e te):PO X (some e) (tPart te):=by
 intro pins s σ H Q I hw
 rw[evalPart_some]
 refine thn (h pins s σ H _ I hw) fun u s1 h_=>?_
 obtain ⟨x,H1,I1,r1,q1⟩:=h_
 obtain ⟨i,rfl,q⟩:=q1
 obtain ⟨t,rfl⟩:=r1
 exact ⟨some i,H1,I1,.int i t,q⟩
def SlR (X:Cx)(r:V->Option Int->Option Int->Hp->VK->Prop):Prop:=
 ∀(pins:List (Addr×Obj)) (s:Shared) (σ:St) (H:Hp) (x:V) (v vl vu:Value) (lo hi:Option Int) (sl:Addr) (Q:VK),Inv X pins σ H s->RelV x v->s.heap.IsSliceOf sl vl vu .none->IsPart vl lo->IsPart vu hi->r x lo hi H Q->
  ∃T id,typeLookup (.type T) "__getitem__"=pure (some (.builtin id))/\s.TypeIs v T/\wpAny (model X.prog X.w) X.A (VS v (.ref sl)) (EP X pins σ Q) X.xe s
theorem SlR.or {r r':V->Option Int->Option Int->Hp->VK->Prop}(h:SlR X r)(h':SlR X r'):SlR X (fun x lo hi H Q=>r x lo hi H Q\/r' x lo hi H Q):=by
 intro pins s σ H x v vl vu lo hi sl Q I rx hs pl pu q
 rcases q with q | q
 ·exact h pins s σ H x v vl vu lo hi sl Q I rx hs pl pu q
 ·exact h' pins s σ H x v vl vu lo hi sl Q I rx hs pl pu q
def tSl (r:V->Option Int->Option Int->Hp->VK->Prop)(te:TE)(tl th:TO):TE:=fun σ H Q=>te σ H fun x H1=>tl σ H1 fun l H2=>th σ H2 fun u H3=>r x l u H3 Q
theorem pe_slice {r:V->Option Int->Option Int->Hp->VK->Prop}(hr:SlR X r)(he:PE X e te)(hl:PO X lo tl)(hu:PO X hi th):PE X (.Subscript e (.Slice lo hi none p2) pos) (tSl r te tl th):=by
 intro pins s σ H Q I h
 refine Subscript_ (thn (he pins s σ H _ I h) fun v s1 h_=>?_)
 obtain ⟨x,H1,I1,r1,q1⟩:=h_
 refine wpAny_Slice (thn (hl pins s1 σ H1 _ I1 q1) fun vl s2 ⟨l,H2,I2,pl,q2⟩=>thn (hu pins s2 σ H2 _ I2 q2) fun vu s3 h_=>?_)
 obtain ⟨u,H3,I3,pu,q3⟩:=h_
 rw[evalPart_none]
 refine Yk ?_
 have I4:Inv X pins σ H3 { s3 with heap:=s3.heap.push { cls:=.type "slice",data:=.fields #[vl,vu,.none] } }:=I3.kept (t':=s3.toks) fun b ob q=>Yb _ q
 obtain ⟨T,id,hT,ht,hg⟩:=hr pins { s3 with heap:=s3.heap.push { cls:=.type "slice",data:=.fields #[vl,vu,.none] } } σ H3 x v vl vu l u s3.heap.objs.size Q I4 r1 (Heap.IsSliceOf.new ..) pl pu q3
 show wpAny (model X.prog X.w) X.A (subscriptTail e (.Slice lo hi none p2) v (.ref s3.heap.objs.size)) (EP X pins σ Q) X.xe { s3 with heap:=s3.heap.push { cls:=.type "slice",data:=.fields #[vl,vu,.none] } }
 exact tail_any (ops:=[.ref s3.heap.objs.size,v]) ht hT hg (by with_unfolding_all rfl)
def cutV (xs:List V)(lo hi:Option Int):List V:=(xs.drop (HT.sIx xs.length 0 lo)).take (HT.sIx xs.length xs.length hi - HT.sIx xs.length 0 lo)
theorem Zdb (xs:List V)(lo hi:Option Int):(cutV xs lo hi).length<=xs.length:=by
 unfold cutV
 rw[XI,List.length_drop]
 lia
def rSlT (K:W.Frag):V->Option Int->Option Int->Hp->VK->Prop:=fun x lo hi H Q=>∃a xs,x=.ref a/\SqT K H a xs/\
 ¬(HT.sIx xs.length 0 lo=0/\HT.sIx xs.length xs.length hi=xs.length)/\∀p,H p=none->Q (.ref p) (upd H p (.tup (cutV xs lo hi)))
theorem sl_tup:SlR X (rSlT X.K):=by
 intro pins s σ H x v vl vu lo hi sl Q I rx hs pl pu h
 obtain ⟨a,xs,rfl,hx,hw,q⟩:=h
 cases rx
 obtain ⟨its,r,ht,hz⟩:=I.tuple hx
 have hlen:its.toArray.size=xs.length:=by rw[Yl];exact r.length.symm
 refine ⟨"tuple",_,Y0.lookup,ht.typeIs,?_⟩
 refine HT.getItem_tuple_cut ht hs pl pu (by rw[hlen];exact hw) ?_ (by rw[hlen];exact hz)
 rw[hlen]
 refine ⟨.ref s.heap.objs.size,_,I.laid (t':=s.toks) (o:=.tup (cutV xs lo hi)) (fun b ob q=>Yb _ q) (Yx _) ?_,rfl,q _ (I.hok.fresh (Yx _))⟩
 exact ⟨YB (Zdb xs lo hi) hz,_,(r.drop (HT.sIx xs.length 0 lo)).take (HT.sIx xs.length xs.length hi - HT.sIx xs.length 0 lo),IsTup.new _ _⟩
def rCatT (K:W.Frag):R2:=fun x y H Q=>∃a b xs ys,x=.ref a/\y=.ref b/\SqT K H a xs/\SqT K H b ys/\xs≠[]/\xs.length + ys.length<=Yn/\
 (ys=[]->Q (.ref a) H)/\(ys≠[]->∀p,H p=none->Q (.ref p) (upd H p (.tup (xs++ys))))
theorem Vals.nil_iff {xs:List V}{us:List Value}(r:Vals xs us):us=[]↔xs=[]:=by
 cases r with
 | nil=>simp
 | cons _ _=>simp
theorem op_catT:OpR X (X6 .Add) (rCatT X.K):=by
 intro pins s σ H x y v u Q I rx ry h
 obtain ⟨a,b,xs,ys,rfl,rfl,ha,hb,hx,hz,q1,q2⟩:=h
 cases rx
 cases ry
 obtain ⟨its,r1,p1,_⟩:=I.tuple ha
 obtain ⟨its2,r2,p2,_⟩:=I.tuple hb
 refine HT.cat_tup p1 p2 (fun z=>hx (r1.nil_iff.mp z)) (fun z=>⟨.ref a,H,I,rfl,q1 (r2.nil_iff.mp z)⟩) (fun z=>?_) (by rw[←r1.length,←r2.length];exact hz)
 refine ⟨.ref s.heap.objs.size,_,I.laid (t':=s.toks) (o:=.tup (xs++ys)) (fun b ob q=>Yb _ q) (Yx _) ?_,rfl,q2 (fun w=>z (r2.nil_iff.mpr w)) _ (I.hok.fresh (Yx _))⟩
 exact ⟨by rw[YU];exact hz,_,r1.append r2,IsTup.new _ _⟩
end
def ixN (n:Nat)(i:Int):Option Nat:=if 0<=i then (if i < n then some i.toNat else none) else if -(n:Int)<=i then some (i + n).toNat else none
def atI {α:Type}(xs:List α)(i:Int):Option α:=(ixN xs.length i).bind fun j=>xs[j]?
theorem ixN_seq {n:Nat}{i:Int}{j:Nat}(h:ixN n i=some j):seqIndex? i n=some j/\j < n/\-(n:Int)<=i/\i < n:=by
 unfold ixN at h
 by_cases h0:0<=i
 ·rw[if_pos h0] at h
  by_cases h1:i < n
  ·rw[if_pos h1] at h
   have e:i.toNat=j:=Yz h
   exact ⟨by rw[seqIndex_of h0 h1,e],by lia,by lia,h1⟩
  ·rw[if_neg h1] at h;cases h
 ·rw[if_neg h0] at h
  by_cases h1:-(n:Int)<=i
  ·rw[if_pos h1] at h
   have e:(i + n).toNat=j:=Yz h
   exact ⟨by rw[seqIndex_neg (by lia) h1,e],by lia,h1,by lia⟩
  ·rw[if_neg h1] at h;cases h
theorem atI_get {α:Type}{xs:List α}{i:Int}{v:α}(h:atI xs i=some v):∃j,seqIndex? i xs.length=some j/\xs[j]? = some v/\j < xs.length/\-(xs.length:Int)<=i/\i < xs.length:=by
 unfold atI at h
 cases e:ixN xs.length i with
 | none=>rw[e] at h;cases h
 | some j=>
  rw[e] at h
  obtain ⟨h1,h2,h3,h4⟩:=ixN_seq e
  exact ⟨j,h1,h,h2,h3,h4⟩
def PlainIx (b:Expr):Prop:=∀o i,subscripted b false o i=operate [o,i] (VS o i)
def IxR (X:Cx)(r:R2):Prop:=
 ∀(value slice:Expr) (pins:List (Addr×Obj)) (s:Shared) (σ:St) (H:Hp) (x y:V) (v u:Value) (Q:VK),Inv X pins σ H s->RelV x v->RelV y u->r x y H Q->
  subscripted slice false v u=operate [v,u] (VS v u)->wpAny (model X.prog X.w) X.A (subscriptTail value slice v u) (EP X pins σ Q) X.xe s
def MtR (X:Cx)(id:String)(r:V->List V->Hp->VK->Prop):Prop:=
 ∀(pins:List (Addr×Obj)) (s:Shared) (σ:St) (H:Hp) (x:V) (xs:List V) (v:Value) (us:List Value) (Q:VK),Inv X pins σ H s->RelV x v->Vals xs us->r x xs H Q->
  wpAny (model X.prog X.w) X.A (call (.builtin id) (v::us)) (EP X pins σ Q) X.xe s
section
variable {X:Cx}{a b:Expr}{ta tb:TE}{pos:Pos}
theorem IxR.or {r r':R2}(h:IxR X r)(h':IxR X r'):IxR X (fun x y H Q=>r x y H Q\/r' x y H Q):=by
 intro value slice pins s σ H x y v u Q I rx ry q hs
 rcases q with q | q
 ·exact h value slice pins s σ H x y v u Q I rx ry q hs
 ·exact h' value slice pins s σ H x y v u Q I rx ry q hs
theorem pe_ix {r:R2}(hr:IxR X r)(ha:PE X a ta)(hb:PE X b tb)(hs:PlainIx b):PE X (.Subscript a b pos) (tOp r ta tb):=by
 intro pins s σ H Q I h
 exact Subscript_ (binT ha hb I h fun v u s2 x y H2 I2 rx ry q=>hr a b pins s2 σ H2 x y v u Q I2 rx ry q (hs _ _))
def rIxL (K:W.Frag):R2:=fun x y H Q=>∃p xs i v,x=.ref p/\y=.int i/\SqL K H p xs/\atI xs i=some v/\Q v H
def rIxT (K:W.Frag):R2:=fun x y H Q=>∃p xs i v,x=.ref p/\y=.int i/\SqT K H p xs/\atI xs i=some v/\Q v H
def rIxS:R2:=fun x y H Q=>∃z i c,x=.str z/\y=.int i/\z.length<=Yn/\atI z.cps.toList i=some c/\Q (.str ⟨#[c]⟩) H
theorem ix_list:IxR X (rIxL X.K):=by
 intro value slice pins s σ H x y v u Q I rx ry h hs
 obtain ⟨p,xs,i,z,rfl,rfl,hq,he,q⟩:=h
 cases rx
 obtain ⟨t,rfl⟩:=ry
 obtain ⟨its,r,pl,hz⟩:=I.list hq
 obtain ⟨j,h1,h2,h3,h4,h5⟩:=atI_get he
 obtain ⟨w,ew,rw'⟩:=r.get h2
 have hl:=r.length
 have hn:=line63
 have fin:EP X pins σ Q w s:=⟨z,H,I,rw',q⟩
 by_cases h0:0<=i
 ·have hj:i.toNat=j:=by
   rw[seqIndex_of h0 h5] at h1
   exact Yz h1
  exact item_listR pl.isList h0 (by lia) (by rw[hj];simpa using ew) fin hs
 ·have hj:(i + (its.toArray.size:Int)).toNat=j:=by
   rw[seqIndex_neg (by lia) h4] at h1
   rw[Yl,←hl]
   exact Yz h1
  exact subscriptTail_builtinR (x:=w) pl.isList.typeIs slot_list_getitem.lookup
   (wpAny_getItem_list_neg (Q:=fun r s'=>r=w/\EP X pins σ Q r s') pl.isList (by lia) (by rw[Yl]<;>lia) (by lia) (by rw[hj];simpa using ew) ⟨rfl,fin⟩) hs
theorem ix_tup:IxR X (rIxT X.K):=by
 intro value slice pins s σ H x y v u Q I rx ry h hs
 obtain ⟨p,xs,i,z,rfl,rfl,hq,he,q⟩:=h
 cases rx
 obtain ⟨t,rfl⟩:=ry
 obtain ⟨its,r,pl,hz⟩:=I.tuple hq
 obtain ⟨j,h1,h2,h3,h4,h5⟩:=atI_get he
 obtain ⟨w,ew,rw'⟩:=r.get h2
 have hl:=r.length
 have hn:=line63
 have fin:EP X pins σ Q w s:=⟨z,H,I,rw',q⟩
 exact subscriptTail_builtinR (x:=w) pl.typeIs slot_tuple_getitem.lookup
  (getItem_tuple (j:=j) (Q:=fun r s'=>r=w/\EP X pins σ Q r s') pl (by lia) (by lia) (by rw[Yl,←hl];exact h1) (by simpa using ew) ⟨rfl,fin⟩) hs
theorem ix_str:IxR X rIxS:=by
 intro value slice pins s σ H x y v u Q I rx ry h hs
 obtain ⟨z,i,c,rfl,rfl,hz,he,q⟩:=h
 obtain ⟨t,rfl⟩:=rx
 obtain ⟨t',rfl⟩:=ry
 obtain ⟨j,h1,h2,h3,h4,h5⟩:=atI_get he
 have hl:z.cps.toList.length=z.length:=by simp[Str.length]
 rw[hl] at h1 h4 h5
 have hn:=line63
 exact tail_any (typeIs_str s z t) slot_str_getitem.lookup (getItem_str (c:=c) (by
  have e1:decide (i < -(2 ^ 63:Int))=false:=decide_eq_false (by lia)
  have e2:decide (i ≥ 2 ^ 63)=false:=decide_eq_false (by lia)
  rw[e1,e2,Bool.or_false]) (by rw[h1];simpa using h2) ⟨.str ⟨#[c]⟩,H,I.tok _,⟨_,rfl⟩,q⟩) hs
def rIx (K:W.Frag):R2:=fun x y H Q=>rIxL K x y H Q\/rIxT K x y H Q\/rIxS x y H Q
theorem ix_seq:IxR X (rIx X.K):=ix_list.or (ix_tup.or ix_str)
theorem mapSeq_set (its:List Value)(n j:Nat)(u:Value):Xx (·.setIfInBounds j u) { cls:=.type "list",data:=.seq its.toArray n }={ cls:=.type "list",data:=.seq (its.set j u).toArray n }:=by
 simp[Xx]
theorem Inv.lst {pins:List (Addr×Obj)}{σ:St}{H:Hp}{s:Shared}{p:Addr}{xs:List V}(I:Inv X pins σ H s)(h:H p=some (.lst xs)):
  ∃(its:List Value) (n:Nat),Vals xs its/\s.heap.get? p=some { cls:=.type "list",data:=.seq its.toArray n }/\xs.length<=sizeLine:=by
 obtain ⟨z,its,n,r,e⟩:=I.hok p _ h
 exact ⟨its,n,r,e,z⟩
theorem Inv.lstUpd {pins:List (Addr×Obj)}{σ:St}{H:Hp}{s:Shared}{p:Addr}{xs ys:List V}{its its':List Value}{n n':Nat}{f:Obj->Obj}(I:Inv X pins σ H s)(h:H p=some (.lst xs))
  (ho:s.heap.get? p=some { cls:=.type "list",data:=.seq its.toArray n }) (hf:f { cls:=.type "list",data:=.seq its.toArray n }={ cls:=.type "list",data:=.seq its'.toArray n' }) (r:Vals ys its') (hz:ys.length<=Yn) (t:Nat):
  Inv X pins σ (upd H p (.lst ys)) { s with heap:=s.heap.update p f,toks:=t }:=by
 have e:(s.heap.update p f).get? p=some { cls:=.type "list",data:=.seq its'.toArray n' }:=by
  rw[Vb f ho (by rw[hf]<;>rfl),hf]
 refine I.write (x:=p) (e:=p) (by rw[h];trivial) (.inl rfl) (fun b u hb q=>(Heap.get?_update_other _ _ (XA hb)).trans q) ⟨_,e⟩ ?_
 exact ⟨hz,its',n',r,e⟩
def rSetL:V->V->V->Hp->(Hp->Prop)->Prop:=fun o i v H Q=>∃p xs k j,o=.ref p/\i=.int k/\H p=some (.lst xs)/\ixN xs.length k=some j/\Q (upd H p (.lst (xs.set j v)))
theorem set_list:PSet X rSetL:=by
 intro pins s σ H o i v ov iv u Q I ro ri rv h
 obtain ⟨p,xs,k,j,rfl,rfl,hp,hj,q⟩:=h
 cases ro
 obtain ⟨t,rfl⟩:=ri
 obtain ⟨its,n,r,ho,hz⟩:=I.lst hp
 obtain ⟨h1,h2,h3,h4⟩:=ixN_seq hj
 have hl:=r.length
 have hn:=line63
 have I':Inv X pins σ (upd H p (.lst (xs.set j v))) { s with heap:=s.heap.update p (Xx (·.setIfInBounds j u)) }:=
  I.lstUpd hp ho (mapSeq_set its n j u) (r.set rv j) (by rw[VU];exact hz) s.toks
 by_cases h0:0<=k
 ·have hk:k.toNat=j:=by
   rw[seqIndex_of h0 h4] at h1
   exact Yz h1
  exact W.ki_setAt ho h0 (by lia) (by rw[Yl,←hl];exact h4) (by rw[hk];exact ⟨_,I',q⟩)
 ·have hk:(k + (its.toArray.size:Int)).toNat=j:=by
   rw[seqIndex_neg (by lia) h3] at h1
   rw[Yl,←hl]
   exact Yz h1
  exact W.ki_setBack ho (by lia) (by rw[Yl,←hl];exact h3) (by lia) (by rw[hk];exact ⟨_,I',q⟩)
theorem slice_bounds (lo hi:Option Int)(n:Nat):(W3 lo hi none n).1=((HT.sIx n 0 lo:Nat):Int)/\(W3 lo hi none n).2.1=((HT.sIx n n hi:Nat):Int)/\(W3 lo hi none n).2.2=1:=by
 refine ⟨?_,?_,rfl⟩
 ·cases lo with
  | none=>simp[W3,HT.sIx]
  | some i=>
   simp only[W3,HT.sIx,Option.getD_none,show (1:Int) > 0 by decide,if_true]
   by_cases h:i < 0
   ·simp only[h,if_true]<;>lia
   ·simp only[h,if_false]<;>lia
 ·cases hi with
  | none=>simp[W3,HT.sIx]
  | some i=>
   simp only[W3,HT.sIx,Option.getD_none,show (1:Int) > 0 by decide,if_true]
   by_cases h:i < 0
   ·simp only[h,if_true]<;>lia
   ·simp only[h,if_false]<;>lia
theorem slicePick_cut (its:List Value)(lo hi:Option Int):slicePick its.toArray lo hi none=((its.drop (HT.sIx its.length 0 lo)).take (HT.sIx its.length its.length hi - HT.sIx its.length 0 lo)).toArray:=by
 obtain ⟨h1,h2,h3⟩:=slice_bounds lo hi its.toArray.size
 unfold slicePick
 rw[h1,h2,h3]
 simp only[sliceRange_one,pick_run,Yl]<;>rfl
def rSlL (K:W.Frag):V->Option Int->Option Int->Hp->VK->Prop:=fun x lo hi H Q=>∃a xs,x=.ref a/\SqL K H a xs/\∀p,H p=none->Q (.ref p) (upd H p (.lst (cutV xs lo hi)))
theorem sl_list:SlR X (rSlL X.K):=by
 intro pins s σ H x v vl vu lo hi sl Q I rx hs pl pu h
 obtain ⟨a,xs,rfl,hx,q⟩:=h
 cases rx
 obtain ⟨its,r,ht,hz⟩:=I.list hx
 have hlen:=r.length
 refine ⟨"list",_,slot_list_getitem.lookup,ht.isList.typeIs,?_⟩
 refine wpAny_getItem_list_slice ht.isList hs pl pu .none (by simp) ?_ (by rw[Yl]<;>lia)
 rw[slicePick_cut,←hlen]
 refine ⟨.ref s.heap.objs.size,_,I.laid (t':=s.toks) (o:=.lst (cutV xs lo hi)) (fun b ob q=>Yb _ q) (Yx _) ?_,rfl,q _ (I.hok.fresh (Yx _))⟩
 exact ⟨YB (Zdb xs lo hi) hz,_,0,(r.drop (HT.sIx xs.length 0 lo)).take (HT.sIx xs.length xs.length hi - HT.sIx xs.length 0 lo),Yh _ rfl⟩
def flatV:V->Bool
 | .non=>true
 | .bl _=>true
 | .int _=>true
 | .str _=>true
 | _=>false
def eqV:V->V->Bool
 | .non,.non=>true
 | .bl a,.bl b=>a==b
 | .bl a,.int b=>(if a then 1 else 0)==b
 | .int a,.bl b=>a==(if b then 1 else 0)
 | .int a,.int b=>a==b
 | .str a,.str b=>a==b
 | _,_=>false
theorem eqAt_V {A:Around}{s:Shared}{y x:V}{u v:Value}(ry:RelV y u)(rx:RelV x v)(fy:flatV y=true)(fx:flatV x=true):SeqAt.EqAt A s u v (eqV y x):=by
 cases y with
 | non=>
  cases ry
  cases x with
  | non=>cases rx;exact SeqAt.EqAt.same _
  | bl b=>cases rx;exact SeqAt.EqAt.none_bool b
  | int b=>obtain ⟨t,rfl⟩:=rx;exact SeqAt.EqAt.none_int b t
  | str b=>obtain ⟨t,rfl⟩:=rx;exact SeqAt.EqAt.none_str b t
  | _=>exact absurd (show false=true from fx) Yi
 | bl a=>
  cases ry
  cases x with
  | non=>cases rx;exact SeqAt.EqAt.bool_none a
  | bl b=>cases rx;exact SeqAt.EqAt.bool_bool a b
  | int b=>obtain ⟨t,rfl⟩:=rx;exact SeqAt.EqAt.bool_int a b t
  | str b=>obtain ⟨t,rfl⟩:=rx;exact SeqAt.EqAt.bool_str a b t
  | _=>exact absurd (show false=true from fx) Yi
 | int a=>
  obtain ⟨t',rfl⟩:=ry
  cases x with
  | non=>cases rx;exact SeqAt.EqAt.int_none a t'
  | bl b=>cases rx;exact SeqAt.EqAt.int_bool a t' b
  | int b=>obtain ⟨t,rfl⟩:=rx;exact SeqAt.EqAt.int_int a t' b t
  | str b=>obtain ⟨t,rfl⟩:=rx;exact SeqAt.EqAt.int_str a t' b t
  | _=>exact absurd (show false=true from fx) Yi
 | str a=>
  obtain ⟨t',rfl⟩:=ry
  cases x with
  | non=>cases rx;exact SeqAt.EqAt.str_none a t'
  | bl b=>cases rx;exact SeqAt.EqAt.str_bool a t' b
  | int b=>obtain ⟨t,rfl⟩:=rx;exact SeqAt.EqAt.str_int a t' b t
  | str b=>obtain ⟨t,rfl⟩:=rx;exact SeqAt.EqAt.str_str a t' b t
  | _=>exact absurd (show false=true from fx) Yi
 | _=>exact absurd (show false=true from fy) Yi
def eqU (x:V)(u:Value):Bool:=match u with
 | .none=>eqV .non x
 | .bool b=>eqV (.bl b) x
 | .int i _=>eqV (.int i) x
 | .str z _=>eqV (.str z) x
 | _=>false
theorem eqU_of {x y:V}{u:Value}(r:RelV y u)(f:flatV y=true):eqU x u=eqV y x:=by
 cases y with
 | non=>cases r;rfl
 | bl b=>cases r;rfl
 | int i=>obtain ⟨t,rfl⟩:=r;rfl
 | str z=>obtain ⟨t,rfl⟩:=r;rfl
 | _=>exact absurd (show false=true from f) Yi
theorem any_eqU {x:V}:∀{xs:List V} {us:List Value},Vals xs us->xs.all flatV=true->us.any (eqU x)=xs.any fun y=>eqV y x
 | _,_,.nil,_=>rfl
 | y::xs,u::us,.cons r t,f=>by
  rw[XB,Yp] at f
  rw[XJ,XJ,eqU_of r f.1,any_eqU t f.2]
theorem ZcI {A:Around}{s:Shared}{x:V}{v:Value}(rx:RelV x v)(fx:flatV x=true):∀{xs:List V} {us:List Value},Vals xs us->xs.all flatV=true->∀u∈us,SeqAt.EqAt A s u v (eqU x u)
 | _,_,.nil,_=>fun u hu=>by cases hu
 | y::xs,u::us,.cons r t,f=>fun u' hu=>by
  rw[XB,Yp] at f
  rcases Ye.mp hu with rfl | hu
  ·rw[eqU_of r f.1];exact eqAt_V r rx f.1 fx
  ·exact ZcI rx fx t f.2 u' hu
def inV (x:V)(xs:List V):Bool:=xs.any fun y=>eqV y x
def rIn (K:W.Frag)(neg:Bool):R2:=fun x y H Q=>∃p xs,y=.ref p/\(SqL K H p xs\/SqT K H p xs)/\flatV x=true/\xs.all flatV=true/\Q (.bl (if neg then !inV x xs else inV x xs)) H
theorem op_in_seq:OpR X (YZ .In) (rIn X.K false):=by
 intro pins s σ H x y v u Q I rx ry h
 obtain ⟨p,xs,rfl,hq,fx,fs,q⟩:=h
 cases ry
 rcases hq with hq | hq
 ·obtain ⟨its,r,pl,hz⟩:=I.list hq
  refine SeqAt.in_listAt (eqU x) pl.isList (fun w hw=>ZcI rx fx r fs w (by simpa using hw)) ⟨.bl _,H,I,rfl,?_⟩
  rw[show its.toArray.any (eqU x)=its.any (eqU x) by simp,any_eqU r fs]
  exact q
 ·obtain ⟨its,r,pl,hz⟩:=I.tuple hq
  refine SeqAt.in_tupleAt (eqU x) pl (fun w hw=>ZcI rx fx r fs w (by simpa using hw)) ⟨.bl _,H,I,rfl,?_⟩
  rw[show its.toArray.any (eqU x)=its.any (eqU x) by simp,any_eqU r fs]
  exact q
theorem CallR.or {f:Value}{r r':List V->Hp->VK->Prop}(h:CallR X f r)(h':CallR X f r'):CallR X f (fun xs H Q=>r xs H Q\/r' xs H Q):=by
 intro pins s σ H xs us Q I rs q
 rcases q with q | q
 ·exact h pins s σ H xs us Q I rs q
 ·exact h' pins s σ H xs us Q I rs q
theorem call_tuple_of:CallR X (.type "tuple") (fun xs H Q=>∃p ys,xs=[.ref p]/\((SqL X.K H p ys/\∀l,H l=none->Q (.ref l) (upd H l (.tup ys)))\/(SqT X.K H p ys/\Q (.ref p) H))):=by
 intro pins s σ H xs us Q I r h
 obtain ⟨p,ys,rfl,h⟩:=h
 obtain ⟨u,rfl,rx⟩:=vals1 r
 cases rx
 rcases h with ⟨hq,q⟩ | ⟨hq,q⟩
 ·obtain ⟨its,r',pl,hz⟩:=I.list hq
  have hlen:=r'.length
  refine call_tuple_list pl.isList (fun h' kp=>?_) (by simp only[Yl]<;>lia)
  have I1:Inv X pins σ H { s with heap:=h' }:=I.kept (t':=s.toks) kp
  have I2:Inv X pins σ (upd H h'.objs.size (.tup ys)) { s with heap:=h'.push { cls:=.type "tuple",data:=.seq its.toArray } }:=
   I1.laid (t':=s.toks) (fun b o e=>Yb _ e) (Yx _) (show ObjOk X.prog X.w _ _ _ (.tup ys) from ⟨hz,its,r',IsTup.new _ _⟩)
  exact ⟨.ref h'.objs.size,_,I2,rfl,q _ (I1.hok.fresh (Yx _))⟩
 ·obtain ⟨its,r',pl,hz⟩:=I.tuple hq
  exact call_tuple_same pl ⟨.ref p,H,I,rfl,q⟩
def tyV (K:W.Frag)(T:String)(x:V)(H:Hp):Prop:=match x with
 | .str _=>T="str"
 | .int _=>T="int"
 | .ref p=>(T="list"/\∃xs,SqL K H p xs)\/(T="tuple"/\∃o,K.lookup p=some o/\o.cls=.type "tuple"/\o.dict=none)\/
   (T="dict"/\((∃kvs,H p=some (.dK kvs))\/∃kvs,H p=some (.dT kvs)))\/(T="set"/\∃S n,H p=some (.set S n))
 | _=>False
theorem tyV_is {pins:List (Addr×Obj)}{σ:St}{H:Hp}{s:Shared}{T:String}{x:V}{v:Value}(I:Inv X pins σ H s)(r:RelV x v)(ty:tyV X.K T x H):
  s.TypeIs v T/\∀a,v=.ref a->∃ob,s.heap.get? a=some ob/\ob.dict=none:=by
 cases x with
 | str z=>
  obtain ⟨t,rfl⟩:=r
  cases (show T="str" from ty)
  exact ⟨typeIs_str s z t,fun _ e=>nomatch e⟩
 | int i=>
  obtain ⟨t,rfl⟩:=r
  cases (show T="int" from ty)
  exact ⟨typeIs_int s i t,fun _ e=>nomatch e⟩
 | ref p=>
  cases r
  rcases ty with ⟨rfl,xs,hq⟩ | ⟨rfl,o,hk,hc,hd⟩ | ⟨rfl,hk⟩ | ⟨rfl,S,n,hk⟩
  ·obtain ⟨its,_,pl,_⟩:=I.list hq
   refine ⟨pl.isList.typeIs,fun a e=>?_⟩
   cases e
   obtain ⟨o,n,e,c,hd,_⟩:=pl
   exact ⟨o,e,hd⟩
  ·refine ⟨⟨o,I.kIn p o hk,hc⟩,fun a e=>?_⟩
   cases e
   exact ⟨o,I.kIn _ o hk,hd⟩
  ·have z:∃o,s.heap.get? p=some o/\o.ExactDict:=by
    rcases hk with ⟨kvs,hk⟩ | ⟨kvs,hk⟩
    ·obtain ⟨_,_,_,_,o,_,_,e,ex,_⟩:=I.hok p _ hk
     exact ⟨o,e,ex⟩
    ·obtain ⟨_,_,_,_,o,_,_,e,ex,_⟩:=I.hok p _ hk
     exact ⟨o,e,ex⟩
   obtain ⟨o,e,ex⟩:=z
   refine ⟨⟨o,e,ex.1⟩,fun a e2=>?_⟩
   cases e2
   exact ⟨o,e,ex.2.1⟩
  ·obtain ⟨o,_,_,_,e,ex,_⟩:=I.hok p _ hk
   refine ⟨⟨o,e,ex.1⟩,fun a e2=>?_⟩
   cases e2
   exact ⟨o,e,ex.2.1⟩
 | _=>exact Wl ty
def tBM (K:W.Frag)(T:String)(r:V->List V->Hp->VK->Prop)(to:TE)(t:TA):TE:=fun σ H Q=>to σ H fun x H1=>tyV K T x H1/\t σ H1 fun xs H2=>r x xs H2 Q
variable {o e:Expr}{es:List Expr}{to:TE}{t:TA}{name:Str}{apos cpos:Pos}{T id:String}{r:V->List V->Hp->VK->Prop}
theorem pe_bm (pa:PlainAttrs T)(slot:Slot T name id)(hty:typeOf (.builtin id)=pure (.type "method_descriptor"))(hm:MtR X id r)(ho:PE X o to)(ha:PA X (e::es) t)
  (hbase:XM o name X.env (eval o X.env)=eval o X.env:=by rfl)
  (hfew:((backTo cpos (Yg (e::es) X.env)).all (fun x=>!x.1)&&(Vx cpos (Wt [] X.env)).all (fun x=>x.1.isSome)
   &&decide ((e::es).length + ([]:List Wu).length + (if ([]:List Wu).isEmpty then 0 else 1) < 30))=true:=by rfl)
  (hline:(apos.endLine==cpos.line)=true:=by rfl) (hs:Yg (e::es) X.env=(false,eval e X.env)::Yg es X.env:=by rfl) (hplain:(backTo cpos (Yg es X.env)).any (·.1)=false:=by rfl):
  PE X (.Call (.Attribute o name apos) (e::es) [] cpos) (tBM X.K T r to t):=by
 intro pins s σ H Q I h
 refine wpAny_Call_method_late hbase hfew hline rfl (thn (ho pins s σ H _ I h) fun v s1 h_=>?_)
 obtain ⟨x,H1,I1,r1,ty,q1⟩:=h_
 obtain ⟨h1,h2⟩:=tyV_is I1 r1 ty
 refine ⟨T,id,pa,slot,hty,h1,h2,?_⟩
 have hA:=ha cpos pins s1 σ H1 _ I1 q1
 rw[hs] at hA ⊢
 refine Calls.callWith_builtin (by show (false||(backTo cpos (Yg es X.env)).any (·.1))=false;rw[hplain]<;>rfl) (Calls.evalArgs_plain ?_)
 exact thn hA fun us s2 ⟨vs,H2,I2,r2,q2⟩=>hm pins s2 σ H2 x vs v us Q I2 r1 r2 q2
end
def MtM (X:Cx)(id:String)(r:V->List V->Hp->VK->Prop):Prop:=
 ∀(pins:List (Addr×Obj)) (s:Shared) (σ:St) (H:Hp) (x:V) (xs:List V) (v:Value) (us:List Value) (Q:VK),Inv X pins σ H s->RelV x v->Vals xs us->r x xs H Q->
  wpAny (model X.prog X.w) X.A (call (.builtin id) (v::us)) (EP X pins σ Q) X.xe s
theorem Vals.one:∀{x:V} {us:List Value},Vals [x] us->∃u,us=[u]/\RelV x u:=by
 intro x us r
 cases r with
 | cons r t=>cases t;exact ⟨_,rfl,r⟩
theorem Vals.two:∀{x y:V} {us:List Value},Vals [x,y] us->∃u v,us=[u,v]/\RelV x u/\RelV y v:=by
 intro x y us r
 cases r with
 | cons r t=>cases t with
  | cons q t=>cases t;exact ⟨_,_,rfl,r,q⟩
section
variable {X:Cx}{pins:List (Addr×Obj)}{σ:St}{H:Hp}{s:Shared}{l b:Addr}{xs ys zs:List V}
theorem Inv.lset {its its':List Value}{n:Nat}{f:Array Value->Array Value}{t':Nat}(I:Inv X pins σ H s)(hH:H l=some (.lst xs))
  (e:s.heap.get? l=some { cls:=.type "list",data:=.seq its.toArray n }) (hf:f its.toArray=its'.toArray) (hv:Vals ys its') (hz:ys.length<=Yn):
  Inv X pins σ (upd H l (.lst ys)) { s with heap:=s.heap.update l (Xx f),toks:=t' }:=by
 have q:=PySem.IsL.update e f
 rw[hf] at q
 refine I.write (x:=l) (e:=l) (by rw[hH];exact trivial) (.inl rfl) (fun b' u hb hu=>(Heap.get?_update_other s.heap (Xx f) (XA hb)).trans hu) ⟨_,q⟩ ?_
 exact ⟨hz,its',_,hv,q⟩
theorem Inv.lnew {its:List Value}{t':Nat}(I:Inv X pins σ H s)(hv:Vals ys its)(hz:ys.length<=Yn):
  Inv X pins σ (upd H s.heap.objs.size (.lst ys)) { s with heap:=s.heap.push { cls:=.type "list",data:=.seq its.toArray },toks:=t' }:=
 I.laid (fun _ _ q=>Yb _ q) (Yx _) ⟨hz,its,0,hv,Yh _ rfl⟩
theorem Inv.fresh (I:Inv X pins σ H s):H s.heap.objs.size=none:=I.hok.fresh (Yx _)
theorem Inv.lstM (I:Inv X pins σ H s)(hH:H l=some (.lst xs)):xs.length<=Yn/\∃(its:List Value) (n:Nat),Vals xs its/\xs.length=its.length/\s.heap.get? l=some { cls:=.type "list",data:=.seq its.toArray n }:=by
 obtain ⟨z,its,n,r,e⟩:=I.hok l _ hH
 exact ⟨z,its,n,r,r.length,e⟩
end
section
variable {X:Cx}
def rAppend:V->List V->Hp->VK->Prop:=fun x vs H Q=>∃l xs y,x=.ref l/\vs=[y]/\H l=some (.lst xs)/\xs.length < Yn/\Q .non (upd H l (.lst (xs++[y])))
theorem mt_append:MtM X "list.append" rAppend:=by
 intro pins s σ H x vs v us Q I rx rv h
 obtain ⟨l,xs,y,rfl,rfl,hH,hz,q⟩:=h
 cases rx
 obtain ⟨u,rfl,ru⟩:=rv.one
 obtain ⟨z,its,n,r,hl,e⟩:=I.lstM hH
 refine call_meets F.slot_list_append ⟨_,e,rfl⟩ F.entry_list_append (F.args_list_append_2 _ _) (PySem.list_append l its.toArray n u (by rw[Yl];lia)) ⟨e,?_⟩
 refine ⟨.non,_,I.lset (its':=its++[u]) hH e (by simp) (r.append (.cons ru .nil)) ?_,rfl,q⟩
 rw[YU,List.length_singleton]
 lia
end
end L2
namespace Att
open PySem PySem.W PySem.Calls PyProof.Rows
theorem Zc2 {P:Params}{h:Heap}:∀(ns:List Int) (vs:List Value),WellAll P h vs (ns.map WData.int)->IntsAre vs ns:=by
 intro ns
 induction ns with
 | nil=>
  intro vs w
  rw[List.map_nil] at w
  cases w
  exact .nil
 | cons n ns ih=>
  intro vs w
  rw[Yr] at w
  cases w with
  | cons a b=>
   cases a
   exact .cons _ _ (ih _ b)
theorem script_of {l:OpenLaw}{n:Nat}(hn:l.most=some n){P:Params}{h:Heap}{args:List WData}{vals:List Value}
    (hpre:l.row.toRowW.claim.pre args=true) (hwl:WellAll P h vals args):
    ∃a vs ns,vals=[YY a]/\args=[WData.list (ns.map WData.int)]/\h.get? a=some { cls:=.type "list",data:=.seq vs.toArray }/\IntsAre vs ns/\ns.length<=n:=by
  have hsh:WShape.hasAll [] args [.list .int]=true:=(pre_splitW hpre).1
  have hc:l.pre.holds [] { args:=args }=true:=(pre_splitW hpre).2
  obtain ⟨d,r,rfl,h1,h2⟩:=hasAllW_cons hsh
  obtain rfl:=hasAllW_nil h2
  obtain ⟨xs,rfl,h3⟩:=hasW_list h1
  obtain ⟨ns,rfl⟩:=items_int h3
  have hlen:ns.length<=n:=by
    unfold OpenLaw.pre at hc
    have h4:(WTm.not (.lt (.lit (.int (n:Int))) (.len (.arg 0)))).holds [] { args:=[.list (ns.map .int)] }=true:=by
      have h4:=(holds_andW hc).1
      rw[hn] at h4
      exact h4
    have h5:=condW_of h4 (w_not (w_lt w_lit (w_len_list (w_arg rfl))))
    rw[Yu] at h5
    refine Nat.le_of_not_lt fun q=>?_
    have q':(n:Int) < ((ns.length:Nat):Int):=by lia
    first
      | (rw[decide_eq_true q'] at h5;exact absurd h5 (by decide))
      | (simp at h5;lia)
  cases hwl with
  | cons w1 w2=>
    cases w2
    cases w1 with
    | list ho hall=>exact ⟨_,_,ns,rfl,rfl,ho,Zc2 ns _ hall,hlen⟩
theorem post_true (l:OpenLaw)(args:List WData):l.row.toRowW.claim.post args (.bool true) args=true:=
 postW_of (r:=l.row.toRowW) (X:=(true==true))
  (show WShape.has [] (.bool true) .bool=true by first | rfl | decide | simp[WShape.has,WShape.arms,WShape.armsAll])
  (show (WTm.eq .res (.lit (.bool true))).value [] { args:=args,res:=some (.bool true),after:=args }=some (.bool (true==true)) from w_eq_bool (w_res rfl) w_lit) rfl
theorem attach_call {l:OpenLaw}{n:Nat}{q:Yo}{loose:List Str}{XP:(Str->Option Value)->Heap->Prop}{YP:World->Heap->Prop}{d:DefRec}
  (hn:l.most=some n) (hdf:d.params.defaults=[])
  (call:∀(w:World) (s₀ s₁:Shared) (mg mb:Str->Option Value) (fa:Addr) (o:Obj) (pm cd doc:Value) (a:Addr) (vs:List Value) (ns:List Int),
   Ground q loose [] XP w s₀ mg mb s₁.heap->YP w s₁.heap->
   s₁.heap.get? fa=some o->o.data=.func (docDef d.name d.params d.body d.scope pm cd doc)->s₁.heap.CodeRec cd d.name->mg d.name=some (.ref fa)->
   s₁.heap.get? a=some { cls:=.type "list",data:=.seq vs.toArray }->IntsAre vs ns->ns.length<=n->s₁.gens=#[]->
   V2 (model l.prog w) V9 (.call (.ref fa) ⟨[.ref a],[]⟩) (fun r s'=>r=.ok (.ret (.bool true))/\OldK s₁.heap s'.heap/\s'.os=s₁.os/\VN s'.gens) s₁):
  WalkO q loose XP YP l.row.toRowW d [] (fun f vs=>PySem.call f vs):=by
 intro w s₀ s₁ mg mb G Y fa o pm cd doc dV kV ho hd hcd hD hmg hg args vals as hpre hlay hrd hwl hlo
 obtain rfl:dV=.none:=Dflts.none hD hdf
 obtain rfl:kV=.none:=Dflts.noKw hD
 obtain ⟨a,vs,ns,rfl,rfl,hobj,hints,hlen⟩:=script_of hn hpre hwl
 refine enter_call (codeAny_mono (call w s₀ s₁ mg mb fa o pm cd doc a vs ns G Y ho (fd_plain hd) hcd hmg hobj hints hlen hg) fun r s' hq=>?_)
 obtain ⟨rfl,h2,h3,h4⟩:=hq
 exact ⟨.inl ⟨.bool true,.bool true,[],rfl,fun _=>rfl,.bool true,post_true l _,fun _=>⟨List.Pairwise.nil,fun _ hm=>(nomatch hm)⟩⟩,h2,h3,h4⟩
end Att
namespace L2
open PySem PySem.Spec PyProof.Rows
theorem vals_ints:∀{vs:List Value} {ns:List Int},IntsAre vs ns->Vals (ns.map V.int) vs
 | _,_,.nil=>.nil
 | _,_,.cons n t h=>.cons ⟨t,rfl⟩ (vals_ints h)
def Only (H:Hp):Prop:=∀b,H b=none\/∃o xs,H b=some (.frz o (.lst xs))
theorem law_call {P:Yo}{w:World}{K:W.Frag}{mg mb:Str->Option Value}{CX:CXT}{k:Nat}{fa a:Addr}{fd:Ym}{x:Str}{sp:Sp}{s₁:Shared}{vs:List Value}{ns:List Int}
  (KX:K.In s₁.heap) (hns:s₁.heap.Ns Y5 mg) (hb:s₁.heap.Ns builtinsNs mb) (hbb:∀x:Str,x≠"__name__"->mb x=YX x) (hlim:s₁.heap.NoLimit) (hg:s₁.gens=#[])
  (ha:s₁.heap.get? a=some { cls:=.type "list",data:=.seq vs.toArray }) (hi:IntsAre vs ns) (hl:ns.length<=Yn) (hr:Room k V9)
  (F:∀base:Heap,K.In base->base.Ns Y5 mg->FnOk P w K mg base CX k fa fd [x] sp) (hbind:∀(s:Shared) (u:Value),BindsTo s fd ⟨[u],[]⟩ [(x,u)])
  (hsp:∀H:Hp,Only H->SqL K H a (ns.map V.int)->sp [.ref a] H (fun v _=>v=.bl true) fun _ _ _=>False)
  (hCX:∀H e s',CX [] H s₁ (fun _ _ _=>False) e s'->False):
  V2 (model P w) V9 (.call (.ref fa) ⟨[.ref a],[]⟩) (fun r s'=>r=.ok (.ret (.bool true))/\OldK s₁.heap s'.heap/\s'.os=s₁.os/\VN s'.gens) s₁:=by
 have rv:=vals_ints hi
 have lenV:=hi.length
 have core:∀H:Hp,Only H->SqL K H a (ns.map V.int)->HOk P w H s₁.heap->(∀b,H b≠none->b=a)->(H a≠none->K.lookup a=none)->
   V2 (model P w) V9 (.call (.ref fa) ⟨[.ref a],[]⟩) (fun r s'=>r=.ok (.ret (.bool true))/\OldK s₁.heap s'.heap/\s'.os=s₁.os/\VN s'.gens) s₁:=by
  intro H hO hS hok hA hK
  have base_of:∀{b:Addr} {o:Obj},s₁.heap.get? b=some o->H b=none->(hidT s₁.heap H).get? b=some o:=fun e n=>hidT_get e n
  have noA:∀{b:Addr} {o:Obj} {es:Array We} {ep:Nat},s₁.heap.get? b=some o->o.data=.dict es ep->H b=none:=fun {b o es ep} e d=>by
   cases q:H b with
   | none=>rfl
   | some u=>
    have e':b=a:=hA b (by rw[q];simp)
    subst e'
    rw[ha] at e;cases e
    have d':Data.seq vs.toArray _=Data.dict es ep:=d
    cases d'
  have nsK:∀{b:Addr} {m:Str->Option Value},s₁.heap.Ns b m->(hidT s₁.heap H).Ns b m:=fun {b m} ⟨o,es,ep,e,d,r⟩=>⟨o,es,ep,base_of e (noA e d),d,r⟩
  have hKb:K.In (hidT s₁.heap H):=fun b o e=>base_of (KX b o e) (by
   cases q:H b with
   | none=>rfl
   | some u=>
    have e':b=a:=hA b (by rw[q];simp)
    subst e'
    rw[hK (by rw[q];simp)] at e;cases e)
  have hM:Mod K mg (hidT s₁.heap H):=⟨hKb,nsK hns,⟨mb,nsK hb,hbb⟩,let ⟨mc,h1,h2⟩:=hlim;⟨mc,nsK h1,h2⟩⟩
  have e0:Env0 P w K mg (hidT s₁.heap H) V9 [] s₁ H:=⟨rfl,hM,fun b o e=>of_hidT e,Nat.le_of_eq (hidT_size _ _),trivial,fun b hb=>absurd (show b∈([]:List Addr) from hb) (by simp),hok,.of_eq hg⟩
  refine codeAny_mono ((F _ hKb (nsK hns)).run V9 [] s₁ H ⟨[.ref a],[]⟩ [.ref a] [.ref a] _ _ hr e0 (hbind s₁ (.ref a)) (.cons rfl .nil) (hsp H hO hS)) fun r s' h=>?_
  cases r with
  | error e=>exact (hCX H e s' h).elim
  | ok fl=>
   cases fl with
   | next=>exact Wl h
   | brk=>exact Wl h
   | cont=>exact Wl h
   | ret u=>
    obtain ⟨v,H',os,bare,un,hok',r',q⟩:=h
    have q':v=.bl true:=q
    subst q'
    obtain rfl:u=Vh true:=r'
    refine ⟨rfl,OldK.of_keep fun b o e=>?_,os,bare⟩
    cases q:H b with
    | none=>exact un.keep b o e q (by intro z;exact absurd (show b∈([]:List Addr) from z) (by simp)) (by simp)
    | some u=>
     rcases hO b with z | ⟨ob,xs,z⟩
     ·rw[q] at z;cases z
     ·have z2:=un.frzs b ob _ z
      obtain ⟨e1,_⟩:=hok b _ z
      obtain ⟨e2,_⟩:=hok' b _ z2
      rw[e] at e1;cases e1
      exact e2
 cases hk:K.lookup a with
 | some o=>
  have e:=KX a o hk
  rw[ha] at e
  cases e
  refine core (fun _=>none) (fun _=>.inl rfl) (.inr ⟨_,vs.toArray,_,hk,rfl,rfl,rfl,by rw[Yl,lenV];exact hl,by simpa using rv⟩) (fun b u z=>by have z':(none:Option HO)=some u:=z;cases z') (fun b z=>absurd rfl z) fun z=>absurd rfl z
 | none=>
  refine core (fun b=>if b=a then some (.frz { cls:=.type "list",data:=.seq vs.toArray } (.lst (ns.map V.int))) else none) (fun b=>?_) (.inl (.inr ⟨{ cls:=.type "list",data:=.seq vs.toArray },if_pos rfl⟩)) (fun b u z=>?_) (fun b z=>?_) fun _=>hk
  ·by_cases hb:b=a
   ·exact .inr ⟨_,_,if_pos hb⟩
   ·exact .inl (if_neg hb)
  ·by_cases hb:b=a
   ·have z':=(if_pos hb).symm.trans z
    cases z'
    subst hb
    exact ⟨ha,by rw[Yu];exact hl,vs,_,rv,ha⟩
   ·have z':=(if_neg hb).symm.trans z
    cases z'
  ·by_cases hb:b=a
   ·exact hb
   ·exact absurd (if_neg hb) z
def defArgs (s:Stmt):Arguments:=match s with
 | .FunctionDef _ a _ _ _ _ _ _ _ _=>a
 | _=>{ posonlyargs:=[],args:=[],vararg:=none,kwonlyargs:=[],kw_defaults:=[],kwarg:=none,defaults:=[] }
def defBody (s:Stmt):List Stmt:=match s with
 | .FunctionDef _ _ b _ _ _ _ _ _ _=>b
 | _=>[]
def defScope (s:Stmt):Scope:=match s with
 | .FunctionDef _ _ _ _ _ _ sc _ _ _=>sc
 | _=>{ kind:=.function,names:=[],isGenerator:=false,isCoroutine:=false }
abbrev CX0:CXT:=fun _ _ _ _ _ _=>False
abbrev E0:XK:=fun _ _ _=>False
theorem pass0 {X:Cx}:Passes CX0 X E0:=fun _ _ _ _ _ _ _ h=>h.elim
structure Fun (K:W.Frag)(x qual:Str)(st:Stmt)(f:Addr)(fd:Ym):Prop where
 ex:∃(oc:Value) (od:Option Addr) (kV doc pm:Value) (an:Option Addr) (cdv ct:Value) (osl:Array (Option Value)),
  fd=W.fnOf x qual (defArgs st) (defBody st) (defScope st) .none kV doc pm an cdv ct/\K.lookup f=some ⟨oc,od,.func fd,osl⟩/\W.codeIn K cdv qual=true
 kp:Yw K (.ref f)=true
section
variable {P:Yo}{w:World}{K:W.Frag}{mg:Str->Option Value}{base:Heap}
theorem Fun.ok {x qual:Str}{st:Stmt}{f:Addr}{fd:Ym}{N ps:List Str}{k:Nat}{sp:Sp}(F:Fun K x qual st f fd)(S:FnScope N ps (defScope st))(len:∀vs H Q E,sp vs H Q E->vs.length=ps.length)
  (hbody:∀(cdv:Value) (A:Around) (outer:List Env) (s:Shared) (H:Hp) (vs:List V) (Q:VK) (E:XK),Room k (A.deeper (envOfC qual (defScope st) s.heap.objs.size f cdv))->sp vs H Q E->
   ∃t,PSs (cxOf CX0 P w K mg base N qual (defScope st) f cdv A outer s H E).nox (defBody st) t/\t { nx:=fun _ H'=>Q .non H',rt:=Q } (start N vs) H):FnOk P w K mg base CX0 (k + 1) f fd ps sp:=by
 obtain ⟨oc,od,kV,doc,pm,an,cdv,ct,osl,rfl,lk,hcd⟩:=F.ex
 refine fn_of lk hcd S len fun A outer s H vs Q E hr hsp=>?_
 obtain ⟨t,h,q⟩:=hbody cdv A outer s H vs Q E hr hsp
 exact ⟨t,h.nox,q⟩
theorem Fun.binds {x qual:Str}{st:Stmt}{f:Addr}{fd:Ym}{ps:List Str}(F:Fun K x qual st f fd)
  (h:∀(kV doc pm:Value) (an:Option Addr) (cdv ct:Value) (us:List Value),us.length=ps.length->bindArgs (W.fnOf x qual (defArgs st) (defBody st) (defScope st) .none kV doc pm an cdv ct) ⟨us,[]⟩=pure (ps.zip us)):Binds K fd ps []:=by
 obtain ⟨oc,od,kV,doc,pm,an,cdv,ct,osl,rfl,lk,hcd⟩:=F.ex
 exact .all (h kV doc pm an cdv ct)
theorem fun_mk {x qual:Str}{st:Stmt}{f:Addr}{oc:Value}{od an:Option Addr}{osl:Array (Option Value)}{kV doc pm cdv ct:Value}(l:K.lookup f=some ⟨oc,od,.func (W.fnOf x qual (defArgs st) (defBody st) (defScope st) .none kV doc pm an cdv ct),osl⟩)
  (c:W.codeIn K cdv qual=true) (k:Yw K (.ref f)=true):Fun K x qual st f (W.fnOf x qual (defArgs st) (defBody st) (defScope st) .none kV doc pm an cdv ct):=⟨⟨oc,od,kV,doc,pm,an,cdv,ct,osl,rfl,l,c⟩,k⟩
end
theorem ZaG {A:Around}{k:Nat}(hr:Room k A):A.units + 1 < cLine:=Nat.lt_of_le_of_lt (Nat.add_le_add_left (by decide:1<=64) _) hr.units
section
variable {X:Cx}
theorem pv (i:Nat){x:Str}{pos:Pos}(hN:X.N[i]? = some x:=by rfl)(hv:Vis X.env.scope x:=by first | exact Or.inl rfl | exact Or.inr (Or.inl rfl) | exact Or.inr (Or.inr rfl))(hd:(x==("__debug__":Str))=false:=by decide)
  (hcd:(x==("__classdict__":Str))=false:=by decide):PE X (.Name x pos) (tVar i):=pe_var hN hv hd hcd
end
end L2
set_option maxHeartbeats 4000000
namespace L2
open PySem PySem.Spec PyProof.Rows
section
variable {κ:Type} [DecidableEq κ]
def valV (kvs:List (κ×V))(k:κ):Option V:=(kvs.find? fun kv=>decide (kv.1=k)).map (·.2)
def putK (kvs:List (κ×V))(k:κ)(v:V):List (κ×V):=
 if (kvs.any fun kv=>decide (kv.1=k))=true then kvs.map (fun kv=>if kv.1=k then (kv.1,v) else kv) else kvs++[(k,v)]
theorem Zcw {p:κ×V}{r:List (κ×V)}{k:κ}(e:p.1=k):valV (p::r) k=some p.2:=by simp[valV,XY,e]
theorem Zcx {p:κ×V}{r:List (κ×V)}{k:κ}(e:¬p.1=k):valV (p::r) k=valV r k:=by simp[valV,XY,e]
theorem valV_any (k:κ):∀kvs:List (κ×V),(kvs.any fun kv=>decide (kv.1=k))=(valV kvs k).isSome
 | []=>rfl
 | p::r=>by
  rw[XJ]
  by_cases e:p.1=k
  ·simp only[Zcw e,decide_eq_true e,Bool.true_or,Option.isSome_some]
  ·rw[Zcx e,decide_eq_false e,Bool.false_or];exact valV_any k r
theorem Zc0 (kvs:List (κ×V))(k:κ)(v:V):(putK kvs k v).length<=kvs.length + 1:=by
 unfold putK
 split
 ·rw[Yu];lia
 ·rw[YU,Ys,XD];lia
theorem RelO.isSome_eq {o:Option V}{u:Option Value}(r:RelO o u):o.isSome=u.isSome:=by
 cases o with
 | none=>cases u with
  | none=>rfl
  | some _=>exact (show False from r).elim
 | some _=>cases u with
  | none=>exact (show False from r).elim
  | some _=>rfl
theorem KV.val {kvs:List (κ×V)}{vs:List (κ×Value)}(r:KV kvs vs)(k:κ):RelO (valV kvs k) (Ua vs k):=by
 unfold KV at r
 induction r with
 | nil=>exact Wm
 | @cons p q ps qs h t ih=>
  obtain ⟨h1,h2⟩:=h
  by_cases e:p.1=k
  ·have e':q.1=k:=h1.symm.trans e
   have b:Ua (q::qs) k=some q.2:=by simp[Ua,XY,e']
   rw[Zcw e,b];exact h2
  ·have e':¬q.1=k:=fun z=>e (h1.trans z)
   have b:Ua (q::qs) k=Ua qs k:=by simp[Ua,XY,e']
   rw[Zcx e,b];exact ih
theorem KV.any {kvs:List (κ×V)}{vs:List (κ×Value)}(r:KV kvs vs)(k:κ):(kvs.any fun kv=>decide (kv.1=k))=vs.any fun kv=>decide (kv.1=k):=by
 unfold KV at r
 induction r with
 | nil=>rfl
 | cons h t ih=>rw[XJ,XJ,ih,h.1]
theorem KV.repl {kvs:List (κ×V)}{vs:List (κ×Value)}(r:KV kvs vs)(k:κ){y:V}{u:Value}(ry:RelV y u):
  KV (kvs.map fun kv=>if kv.1=k then (kv.1,y) else kv) (vs.map fun kv=>if kv.1=k then (kv.1,u) else kv):=by
 unfold KV at r ⊢
 induction r with
 | nil=>exact .nil
 | @cons p q ps qs h t ih=>
  rw[Yr,Yr]
  refine .cons ?_ ih
  obtain ⟨h1,h2⟩:=h
  by_cases e:p.1=k
  ·rw[if_pos e,if_pos (h1.symm.trans e)];exact ⟨h1,ry⟩
  ·rw[if_neg e,if_neg (fun z=>e (h1.trans z))];exact ⟨h1,h2⟩
theorem KV.put {kvs:List (κ×V)}{vs:List (κ×Value)}(r:KV kvs vs)(k:κ){y:V}{u:Value}(ry:RelV y u):KV (putK kvs k y) (stored vs k u):=by
 unfold putK stored
 rw[r.any k]
 by_cases e:(vs.any fun kv=>decide (kv.1=k))=true
 ·rw[if_pos e,if_pos e];exact r.repl k ry
 ·rw[if_neg e,if_neg e];exact Paired.snoc r ⟨rfl,ry⟩
theorem KV.keys {kvs:List (κ×V)}{vs:List (κ×Value)}(r:KV kvs vs):kvs.map (·.1)=vs.map (·.1):=by
 unfold KV at r
 induction r with
 | nil=>rfl
 | cons h t ih=>rw[Yr,Yr,ih,h.1]
theorem KV.length {kvs:List (κ×V)}{vs:List (κ×Value)}(r:KV kvs vs):kvs.length=vs.length:=Vf r
end
theorem kV_is {P:Yo}{w:World}{k:Key}{u:Value}(r:RelV (kV k) u):(mixKind P w).is k u=true:=by
 cases k with
 | inl i=>obtain ⟨t,e⟩:=(show ∃t,u=Value.int i t from r);subst e;exact mixKind_int P w i t
 | inr x=>obtain ⟨t,e⟩:=(show ∃t,u=Value.str x t from r);subst e;exact mixKind_str P w x t
theorem items_are {P:Yo}{w:World}:∀{ks:List Key} {us:List Value},Vals (ks.map kV) us->ItemsAre (mixKind P w) ks us
 | [],_,r=>by rw[List.map_nil] at r;cases r;exact .nil
 | k::ks,_,r=>by
  rw[Yr] at r
  cases r with
  | cons h t=>exact .cons (kV_is h) (items_are t)
abbrev KT (H:Hp):List (List Key×V)->List (List Key×Addr×Value)->Prop:=Paired fun p q=>p.1=q.1/\H q.2.1=some (.tup (p.1.map kV))/\RelV p.2 q.2.2
theorem KT.val {H:Hp}{kvs:List (List Key×V)}{xs:List (List Key×Addr×Value)}(r:KT H kvs xs)(k:List Key):RelO (valV kvs k) ((atKey xs k).map (·.2)):=by
 induction r with
 | nil=>exact Wm
 | @cons p q ps qs h t ih=>
  obtain ⟨h1,_,h2⟩:=h
  by_cases e:p.1=k
  ·have e':q.1=k:=h1.symm.trans e
   have b:atKey (q::qs) k=some q.2:=by simp[atKey,XY,e']
   rw[Zcw e,b];exact h2
  ·have e':¬q.1=k:=fun z=>e (h1.trans z)
   have b:atKey (q::qs) k=atKey qs k:=by simp[atKey,XY,e']
   rw[Zcx e,b];exact ih
theorem KT.repl {H:Hp}{kvs:List (List Key×V)}{xs:List (List Key×Addr×Value)}(r:KT H kvs xs)(k:List Key){y:V}{u:Value}(ry:RelV y u):
  KT H (kvs.map fun kv=>if kv.1=k then (kv.1,y) else kv) (xs.map (putAt k u)):=by
 induction r with
 | nil=>exact .nil
 | @cons p q ps qs h t ih=>
  rw[Yr,Yr]
  refine .cons ?_ ih
  obtain ⟨h1,h2,h3⟩:=h
  unfold putAt
  by_cases e:p.1=k
  ·rw[if_pos e,if_pos (h1.symm.trans e)];exact ⟨h1,h2,ry⟩
  ·rw[if_neg e,if_neg (fun z=>e (h1.trans z))];exact ⟨h1,h2,h3⟩
theorem KT.put {H:Hp}{kvs:List (List Key×V)}{xs:List (List Key×Addr×Value)}(r:KT H kvs xs)(k:List Key){b:Addr}{y:V}{u:Value}(hb:H b=some (.tup (k.map kV)))(ry:RelV y u):
  KT H (putK kvs k y) (storedH xs k b u):=by
 have e:(kvs.any fun kv=>decide (kv.1=k))=(atKey xs k).isSome:=by
  rw[valV_any,(r.val k).isSome_eq,Vz]
 unfold putK storedH
 rw[e]
 by_cases q:(atKey xs k).isSome=true
 ·rw[if_pos q,if_pos q];exact r.repl k ry
 ·rw[if_neg q,if_neg q];exact Paired.snoc r ⟨rfl,hb,ry⟩
theorem KT.keeps {H H':Hp}{kvs:List (List Key×V)}{xs:List (List Key×Addr×Value)}(r:KT H kvs xs)(ht:∀b ys,H b=some (.tup ys)->H' b=some (.tup ys)):KT H' kvs xs:=
 Paired.mapP r fun _ _ z=>⟨z.1,ht _ _ z.2.1,z.2.2⟩
section
variable {P:Yo}{w:World}{H:Hp}{h:Heap}{a:Addr}
theorem rd_of {u:HO}(ok:HOk P w H h)(e:Rd H a u):ObjOk P w H h a u:=e.ok ok
theorem dk_rd {kvs:List (Key×V)}(ok:HOk P w H h)(e:Rd H a (.dK kvs)):kvs.length<=Yn/\(a==XC)=false/\∃vs,KV kvs vs/\h.DictOf (mixKind P w) a vs:=
 show ObjOk P w H h a (.dK kvs) from rd_of ok e
theorem dk_of {kvs:List (Key×V)}(ok:HOk P w H h)(e:H a=some (.dK kvs)):kvs.length<=Yn/\(a==XC)=false/\∃vs,KV kvs vs/\h.DictOf (mixKind P w) a vs:=dk_rd ok (.inl e)
theorem key_of {ks:List Key}(ok:HOk P w H h)(e:H a=some (.tup (ks.map kV))):(VM (mixKind P w)).is h ks a:=by
 obtain ⟨_,its,r,o,h1,h2,n,h3⟩:=(show ObjOk P w H h a (.tup (ks.map kV)) from ok a _ e)
 exact ⟨o,its.toArray,n,h1,h2,h3,by simpa using items_are r⟩
theorem dt_rd {kvs:List (List Key×V)}(ok:HOk P w H h)(e:Rd H a (.dT kvs)):kvs.length<=Yn/\(a==XC)=false/\
  ∃xs,KT H kvs xs/\h.DictOfH (VM (mixKind P w)) a xs:=by
 obtain ⟨z,y,xs,r,o,es,ep,h1,h2,h3,h4,h5⟩:=(show ObjOk P w H h a (.dT kvs) from rd_of ok e)
 refine ⟨z,y,xs,r,o,es,ep,h1,h2,h3,h4,fun x hx=>?_,h5⟩
 have all:∀{l:List (List Key×V)} {m:List (List Key×Addr×Value)},KT H l m->∀x∈m,(VM (mixKind P w)).is h x.1 x.2.1:=by
  intro l m q
  induction q with
  | nil=>intro x hx;exact nomatch hx
  | @cons p q ps qs hq t ih=>
   intro x hx
   rcases Ye.mp hx with e | hx
   ·subst e
    exact key_of ok (by rw[←hq.1];exact hq.2.1)
   ·exact ih x hx
 exact all r x hx
theorem dt_of {kvs:List (List Key×V)}(ok:HOk P w H h)(e:H a=some (.dT kvs)):kvs.length<=Yn/\(a==XC)=false/\
  ∃xs,KT H kvs xs/\h.DictOfH (VM (mixKind P w)) a xs:=dt_rd ok (.inl e)
end
def DGet (H:Hp)(a:Addr)(y:V)(r:Option V):Prop:=
 (∃kvs k,Rd H a (.dK kvs)/\y=kV k/\r=valV kvs k)\/∃kvs k b,Rd H a (.dT kvs)/\y=.ref b/\H b=some (.tup (k.map kV))/\r=valV kvs k
def DPut (H:Hp)(a:Addr)(y v:V)(H':Hp):Prop:=
 (∃kvs k,H a=some (.dK kvs)/\y=kV k/\kvs.length < Yn/\H'=upd H a (.dK (putK kvs k v)))\/
 ∃kvs k b,H a=some (.dT kvs)/\y=.ref b/\H b=some (.tup (k.map kV))/\kvs.length < Yn/\H'=upd H a (.dT (putK kvs k v))
theorem DGet.k {H:Hp}{a:Addr}{kvs:List (Key×V)}{k:Key}(e:H a=some (.dK kvs)):DGet H a (kV k) (valV kvs k):=.inl ⟨kvs,k,.inl e,rfl,rfl⟩
theorem DPut.t {H:Hp}{a b:Addr}{kvs:List (List Key×V)}{k:List Key}{v:V}(e:H a=some (.dT kvs))(eb:H b=some (.tup (k.map kV)))(hl:kvs.length < Yn):
  DPut H a (.ref b) v (upd H a (.dT (putK kvs k v))):=.inr ⟨kvs,k,b,e,rfl,eb,hl,rfl⟩
section
variable {X:Cx}{pins:List (Addr×Obj)}{σ:St}{H:Hp}{s:Shared}{a:Addr}{y v:V}{u r:Value}{o:Option V}{A:Around}{E:Value->Shared->Prop}
theorem Inv.big (I:Inv X pins σ H s):XC < s.heap.objs.size:=by
 have h:Y5 < s.heap.objs.size:=(I.mod.glob.keeps I.bk).lt
 exact Nat.lt_trans (by decide) h
theorem d_getItem {Q:Value->Shared->Prop}(hu:A.units + 1 < cLine)(I:Inv X pins σ H s)(g:DGet H a y (some v))(ry:RelV y u)(h:∀w' s',Inv X pins σ H s'->RelV v w'->Q w' s'):
  wpAny (model X.prog X.w) A (VS (.ref a) u) Q E s:=by
 rcases g with ⟨kvs,k,e,ey,l⟩ | ⟨kvs,k,b,e,ey,eb,l⟩
 ·subst ey
  obtain ⟨z,hd,vs,rel,dd⟩:=dk_rd I.hok e
  obtain ⟨w',hw,rw'⟩:=RelO.some_of (v:=v) (o:=Ua vs k) (by rw[l];exact rel.val k)
  exact wpAny_getItem_of (kV_is ry) dd.mapOf hw (h w' _ (I.tok _) rw')
 ·subst ey
  cases (show u=YY b from ry)
  obtain ⟨z,hd,xs,rel,dd⟩:=dt_rd I.hok e
  obtain ⟨w',hw,rw'⟩:=RelO.some_of (v:=v) (o:=(atKey xs k).map (·.2)) (by rw[l];exact rel.val k)
  obtain ⟨p,hp,hp2⟩:=WY.mp hw
  refine wpAny_getItem_heap (tupleKind_room_in1 hu) (key_of I.hok eb) dd hp ?_
  rw[hp2]
  exact h w' _ (I.tok _) rw'
theorem d_write {h':Heap}{t':Nat}{ob:HO}(I:Inv X pins σ H s)(mu:Mut (H a))(hs:Wr a s.heap h')(he:∃q,h'.get? a=some q)(new:ObjOk X.prog X.w (upd H a ob) h' a ob):
  Inv X pins σ (upd H a ob) { s with heap:=h',toks:=t' }:=
 I.write (x:=a) (e:=a) mu (.inl rfl) (fun b q hb z=>(hs.2 b hb).trans z) he new
theorem dk_new {P:Yo}{w:World}{H':Hp}{h':Heap}{kvs:List (Key×V)}{vs:List (Key×Value)}(z:kvs.length<=Yn)(hd:(a==XC)=false)(rel:KV kvs vs)(dd:h'.DictOf (mixKind P w) a vs):
  ObjOk P w H' h' a (.dK kvs):=⟨z,hd,vs,rel,dd⟩
theorem d_setItem {H':Hp}{Q:Unit->Shared->Prop}(hu:A.units + 1 < cLine)(I:Inv X pins σ H s)(g:DPut H a y v H')(ry:RelV y u)(rv:RelV v r)(h:∀s',Inv X pins σ H' s'->Q () s'):
  wpAny (model X.prog X.w) A (setItem (.ref a) u r) Q E s:=by
 rcases g with ⟨kvs,k,e,ey,l,eH⟩ | ⟨kvs,k,b,e,ey,eb,l,eH⟩
 ·subst ey eH
  obtain ⟨z,hd,vs,rel,dd⟩:=dk_of I.hok e
  have hz:vs.length<=sizeLine:=by rw[←rel.length];exact z
  have hl:(putK kvs k v).length<=sizeLine:=by have:=Zc0 kvs k v;lia
  refine wpAny_setItem_pairs (hsz:=hz) (kV_is ry) dd fun h' dd' hs=>h _ ?_
  have he:∃q,h'.get? a=some q:=let ⟨q,_,_,hq,_⟩:=dd';⟨q,hq⟩
  exact d_write I (by rw[e];exact Wm) hs he (dk_new hl hd (rel.put k rv) dd')
 ·subst ey eH
  cases (show u=YY b from ry)
  obtain ⟨z,hd,xs,rel,dd⟩:=dt_of I.hok e
  have hz:xs.length<=sizeLine:=by rw[←Vf rel];exact z
  have hl:(putK kvs k v).length<=sizeLine:=by have:=Zc0 kvs k v;lia
  refine wpAny_setItem_heap (hsz:=hz) (tupleKind_room_in1 hu) (key_of I.hok eb) dd fun h' dd' hs=>h _ ?_
  obtain ⟨q,es,ep,hq,h2,h3,h4,_,h5⟩:=dd'
  refine d_write I (by rw[e];exact Wm) hs ⟨q,hq⟩ ⟨hl,hd,_,(rel.put k eb rv).keeps fun c ys ec=>?_,q,es,ep,hq,h2,h3,h4,h5⟩
  rw[Zas (ne_of ec e (fun z=>nomatch z))]
  exact ec
end
theorem dict_typeIs {X:Cx}{pins:List (Addr×Obj)}{σ:St}{H:Hp}{s:Shared}{a:Addr}{y:V}{o:Option V}(I:Inv X pins σ H s)(g:DGet H a y o):s.TypeIs (.ref a) "dict":=by
 rcases g with ⟨kvs,k,e,_,_⟩ | ⟨kvs,k,b,e,_,_,_⟩
 ·obtain ⟨_,_,vs,_,dd⟩:=dk_rd I.hok e
  exact dd.typeIs
 ·obtain ⟨_,_,xs,_,dd⟩:=dt_rd I.hok e
  exact dd.typeIs
def sDPut (td ty tv:TE):TS:=fun D σ H=>tv σ H fun v H1=>td σ H1 fun x H2=>ty σ H2 fun y H3=>∃a H4,x=.ref a/\DPut H3 a y v H4/\D.nx σ H4
section
variable {X:Cx}{o i e value:Expr}{pos pos' tpos:Pos}{td ty tv:TE}
theorem ps_dput (hu:X.A.units + 1 < cLine)(ho:PE X o td)(hi:PE X i ty)(hv:PE X value tv)(hs:Vk value (some (.Subscript o i pos')) pos.line X.env=pure false):
  PS X (.Assign [.Subscript o i pos'] value pos) (sDPut td ty tv):=by
 intro pins s σ H D I h
 refine wpAny_Assign_Subscript (thn (hv pins s σ H _ I h) fun r s1 ⟨v,H1,I1,rv,q1⟩=>thn (ho pins s1 σ H1 _ I1 q1) fun u s2 ⟨x,H2,I2,rx,q2⟩=>thn (hi pins s2 σ H2 _ I2 q2) fun iv s3 ⟨y,H3,I3,ry,a,H4,ex,g,q3⟩=>?_) hs
 subst ex
 obtain rfl:u=YY a:=rx
 exact d_setItem hu I3 g ry rv fun s4 I4=>⟨σ,H4,I4,q3⟩
end
theorem dt_empty {P:Yo}{w:World}{H:Hp}(h:Heap)(hb:XC < h.objs.size):ObjOk P w H (h.push { cls:=.type "dict",data:=.dict #[] }) h.objs.size (.dT []):=
 ⟨X9 _,beq_eq_false_iff_ne.mpr (XA (YH hb)),[],.nil,_,#[],0,Yh _ rfl,⟨rfl,rfl,rfl⟩,rfl,rfl,List.nodup_nil⟩
def tDNewT:TE:=fun _ H Q=>∀p,H p=none->Q (.ref p) (upd H p (.dT []))
section
variable {X:Cx}{pos:Pos}
theorem pe_dnewT:PE X (.Dict [] [] pos) tDNewT:=fun pins s σ H Q I h=>
 wpAny_Dict_empty ⟨.ref s.heap.objs.size,_,I.laid (a:=s.heap.objs.size) (o:=.dT []) (t':=s.toks) (fun _ _ q=>Yb _ q) (Yx _) (dt_empty s.heap I.big),rfl,h _ (I.hok.fresh (Yx _))⟩
end
def IsD (H:Hp)(a:Addr):Prop:=(∃kvs,Rd H a (.dK kvs))\/∃kvs,Rd H a (.dT kvs)
theorem isD_at {X:Cx}{pins:List (Addr×Obj)}{σ:St}{H:Hp}{s:Shared}{a:Addr}(I:Inv X pins σ H s)(d:IsD H a):
  s.TypeIs (.ref a) "dict"/\(∀b,YY a=.ref b->∃ob,s.heap.get? b=some ob/\ob.dict=none)/\(a==XC)=false:=by
 rcases d with ⟨kvs,e⟩ | ⟨kvs,e⟩
 ·obtain ⟨_,hd,vs,_,dd⟩:=dk_rd I.hok e
  refine ⟨dd.typeIs,fun b q=>?_,hd⟩
  cases q
  obtain ⟨ob,_,_,h1,h2,_⟩:=dd
  exact ⟨ob,h1,h2.2.1⟩
 ·obtain ⟨_,hd,xs,_,dd⟩:=dt_rd I.hok e
  refine ⟨dd.typeIs,fun b q=>?_,hd⟩
  cases q
  obtain ⟨ob,_,_,h1,h2,_⟩:=dd
  exact ⟨ob,h1,h2.2.1⟩
def clFrom (cells:List (Str×Addr)):List (Str×WN)->List (Str×Addr)->List (Str×Addr)
  | [],cs=>cs
  | (n,k)::r,cs=>clFrom cells r (if k=.free then (n,(cells.lookup n).getD 0)::cs else cs)
theorem Zdd {cells:List (Str×Addr)}:∀{names:List (Str×WN)} {cs:List (Str×Addr)},(∀y∈names,y.2=.free->∃c,cells.lookup y.1=some c)->(∀x c,cs.lookup x=some c->cells.lookup x=some c)->
    ∀x c,(clFrom cells names cs).lookup x=some c->cells.lookup x=some c
  | [],_,_,h,x,c,e=>h x c e
  | (n,k)::r,cs,hn,h,x,c,e=>by
    unfold clFrom at e
    refine Zdd (fun y hy=>hn y (Y4 _ hy)) (fun y d q=>?_) x c e
    by_cases hk:k=.free
    · rw[if_pos hk] at q
      obtain ⟨c',hc'⟩:=hn (n,k) Xw hk
      rw[Yj] at q
      by_cases hy:y==n
      · rw[hy] at q
        have:y=n:=by simpa using hy
        subst this
        rw[show cells.lookup y=some c' from hc'] at q ⊢
        simpa using q
      · have hy':(y==n)=false:=by simpa using hy
        rw[hy'] at q
        exact h y d q
    · rw[if_neg hk] at q
      exact h y d q
theorem Zcs {cells:List (Str×Addr)}{x:Str}:∀{names:List (Str×WN)} {cs:List (Str×Addr)},(∃c,cs.lookup x=some c)->∃c,(clFrom cells names cs).lookup x=some c
  | [],_,h=>h
  | (n,k)::r,cs,h=>by
    unfold clFrom
    refine Zcs ?_
    by_cases hk:k=.free
    · rw[if_pos hk,Yj]
      by_cases hy:x==n
      · rw[hy];exact ⟨_,rfl⟩
      · have hy':(x==n)=false:=by simpa using hy
        rw[hy'];exact h
    · rw[if_neg hk];exact h
theorem Zcl {cells:List (Str×Addr)}{x:Str}:∀{names:List (Str×WN)} {cs:List (Str×Addr)},(x,Y7)∈names->∃c,(clFrom cells names cs).lookup x=some c
  | [],_,h=>nomatch h
  | (n,k)::r,cs,h=>by
    unfold clFrom
    rcases Ye.mp h with e | h
    · cases e
      refine Zcs ?_
      rw[if_pos rfl,Yj]
      simp
    · exact Zcl h
theorem closure_eq {env:Env}{scope:Scope}(h:∀y∈scope.names,y.2=.free->∃c,env.cells.lookup y.1=some c):closureFor scope env=pure (clFrom env.cells scope.names []):=by
 simp only[closureFor]
 have key:∀(names:List (Str×WN)) (cs:List (Str×Addr)),(∀y∈names,y.2=.free->∃c,env.cells.lookup y.1=some c)->
   (forIn names cs fun x r=>if (x.2==Y7)=true then do let a ←cellOf env x.1;pure (Wv ((x.1,a)::r)) else pure (Wv r):Sem (List (Str×Addr)))=pure (clFrom env.cells names cs):=by
  intro names
  induction names with
  | nil=>intro cs _;rfl
  | cons y r ih=>
   intro cs hn
   obtain ⟨n,k⟩:=y
   rw[VV]
   by_cases hk:k=.free
   ·obtain ⟨c,hc⟩:=hn (n,k) Xw hk
    have hc':env.cells.lookup n=some c:=hc
    subst hk
    have e1:cellOf env n=pure c:=by unfold cellOf;rw[hc']
    show (_ >>= _)=_
    simp only[beq_self_eq_true,if_true,e1]
    unfold clFrom
    rw[if_pos rfl,hc']
    exact ih _ fun y hy=>hn y (Y4 _ hy)
   ·have e2:(k==Y7)=false:=by simpa using hk
    show (_ >>= _)=_
    simp only[e2,Xy,if_false]
    unfold clFrom
    rw[if_neg hk]
    exact ih _ fun y hy=>hn y (Y4 _ hy)
 rw[key scope.names [] h]
 rfl
section
variable {prog:Yo}{w:World}{A:Around}{R:Result->Shared->Prop}{s:Shared}
abbrev Out (prog:Yo)(w:World)(A:Around)(env:Env)(R:Result->Shared->Prop):Value->Shared->Prop:=notedBy (model prog w) A env fun e s'=>R (.error e) s'
abbrev testsOf (env:Env)(ifs:List Expr):Sem Bool:=forIn ifs true fun c r=>if r=true then do let ok ←isTrue c env (eval c env);pure (Wv ok) else pure (Wv r)
theorem compLoop_any {elt target iter:Expr}{ifs:List Expr}{scope:Scope}{pos:Pos}{it acc:Value}{env:Env}(I:Nat->Shared->Prop)
  (turn:∀k z,I k z->wpAny (model prog w) A (pyNext it) (fun r z1=>match r with
   | none=>R (.ok .next) z1
   | some v=>wpAny (model prog w) A (WH target it v) (fun _ z2=>wpAny (model prog w) A (assign target env v) (fun _ z3=>wpAny (model prog w) A (testsOf env ifs) (fun yes z4=>
     if yes=true then wpAny (model prog w) A (eval elt env) (fun x z5=>wpAny (model prog w) A (call (.builtin "list.append") [acc,x]) (fun _ z6=>∃m,m < k/\I m z6) (Out prog w A env R) z5) (Out prog w A env R) z4
     else ∃m,m < k/\I m z4) (Out prog w A env R) z3) (Out prog w A env R) z2) (Out prog w A env R) z1) (Out prog w A env R) z)
  (n:Nat) (h:I n s):V2 (model prog w) A (.compLoop (.ListComp elt [⟨target,iter,ifs,0⟩] scope pos) 0 it acc env) R s:=by
 refine codeAny_loop rfl I ?_ n h
 intro k z hz
 refine wpAny_noted ?_
 rw[compTurn_list]
 apply Yc
 apply wpAny_standAt
 apply Yc
 refine XV (turn k z hz) ?_ fun _ _ e=>e
 rintro (_ | v) z1 y1
 ·exact Yk y1
 apply Yc
 refine XV y1 (fun _ z2 y2=>?_) fun _ _ e=>e
 apply Yc
 refine XV y2 (fun _ z3 y3=>?_) fun _ _ e=>e
 apply Yc
 refine XV y3 (fun yes z4 y4=>?_) fun _ _ e=>e
 by_cases b:yes=true
 ·subst b
  apply Yc
  apply Yc
  refine XV y4 (fun x z5 y5=>?_) fun _ _ e=>e
  apply Yc
  exact XV y5 (fun _ z6 y6=>Yk (Yk ⟨rfl,y6⟩)) fun _ _ e=>e
 ·have nb:yes=false:=by simpa using b
  subst nb
  exact Yk ⟨rfl,y4⟩
end
def CompCx (X:Cx)(N':List Str)(scope:Scope)(C:Addr)(s₀:Shared)(H₀:Hp)(ex:List Addr)(pn:List (Addr×Obj)):Cx:=
 { X with N:=N',s₀:=s₀,H₀:=H₀,env:=compEnvC scope (clFrom X.env.cells scope.names []) C X.env,outer:=X.stack,ex:=ex,fn:=fun _=>false,pn:=pn,xe:=fun _ _=>False }
structure CSc (X:Cx)(scope:Scope)(vs fs:List Str)(fr:List Nat):Prop where
 kind:scope.kind=.function
 cell:(scope.names.all fun y=>y.2 != .cell)=true
 free:(scope.names.all fun y=>y.2 != .free||(X.env.kindOf y.1==some .cell||X.env.kindOf y.1==some .free))=true
 loc:(scope.names.all fun y=>y.2 != .local||scope.names.lookup y.1==some .local)=true
 fre:(scope.names.all fun y=>y.2 != .free||scope.names.lookup y.1==some .free)=true
 fsf:(fs.all fun x=>scope.names.lookup x==some .free)=true
 at':fr.map (fun i=>X.N[i]?)=fs.map some
def PTs (X:Cx)(ifs:List Expr)(t:TT):Prop:=
 ∀(pins:List (Addr×Obj)) (s:Shared) (σ:St) (H:Hp) (Q:Bool->Hp->Prop),Inv X pins σ H s->t σ H Q->
  wpAny (model X.prog X.w) X.A (forIn ifs true fun c r=>if r=true then do let ok ←isTrue c X.env (eval c X.env);pure (Wv ok) else pure (Wv r)) (TP X pins σ Q) X.xe s
def tYes:TT:=fun _ H Q=>Q true H
theorem pts_nil {X:Cx}:PTs X [] tYes:=fun _ _ _ H _ I h=>wpAny_tests_nil ⟨H,I,h⟩
theorem pts_one {X:Cx}{c:Expr}{t:TT}(h:PT X c t):PTs X [c] t:=fun pins s σ H Q I q=>wpAny_tests_one (h pins s σ H Q I q)
def stIn (vs:List Str)(fr:List Nat)(σ:St):St:=vs.map (fun _=>none)++fr.map fun i=>(σ[i]?).join
def CompW (J:It)(vs:List Str)(fr:List Nat)(g:TG)(tt:TT)(te:TE)(σ:St)(H1:Hp)(Q:VK):Prop:=
 ∃W:Nat->Nat->St->List V->Hp->Prop,(∃m,W 0 m (stIn vs fr σ) [] H1)/\∀i m σ' ys H,W i m σ' ys H->
  (J.stop i H/\ys.length<=Yn/\∀D,H D=none->Q (.ref D) (upd H D (.lst ys)))\/
  (J.go i H/\ys.length<=Yn/\∃N:St->List V->Hp->Prop,(∀σ2 ys2 H2,N σ2 ys2 H2->∃m',m' < m/\W (i + 1) m' σ2 ys2 H2)/\∀x H',J.yld i H x H'->g x σ' H' fun σ2 H2=>tt σ2 H2 fun b H3=>
   if b=true then te σ2 H3 fun y H4=>N σ2 (ys++[y]) H4 else N σ2 ys H3)
def tComp (wi:TI)(vs:List Str)(fr:List Nat)(g:TG)(tt:TT)(te:TE):TE:=fun σ H Q=>wi σ H fun J H1=>CompW J vs fr g tt te σ H1 Q
section
variable {X:Cx}{tg elt iter:Expr}{ifs:List Expr}{scope:Scope}{pos:Pos}{vs fs:List Str}{fr:List Nat}
theorem mem_all {α:Type}{p:α->Bool}{l:List α}(h:l.all p=true){x:α}(hx:x∈l):p x=true:=YG.mp h x hx
theorem CSc.cell' (S:CSc X scope vs fs fr):∀y∈scope.names,y.2≠.cell:=fun y hy e=>by have:=mem_all S.cell hy;rw[e] at this;simp at this
theorem CSc.free' (S:CSc X scope vs fs fr):∀y∈scope.names,y.2=.free->X.env.kindOf y.1=some .cell\/X.env.kindOf y.1=some .free:=fun y hy e=>by
 have:=mem_all S.free hy;rw[e] at this;simpa using this
theorem CSc.loc' (S:CSc X scope vs fs fr):∀y∈scope.names,y.2=.local->scope.names.lookup y.1=some .local:=fun y hy e=>by
 have:=mem_all S.loc hy;rw[e] at this;simpa using this
theorem Zbb {α β:Type} [BEq α] [LawfulBEq α]:∀{l:List (α×β)} {x:α} {k:β},l.lookup x=some k->(x,k)∈l
  | [],_,_,h=>by simp at h
  | (n,k')::r,x,k,h=>by
    rw[Yj] at h
    cases e:x==n with
    | true=>rw[e] at h;cases h;rw[eq_of_beq e];exact Xw
    | false=>rw[e] at h;exact Y4 _ (Zbb h)
theorem Zby {env:Env}{x:Str}:∀{names:List (Str×WN)} {k:WN},
    (names.map fun (n,k)=>if (k==Y7&&env.scope.kind==.function&&env.kindOf n==some .cell) then (n,Wa) else (n,k)).lookup x=some k->
    names.lookup x=some k\/(k=.cell/\names.lookup x=some .free)
  | [],_,h=>by simp at h
  | (n,k')::r,k,h=>by
    have ih:=@Zby env x r k
    have h':List.lookup x ((if (k'==Y7&&env.scope.kind==.function&&env.kindOf n==some .cell)=true then (n,Wa) else (n,k'))::(r.map fun (n,k)=>if (k==Y7&&env.scope.kind==.function&&env.kindOf n==some .cell) then (n,Wa) else (n,k)))=some k:=h
    cases hx:x==n with
    | true=>
      by_cases hc:(k'==Y7&&env.scope.kind==.function&&env.kindOf n==some .cell)=true
      · rw[if_pos hc] at h'
        simp only[Yj,hx] at h' ⊢
        cases h'
        have:k'=.free:=by simp at hc;exact hc.1.1
        exact .inr ⟨rfl,by rw[this]⟩
      · rw[if_neg hc] at h'
        simp only[Yj,hx] at h' ⊢
        exact .inl h'
    | false=>
      by_cases hc:(k'==Y7&&env.scope.kind==.function&&env.kindOf n==some .cell)=true
      · rw[if_pos hc] at h'
        simp only[Yj,hx] at h' ⊢
        exact ih h'
      · rw[if_neg hc] at h'
        simp only[Yj,hx] at h' ⊢
        exact ih h'
theorem Zcq {env:Env}{x:Str}:∀{names:List (Str×WN)},names.lookup x=some .free->
    let l:=(names.map fun (n,k)=>if (k==Y7&&env.scope.kind==.function&&env.kindOf n==some .cell) then (n,Wa) else (n,k)).lookup x
    l=some .cell\/l=some .free
  | [],h=>by simp at h
  | (n,k')::r,h=>by
    have ih:=@Zcq env x r
    show List.lookup x ((if (k'==Y7&&env.scope.kind==.function&&env.kindOf n==some .cell)=true then (n,Wa) else (n,k'))::(r.map fun (n,k)=>if (k==Y7&&env.scope.kind==.function&&env.kindOf n==some .cell) then (n,Wa) else (n,k)))=some .cell\/
      List.lookup x ((if (k'==Y7&&env.scope.kind==.function&&env.kindOf n==some .cell)=true then (n,Wa) else (n,k'))::(r.map fun (n,k)=>if (k==Y7&&env.scope.kind==.function&&env.kindOf n==some .cell) then (n,Wa) else (n,k)))=some .free
    cases hx:x==n with
    | true=>
      simp only[Yj,hx] at h
      have h:k'=.free:=Yz h
      by_cases hc:(k'==Y7&&env.scope.kind==.function&&env.kindOf n==some .cell)=true
      · rw[if_pos hc,Yj,hx];exact .inl rfl
      · rw[if_neg hc,Yj,hx,h];exact .inr rfl
    | false=>
      simp only[Yj,hx] at h
      by_cases hc:(k'==Y7&&env.scope.kind==.function&&env.kindOf n==some .cell)=true
      · rw[if_pos hc];simp only[Yj,hx];exact ih h
      · rw[if_neg hc];simp only[Yj,hx];exact ih h
end
section
variable {X:Cx}{tg elt iter:Expr}{ifs:List Expr}{scope:Scope}{pos:Pos}{vs fs:List Str}{fr:List Nat}
theorem CSc.clos (S:CSc X scope vs fs fr)(ok:X.Ok):∀y∈scope.names,y.2=.free->∃c,X.env.cells.lookup y.1=some c:=fun y hy e=>ok.has y.1 (S.free' y hy e)
theorem CSc.cl (S:CSc X scope vs fs fr)(ok:X.Ok){x:Str}{c:Addr}(e:(clFrom X.env.cells scope.names []).lookup x=some c):X.env.cells.lookup x=some c:=
 Zdd (S.clos ok) (fun _ _ q=>by simp at q) x c e
theorem Zbg {h:Heap}{b:Addr}{o:Obj}{n:Nat}(e:h.get? b=some o)(hn:h.objs.size<=n):b≠n:=YH (Yv (Yq e) hn)
theorem comp_start {pins:List (Addr×Obj)}{σ:St}{H:Hp}{s:Shared}{fp:List Addr}{C:Addr}{h1:Heap}{tk:Nat}{m1:Str->Option Value}(S:CSc X scope vs fs fr)(I:Inv X pins σ H s)
  (hf:∀b∈fp,FpOk X pins H b) (hfo:∀b∈fp,∃o,s.heap.get? b=some o) (hC:s.heap.objs.size<=C) (hn:h1.Ns C m1) (old:∀b o,s.heap.get? b=some o->h1.get? b=some o):
  Inv (CompCx X (vs++fs) scope C s H fp (X.pn++pins)) [] (stIn vs fr σ) H { s with heap:=h1,toks:=tk }:=by
 have cl:=fun x c e=>S.cl I.ok (x:=x) (c:=c) e
 have hsub:=I.stkSub
 have cellLt:∀x c,X.env.cells.lookup x=some c->c < s.heap.objs.size:=fun x c e=>by obtain ⟨v,q⟩:=I.cell x c e;exact q.lt
 refine ⟨⟨I.ok.mod,S.kind,I.ok.glob,I.ok.blt,hC,fun x y c e1 e2=>I.ok.inj x y c (cl x c e1) (cl y c e2),fun x hx=>?_,fun _ _ z _=>(nomatch z),I.ok.hd,I.ok.frames,.inl rfl,fun b hb=>?_,I.bs,YB I.ok.bsz I.sz,fun b o e hb=>?_,fun b hb z=>?_,I.stack,I.stkFree⟩,
  rfl,I.bare,Un.kept old,⟨m1,hn,fun i x v e1 e2 e3=>?_⟩,fun x c e=>?_,I.hok.fresh hC,fun x c e=>I.freeC x c (cl x c e),fun p hp=>?_,I.hok.kept old,?_⟩
 ·-- has
  have hx':(relabel scope X.env).names.lookup x=some .cell\/(relabel scope X.env).names.lookup x=some .free:=hx
  have:scope.names.lookup x=some .free:=by
   rcases hx' with q | q
   ·rcases Zby q with q | ⟨_,q⟩
    ·exact absurd rfl (S.cell' _ (Zbb q))
    ·exact q
   ·rcases Zby q with q | ⟨q,_⟩
    ·exact q
    ·cases q
  exact Zcl (Zbb this)
 ·-- exf
  obtain ⟨o,ho⟩:=hfo b hb
  obtain ⟨f0,f1,f2,f3,f4,f5⟩:=hf b hb
  exact ⟨Zbg ho hC,fun x c e=>f4 x c (cl x c e)⟩
 ·-- noex
  have e':=(I.ok.bs b o e).1
  obtain ⟨_,_,_,f3,_,_⟩:=hf b hb
  rcases f3 with z | z
  ·exact I.ok.noex b o e z
  ·exact absurd (Yv (Yq e') z) (Xs _)
 ·-- exfs
  obtain ⟨_,f1,f2,_⟩:=hf b hb
  rcases Ye.mp (hsub b z) with q | q
  ·exact f1 q
  ·exact f2 q
 ·-- loc
  have e1:(vs++fs)[i]? = some x:=e1
  unfold stIn at e2
  by_cases hi:i < vs.length
  ·rw[YC (by simpa using hi)] at e2
   simp[hi] at e2
  ·rw[YS (by simpa using hi),Yu,YK] at e2
   rw[YS (by simpa using hi)] at e1
   obtain ⟨j,hj⟩:∃j,fr[i - vs.length]? = some j:=by
    cases q:fr[i - vs.length]? with
    | none=>rw[q] at e2;cases e2
    | some j=>exact ⟨j,rfl⟩
   rw[hj] at e2
   have e2':(σ[j]?).join=some v:=Yz e2
   have hσ:σ[j]? = some (some v):=by
    cases q:σ[j]? with
    | none=>rw[q] at e2';cases e2'
    | some r=>rw[q] at e2';exact congrArg some e2'
   have hN:X.N[j]? = some x:=by
    have:=congrArg (fun l=>l[i - vs.length]?) S.at'
    simp only[YK,hj,e1,Vl] at this
    exact Yz this
   have hxf:scope.names.lookup x=some .free:=by
    have:=mem_all S.fsf (Xd e1)
    simpa using this
   have hk:=S.free' _ (Zbb hxf) rfl
   obtain ⟨m,hm,hl⟩:=I.loc
   have hvis:Vis X.env.scope x:=by
    rcases hk with k | k
    ·exact .inr (.inl k)
    ·exact .inr (.inr k)
   obtain ⟨u,ru,lk⟩:=hl j x v hN hσ hvis
   refine ⟨u,ru,?_⟩
   rcases lk with ⟨k,_⟩ | ⟨_,c,hc,hv⟩
   ·have k':X.env.kindOf x=some .local:=k
    rcases hk with z | z
    ·have z':X.env.kindOf x=some .cell:=z
     rw[k'] at z';cases z'
    ·have z':X.env.kindOf x=some .free:=z
     rw[k'] at z';cases z'
   ·obtain ⟨c',hc'⟩:=Zcl (cells:=X.env.cells) (cs:=[]) (Zbb hxf)
    have:=cl x c' hc'
    rw[hc] at this
    cases this
    refine .inr ⟨Zcq hxf,c,hc',?_⟩
    obtain ⟨o,ho,hd⟩:=hv
    exact ⟨o,old c o ho,hd⟩
 ·-- cell
  obtain ⟨v,o,ho,hd⟩:=I.cell x c (cl x c e)
  exact ⟨v,o,old c o ho,hd⟩
 ·-- pin
  have hp':p∈X.pn++pins:=by simpa[CompCx] using hp
  obtain ⟨e,n,ne,nf,d⟩:=I.pin p hp'
  refine ⟨old _ _ e,n,Zbg e hC,fun z=>?_,d⟩
  rcases Ye.mp (hsub _ z) with q | q
  ·exact ne q
  ·exact nf q
 ·show (stIn vs fr σ).length=(vs++fs).length
  have:=congrArg List.length S.at'
  simp only[Yu] at this
  unfold stIn
  simp[this]
theorem comp_back {pins:List (Addr×Obj)}{σ σ':St}{H H':Hp}{s s':Shared}{fp:List Addr}{C D:Addr}{ys:List V}{its:List Value}{n:Nat}{pl:List (Addr×Obj)}(I:Inv X pins σ H s)
  (hf:∀b∈fp,FpOk X pins H b) (J:Inv (CompCx X (vs++fs) scope C s H fp (X.pn++pins)) pl σ' H' s')
  (hD:s.heap.objs.size<=D) (hDn:H' D=none) (hl:ys.length<=Yn) (r:Vals ys its) (ho:s'.heap.get? D=some { cls:=.type "list",data:=.seq its.toArray n }):Inv X pins σ (upd H' D (.lst ys)) s':=by
 have ne:∀b o,s.heap.get? b=some o->b≠D:=fun b o e=>Zbg e hD
 have u:Un (frs X.stack) fp H H' s.heap s'.heap:=J.base
 refine I.call' (ch:=fp) J.os ⟨u.keep,u.slot,fun b o e q hx=>?_,u.there,fun b xs e=>?_,fun b o xs e=>?_,fun b ps e=>?_⟩ (fun b o e=>?_) J.bare fun b hb=>?_
 ·rw[Zas (ne b o e)];exact u.free b o e q hx
 ·rw[Zas (Zao (u.tups b xs e) hDn)];exact u.tups b xs e
 ·rw[Zas (Zao (u.frzs b o xs e) hDn)];exact u.frzs b o xs e
 ·obtain ⟨more,q⟩:=u.tbls b ps e
  exact ⟨more,by rw[Zas (Zao q hDn)];exact q⟩
 ·by_cases hb:b=D
  ·subst hb
   rw[Za0] at e;cases e
   exact ⟨hl,its,n,r,ho⟩
  ·rw[Zas hb] at e
   exact (J.hok b o e).stay (fun _ _ _ q=>q) (fun c q=>by rw[Zas (Zao q hDn)];exact q) fun c xs q=>by rw[Zas (Zao q hDn)];exact q
 ·obtain ⟨f0,f1,f2,f3,f4,f5⟩:=hf b hb
  exact ⟨f3,f1,f4,f5⟩
end
section
variable {X:Cx}{tg elt iter:Expr}{ifs:List Expr}{scope:Scope}{pos:Pos}{vs fs:List Str}{fr:List Nat}{g:TG}{tt:TT}{te:TE}
theorem no_xe {α:Type}{M:Model}{A:Around}{t:Sem α}{Q Q':α->Shared->Prop}{E:Value->Shared->Prop}{s:Shared}(h:wpAny M A t Q (fun _ _=>False) s)(hQ:∀a s,Q a s->Q' a s):wpAny M A t Q' E s:=
 XV h hQ fun _ _ f=>Wl f
theorem comp_block {pins:List (Addr×Obj)}{σ:St}{H:Hp}{s:Shared}{Q:VK}{it:Addr}{fp:List Addr}{tn:Nat->Heap->Prop}{J:It}{RR:Value->Addr->Result->Shared->Prop}
  (S:CSc X scope vs fs fr) (hc:X.calm=true)
  (bG:∀C s₀ H₀ ex pn,PG (CompCx X (vs++fs) scope C s₀ H₀ ex pn) tg g) (bT:∀C s₀ H₀ ex pn,PTs (CompCx X (vs++fs) scope C s₀ H₀ ex pn) ifs tt) (bE:∀C s₀ H₀ ex pn,PE (CompCx X (vs++fs) scope C s₀ H₀ ex pn) elt te)
  (I:Inv X pins σ H s) (T:Turn X.prog X.w X.K tg J fp it tn) (st:tn 0 s.heap) (hf:∀b∈fp,FpOk X pins H b)
  (q:CompW J vs fr g tt te σ H Q)
  (hRR:∀D C H' s' m',Inv X pins σ H' s'->Q (.ref D) H'->s'.heap.Ns C m'->H' C=none->s.heap.objs.size<=C->RR (.ref D) C (.ok .next) s'):
  wpAny (model X.prog X.w) X.A (newList []) (fun acc s₃=>wpAny (model X.prog X.w) X.A (newFunctionEnv scope X.env.globals (clFrom X.env.cells scope.names []) [] X.env.qual none .none (some X.env)) (fun cenv s₄=>
   V2 (model X.prog X.w) X.A (.compStart (.ListComp elt [⟨tg,iter,ifs,0⟩] scope pos) 0 (.ref it) acc { cenv with scope:=relabel scope X.env }) (RR acc cenv.locals) s₄) X.xe s₃) X.xe s:=by
 obtain ⟨W,⟨m0,w0⟩,turn⟩:=q
 refine Xr (wpAny_newFunctionEnv S.cell' (by intro y hy;simp at hy) (fun h₁ hns₁ hsb₁=>?_) S.kind)
 dsimp only at hns₁ hsb₁ ⊢
 generalize hH2:s.heap.push { cls:=.type "list",dict:=none,data:=.seq ([]:List Value).toArray }=H2 at hns₁ hsb₁ ⊢
 have hCs:H2.objs.size=s.heap.objs.size + 1:=by rw[←hH2,Xu]
 have hDC:s.heap.objs.size≠H2.objs.size:=by rw[hCs];exact YH (Nat.lt_succ_self _)
 have hCle:s.heap.objs.size<=H2.objs.size:=by rw[hCs];exact Nat.le_succ _
 have old:∀b o,s.heap.get? b=some o->h₁.get? b=some o:=fun b o e=>hsb₁.extBut b o (Zbg e hCle) (Yb _ (hH2 ▸ Yb _ e))
 have hacc:h₁.get? s.heap.objs.size=some { cls:=.type "list",data:=.seq ([]:List Value).toArray 0 }:=hsb₁.extBut _ _ hDC (Yb _ (hH2 ▸ Yh _ rfl))
 have hfo:∀b∈fp,∃o,s.heap.get? b=some o:=fun b hb=>by obtain ⟨o,e,_⟩:=T.obj 0 _ st b hb;exact ⟨o,e⟩
 generalize hY:CompCx X (vs++fs) scope H2.objs.size s H fp (X.pn++pins)=Y
 have J0:Inv Y [] (stIn vs fr σ) H { s with heap:=h₁,toks:=s.toks + ([]:List (Str×Value)).length }:=by
  rw[←hY];exact comp_start S I hf hfo hCle hns₁ old
 have hG:PG Y tg g:=by rw[←hY];exact bG _ _ _ _ _
 have hT:PTs Y ifs tt:=by rw[←hY];exact bT _ _ _ _ _
 have hE:PE Y elt te:=by rw[←hY];exact bE _ _ _ _ _
 have ePr:Y.prog=X.prog:=by rw[←hY];rfl
 have eW:Y.w=X.w:=by rw[←hY];rfl
 have eK:Y.K=X.K:=by rw[←hY];rfl
 have eA:Y.A=X.A:=by rw[←hY];rfl
 have eC:Y.calm=true:=by rw[←hY];exact hc
 have eEnv:Y.env=compEnvC scope (clFrom X.env.cells scope.names []) H2.objs.size X.env:=by rw[←hY];rfl
 have eL:Y.env.locals=H2.objs.size:=by rw[eEnv];rfl
 have eX:Y.xe=fun _ _=>False:=by rw[←hY];rfl
 have eS:Y.s₀=s:=by rw[←hY];rfl
 have eEx:Y.ex=fp:=by rw[←hY];rfl
 have eFs:Y.fs=frs X.stack:=by rw[←hY];rfl
 have ePn:Y.pn=X.pn++pins:=by rw[←hY];rfl
 have eCl:∀x c,Y.env.cells.lookup x=some c->X.env.cells.lookup x=some c:=fun x c e=>by
  rw[eEnv] at e;exact S.cl I.ok e
 have cellLt:∀x c,Y.env.cells.lookup x=some c->c≠s.heap.objs.size:=fun x c e=>by
  obtain ⟨v,z⟩:=I.cell x c (eCl x c e);exact YH z.lt
 have pnLt:∀p∈Y.pn,p.1≠s.heap.objs.size:=fun p hp=>by
  rw[ePn] at hp;exact Zbg (I.pin p hp).1 (Yx _)
 have fpD:∀b∈fp,b≠s.heap.objs.size:=fun b hb=>by obtain ⟨o,e⟩:=hfo b hb;exact Zbg e (Yx _)
 have hDfs:s.heap.objs.size∉Y.fs:=fun z=>by
  rw[eFs] at z
  rcases Ye.mp (I.stkSub _ z) with z | z
  ·exact absurd I.lt (by rw[←z];exact Xs _)
  ·exact I.nofs (Yx _) z
 have stat:∀{H':Hp} {o:Obj},(∀b∈fp,H' b=none)->∀b∈fp,FpOk Y [(s.heap.objs.size,o)] H' b:=fun {H' o} hn b hb=>by
  obtain ⟨f0,f1,f2,f3,f4,f5⟩:=hf b hb
  obtain ⟨ob,e⟩:=hfo b hb
  refine ⟨hn b hb,by rw[eL];exact Zbg e hCle,fun z=>?_,.inl (by rw[eEx];exact hb),fun x c e=>f4 x c (eCl x c e),fun p hp=>?_⟩
  ·rw[eFs] at z
   rcases Ye.mp (I.stkSub _ z) with z | z
   ·exact f1 z
   ·exact f2 z
  ·rcases Y8.mp hp with hp | hp
   ·rw[ePn] at hp;exact f5 p hp
   ·have:p=(s.heap.objs.size,o):=by simpa using hp
    rw[this];exact XA (fpD b hb)
 have pinD:∀{σ':St} {H':Hp} {s':Shared} {its:List Value} {k:Nat},Inv Y [] σ' H' s'->H' s.heap.objs.size=none->s'.heap.get? s.heap.objs.size=some { cls:=.type "list",data:=.seq its.toArray k }->
   Inv Y [(s.heap.objs.size,{ cls:=.type "list",data:=.seq its.toArray k })] σ' H' s':=fun {σ' H' s' its k} i hn e=>i.pins_of fun p hp=>by
  have:p=(s.heap.objs.size,{ cls:=.type "list",data:=.seq its.toArray k }):=by simpa using hp
  subst this
  exact ⟨e,hn,by rw[eL];exact hDC,hDfs,fun v z=>by cases z⟩
 have loop:∀s₃:Shared,s₃={ s with heap:=h₁,toks:=s.toks + ([]:List (Str×Value)).length }->
   V2 (model X.prog X.w) X.A (.compLoop (.ListComp elt [⟨tg,iter,ifs,0⟩] scope pos) 0 (.ref it) (.ref s.heap.objs.size) (compEnvC scope (clFrom X.env.cells scope.names []) H2.objs.size X.env))
    (RR (.ref s.heap.objs.size) H2.objs.size) s₃:=by
  rintro s₃ rfl
  rw[←eEnv,←ePr,←eW,←eA]
  refine compLoop_any (fun n s'=>∃i σ' ys its k H',Inv Y [(s.heap.objs.size,{ cls:=.type "list",data:=.seq its.toArray k })] σ' H' s'/\Vals ys its/\tn i s'.heap/\(∀b∈fp,H' b=none)/\W i n σ' ys H') ?_ m0
   ⟨0,_,[],[],0,H,pinD J0 (I.hok.fresh (Yx _)) hacc,.nil,T.keep _ _ _ st fun b _ o e=>old b o e,fun b hb=>(hf b hb).1,w0⟩
  rintro n s3 ⟨i,σ3,ys,its,k,H3,J3,rv,st3,fr3,w3⟩
  have pD:=J3.pin (s.heap.objs.size,_) (YL _ (Xe.mpr rfl))
  have eI:=rv.length
  rcases turn i n σ3 ys H3 w3 with ⟨stop,hlen,qn⟩ | ⟨go,hlen,N,hN,step⟩
  ·have dn:=T.done Y ePr eW eK eC i _ s3 σ3 H3 (fun _ _=>False) J3 (stat fr3) st3 stop
   rw[←ePr,←eW] at dn
   refine no_xe dn fun r s4 h_=>?_
   obtain ⟨hr,J4⟩:=h_
   subst hr
   have pD4:=J4.pin (s.heap.objs.size,_) (YL _ (Xe.mpr rfl))
   obtain ⟨m4,hm4,_⟩:=id J4.loc
   rw[eL] at hm4
   have nC:H3 H2.objs.size=none:=by rw[←eL];exact J4.free
   refine hRR _ _ _ s4 m4 (comp_back I hf (by rw[hY];exact J4) (Yx _) pD4.2.1 hlen rv pD4.1) (qn _ pD4.2.1) hm4 ?_ hCle
   rw[Zas (XA hDC)];exact nC
  ·have im:=T.item Y ePr eW eK eC i _ s3 σ3 H3 (fun _ _=>False) J3 (stat fr3) st3 go
   rw[←ePr,←eW] at im
   refine no_xe im fun r s4 h_=>?_
   obtain ⟨u,hr,h4⟩:=h_
   subst hr
   refine no_xe h4 fun _ s5 h_=>?_
   obtain ⟨x,H5,J5,r5,y5,st5,fr5⟩:=h_
   have J5':=J5.pinned (stat fr5) (T.obj _ _ st5)
   have go1:=hG _ s5 σ3 H5 x u _ J5' r5 (step x H5 y5)
   rw[eX] at go1
   refine no_xe go1 fun _ s6 h_=>?_
   obtain ⟨σ6,H6,J6,q6⟩:=h_
   have go2:=hT _ s6 σ6 H6 _ J6 q6
   rw[eX] at go2
   refine no_xe go2 fun ok s7 h_=>?_
   obtain ⟨H7,J7,q7⟩:=h_
   have fin:∀{σ8:St} {H8:Hp} {s8:Shared},Inv Y ([(s.heap.objs.size,{ cls:=.type "list",data:=.seq its.toArray k })]++pinsAt fp s5.heap) σ8 H8 s8->
     tn (i + 1) s8.heap/\(∀b∈fp,H8 b=none):=fun {σ8 H8 s8} J8=>by
    refine ⟨T.keep _ _ _ st5 fun b hb o e=>(J8.pin (b,o) (YL _ (YL _ (ZbL hb e)))).1,fun b hb=>?_⟩
    obtain ⟨o,e,d⟩:=T.obj _ _ st5 b hb
    exact (J8.pin (b,o) (YL _ (YL _ (ZbL hb e)))).2.1
   cases ok with
   | false=>
    rw[if_neg Yi] at q7 ⊢
    obtain ⟨m',hm,w7⟩:=hN _ _ _ q7
    exact ⟨m',hm,i + 1,σ6,ys,its,k,H7,J7.unpinned,rv,(fin J7).1,(fin J7).2,w7⟩
   | true=>
    rw[if_pos rfl] at q7 ⊢
    have go3:=hE _ s7 σ6 H7 _ J7 q7
    rw[eX] at go3
    refine no_xe go3 fun yv s8 h_=>?_
    obtain ⟨y,H8,J8,r8,n8⟩:=h_
    obtain ⟨m',hm,w8⟩:=hN _ _ _ n8
    have pD8:=J8.pin (s.heap.objs.size,_) (YL _ (Xb _ (Xe.mpr rfl)))
    refine append_at (hsz:=by rw[Yl,←eI];exact hlen) pD8.1 fun h9 hs9 hD9=>?_
    have J9:Inv Y [] σ6 H8 { s8 with heap:=h9 }:=(J8.pins_of (pins':=[]) fun p hp=>absurd hp (by simp)).turned (t':=s8.toks) (fun b o hb e=>(hs9.2 b hb).trans e) pD8.2.1 (by rw[eL];exact hDC)
     (.inr (by rw[eS];exact Yx _)) cellLt fun p hp=>pnLt p (by simpa using hp)
    refine ⟨m',hm,i + 1,σ6,ys++[y],its++[yv],k + 1,H8,pinD J9 pD8.2.1 (by rw[hD9,List.push_toArray]),Vals.append rv (.cons r8 .nil),?_,(fin J8).2,w8⟩
    exact T.keep _ _ _ (fin J8).1 fun b hb o e=>(hs9.2 b (fpD b hb)).trans e
 exact codeAny_compStart_list (loop _ rfl) (T.self _ 0 _ _ _ (T.keep _ _ _ st fun b _ o e=>old b o e) (loop _ rfl))
theorem pe_comp {wi:TI}(S:CSc X scope vs fs fr)(hc:X.calm=true)(hi:PI X tg iter wi)
  (bG:∀C s₀ H₀ ex pn,PG (CompCx X (vs++fs) scope C s₀ H₀ ex pn) tg g) (bT:∀C s₀ H₀ ex pn,PTs (CompCx X (vs++fs) scope C s₀ H₀ ex pn) ifs tt) (bE:∀C s₀ H₀ ex pn,PE (CompCx X (vs++fs) scope C s₀ H₀ ex pn) elt te)
  (hs:∀x,W2 iter X.env x=pure x:=by intro _;rfl):
  PE X (.ListComp elt [⟨tg,iter,ifs,0⟩] scope pos) (tComp wi vs fr g tt te):=by
 intro pins s σ H Q I h
 rw[eval_ListComp]
 refine wpAny_comprehension_free (use:=none) rfl hs (closure_eq (S.clos I.ok)) S.kind S.loc' (thn (hi pins s σ H _ I h) fun v s1 h1=>thn h1 fun itv s2 h2=>?_)
 obtain ⟨it,fp,tn,J,H2,e,I2,T,st2,f2,q2⟩:=h2
 subst e
 refine comp_block (RR:=fun acc C=>compPost (model X.prog X.w) X.A X.xe none (EP X pins σ Q) acc C) S hc bG bT bE I2 T st2 f2 q2 ?_
 intro D C H' s' m' I' hq hn hC hle
 refine ⟨m',hn,fun h' hs'=>⟨.ref D,H',?_,rfl,hq⟩⟩
 refine I'.turned (t':=s'.toks) (fun b o hb e=>(hs'.2 b hb).trans e) hC ?_ (.inr (YB I2.sz hle)) ?_ ?_
 ·exact Ws (Yv I2.lt hle)
 ·intro x c e
  obtain ⟨v,z⟩:=I2.cell x c e
  exact YH (Yv z.lt hle)
 ·intro p hp
  exact Zbg (I2.pin p hp).1 hle
end
section
variable {X:Cx}
def Its (z:Str):It:=⟨fun i _=>i < z.cps.size,fun i H x H'=>H'=H/\∃c,z.cps[i]? = some c/\x=.str ⟨#[c]⟩,fun i _=>i=z.cps.size⟩
theorem turn_str {P:Yo}{w:World}{K:W.Frag}{tg:Expr}{it:Addr}{z:Str}{t:Tok}{ty:String}(hty:ty="str_ascii_iterator"\/ty="str_iterator"):Turn P w K tg (Its z) [it] it (fun i h=>h.IsStrIter it ty z t i) where
 mem:=by simp
 obj:=fun i h st b hb=>by
  have e:b=it:=by simpa using hb
  subst e
  obtain ⟨o,e,c,d⟩:=st
  exact ⟨o,e,fun v z=>by rw[d] at z;cases z⟩
 keep:=fun i h h' st k=>by
  obtain ⟨o,e,c,d⟩:=st
  exact ⟨o,k it (by simp) o e,c,d⟩
 item:=by
  intro X hP hw hK hc i pins s σ H E I hf st hg
  subst hP hw hK
  obtain ⟨f0,f1,f2,f3,f4,f5⟩:=hf it (by simp)
  have fin:∀v h' tk,SignAt z i v->h'.IsStrIter it ty z t (i + 1)->(∀b o,b∉[it]->s.heap.get? b=some o->h'.get? b=some o)->
    ∃u,some v=some u/\wpAny (model X.prog X.w) X.A (WH tg (.ref it) u) (fun _ s2=>∃x H',Inv X pins σ H' s2/\RelV x u/\(Its z).yld i H x H'/\s2.heap.IsStrIter it ty z t (i + 1)/\∀b∈[it],H' b=none) E { s with heap:=h',toks:=tk }:=fun v h' tk hv st' kk=>by
   obtain ⟨c,u,hcx,rfl⟩:=hv
   have I1:Inv X pins σ H { s with heap:=h',toks:=tk }:=I.turned (fun b o hb e=>kk b o (by simpa using hb) e) f0 f1 f3 f4 f5
   obtain ⟨o,e,oc,d⟩:=id st'
   refine ⟨_,rfl,go_of (s:={ s with heap:=h',toks:=tk }) e oc d (by rcases hty with rfl | rfl<;>decide) ⟨.str ⟨#[c]⟩,H,I1,⟨u,rfl⟩,⟨rfl,c,hcx,rfl⟩,st',fun b hb=>(hf b hb).1⟩⟩
  rcases hty with rfl | rfl
  ·exact (Walks.strAscii (prog:=X.prog) (w:=X.w) (I.ok.hd hc) it z t).item i s _ _ hg st fin
  ·exact (Walks.strWide (prog:=X.prog) (w:=X.w) (I.ok.hd hc) it z t).item i s _ _ hg st fin
 done:=by
  intro X hP hw hK hc i pins s σ H E I hf st hg
  subst hP hw hK
  obtain ⟨f0,f1,f2,f3,f4,f5⟩:=hf it (by simp)
  have hg:i=z.cps.size:=hg
  subst hg
  have fin:∀h' tk,(∀b o,b∉[it]->s.heap.get? b=some o->h'.get? b=some o)->(none:Option Value)=none/\Inv X pins σ H { s with heap:=h',toks:=tk }:=fun h' tk kk=>
   ⟨rfl,I.turned (fun b o hb e=>kk b o (by simpa using hb) e) f0 f1 f3 f4 f5⟩
  rcases hty with rfl | rfl
  ·exact (Walks.strAscii (prog:=X.prog) (w:=X.w) (I.ok.hd hc) it z t).done s _ _ st fin
  ·exact (Walks.strWide (prog:=X.prog) (w:=X.w) (I.ok.hd hc) it z t).done s _ _ st fin
 self:=fun _ _ _ _ _ st h=>by
  rcases hty with rfl | rfl
  ·exact wpAny_pyIter_striter_ascii st h
  ·exact wpAny_pyIter_striter_wide st h
theorem range_all (bs:List Bool):((YT bs.length).all fun i=>bs.getD i false)=bs.all id:=by
 rw[WJ]
 simp only[YG,List.mem_range]
 constructor
 ·intro h b hb
  obtain ⟨i,hi,e⟩:=Vm hb
  have:=h i hi
  rw[XH,Yd hi] at this
  subst e
  simpa using this
 ·intro h i hi
  rw[XH,Yd hi]
  simpa using h _ (Wg hi)
theorem call_all_bl (hc:X.calm=true):CallR X (.builtin "all") (fun xs H Q=>∃(a:Addr) (bs:List Bool),xs=[.ref a]/\SqL X.K H a (bs.map V.bl)/\Q (.bl (bs.all id)) H):=by
 intro pins s σ H xs us Q I r h
 obtain ⟨a,bs,rfl,hq,q⟩:=h
 obtain ⟨u,rfl,ru⟩:=Vals.one r
 cases (show u=YY a from ru)
 obtain ⟨its,rv,p,hz⟩:=I.list hq
 have hlt:a < s.heap.objs.size:=by obtain ⟨o,e,_⟩:=p.isList;exact Yq e
 refine call_all_walk (W4 p.isList ?_)
 have hlen:its.toArray.size=bs.length:=by have:=rv.length;simp at this;simp[this]
 refine ⟨s.heap.objs.size,_,_,its.toArray.size,_,_,fun i=>bs.getD i false,rfl,Walks.list (by exact I.ok.hd hc) s.heap.objs.size a (YH hlt) its.toArray,⟨⟨_,Yh _ rfl,rfl,rfl⟩,p.isList.push _⟩,?_,?_⟩
 ·intro i v s' Q' E' hv hQ'
  have hi:i < bs.length:=by
   rw[←hlen]
   exact (Array.getElem?_eq_some_iff.mp hv).1
  obtain ⟨u,e1,r1⟩:=rv.get (i:=i) (x:=V.bl bs[i]) (by simp[hi])
  have e2:its[i]? = some v:=by simpa using hv
  rw[e1] at e2
  have e3:u=v:=Yz e2
  have e4:u=Vh bs[i]:=r1
  rw[←e3,e4]
  refine Xl ?_
  have:bs.getD i false=bs[i]:=by rw[XH,Yd hi];rfl
  have hQ2:Q' (bs.getD i false) s':=hQ'
  rw[this] at hQ2
  exact hQ2
 ·intro h' tk kk
  refine ⟨.bl _,H,I.kept fun b o e=>kk b o (fun z=>?_) (Yb _ e),?_,q⟩
  ·have:b=s.heap.objs.size:=by simpa using z
   exact absurd this (YH (Yq e))
  ·show Vh _=Vh _
   rw[hlen,range_all]
theorem Zdf:∀{ys:List Str} {us:List Value},Vals (ys.map V.str) us->StrsAre us ys
 | [],_,.nil=>.nil
 | _::_,_,.cons r t=>by
  obtain ⟨k,rfl⟩:=r
  exact .cons _ _ (Zdf t)
theorem mt_join:MtR X "str.join" (fun x xs H Q=>∃(z:Str) (p:Addr) (ys:List Str),x=.str z/\xs=[.ref p]/\SqL X.K H p (ys.map V.str)/\(ys.map (·.length)).sum + ys.length * z.length<=16777216/\Q (.str (Txt.join z ys)) H):=by
 intro pins s σ H x xs v us Q I rx rs h
 obtain ⟨z,p,ys,rfl,rfl,hq,hw,q⟩:=h
 obtain ⟨t,rfl⟩:=rx
 obtain ⟨u,rfl,ru⟩:=Vals.one rs
 cases (show u=YY p from ru)
 obtain ⟨its,rv,pl,hz⟩:=I.list hq
 exact join_list pl.isList (Zdf (by simpa using rv)) hw fun t' k=>⟨.str _,H,I.tok k,⟨t',rfl⟩,q⟩
end
end L2
namespace Se
open PySem PySem.SetTable
def adv (mask:Nat)(p:Probe):Probe:=
 if p.more > 0 then { p with j:=p.j + 1,more:=p.more - 1 } else
 { p with j:=(leap mask p.i p.perturb).1,more:=runEnd mask (leap mask p.i p.perturb).1 - (leap mask p.i p.perturb).1,i:=(leap mask p.i p.perturb).1,perturb:=(leap mask p.i p.perturb).2 }
def it (mask:Nat):Nat->Probe->Probe
 | 0,p=>p
 | n + 1,p=>it mask n (adv mask p)
def inRun (mask i d pt:Nat):Probe:={ j:=i + d,more:=runEnd mask i - i - d,i:=i,perturb:=pt,dummy:=none }
def len (mask i:Nat):Nat:=runEnd mask i - i
def lp (mask:Nat):Nat->Nat×Nat->Nat×Nat
 | 0,p=>p
 | n + 1,p=>lp mask n (leap mask p.1 p.2)
def f (mask i:Nat):Nat:=(i * 5 + 1) % (mask + 1)
def fk (mask:Nat):Nat->Nat->Nat
 | 0,i=>i
 | n + 1,i=>fk mask n (f mask i)
def Mk (mask:Nat):Prop:=mask=7\/mask=31\/mask=127
def Rising (xs:Array Nat):Prop:=∀(a b:Nat) (x y:Nat),a < b->xs[a]? = some x->xs[b]? = some y->x < y
def start (mask:Nat)(h:Int):Probe:=inRun mask (bits h % (mask + 1)) 0 (bits h)
structure T0 (t:SetTable)(es:Array (Int×Value)):Prop where
 mm:Mk t.mask
 dm:t.dummies=#[]
 rs:Rising t.place
 sz:t.place.size=es.size
 lt:∀i j:Nat,t.place[i]? = some j->j < t.mask + 1
 rc:∀(i j:Nat) (e:Int×Value),t.place[i]? = some j->es[i]? = some e->∃n,(it t.mask n (start t.mask e.1)).j=j/\∀m,m < n->∃i':Nat,t.place[i']? = some (it t.mask m (start t.mask e.1)).j
structure TI (t:SetTable)(es:Array (Int×Value)):Prop extends T0 t es where
 fl:es.size * 5 < t.mask * 3
def own (owner:Array (Option Nat))(j:Nat):Option Nat:=owner.getD j (some 0)
end Se
namespace Pu
open PySem PySem.Spec PyProof.Rows L2
inductive PV where
 | non | bl (b:Bool) | int (i:Int) | str (x:Str) | tup (xs:List PV) | lst (xs:List PV) | dct (ks vs:List PV) | dtt (ks:List (List Key)) (vs:List PV) | fn (a:Addr) | ty (n:String)
def kP:Key->PV
 | .inl i=>.int i
 | .inr x=>.str x
def LsR (K:W.Frag)(ι:List Addr)(H:Hp)(a:Addr)(vs:List V):Prop:=
 (a∉ι/\Rd H a (.lst vs))\/
  ∃(o:Obj) (its:Array Value) (n:Nat),K.lookup a=some o/\o.cls=.type "list"/\o.dict=none/\o.data=.seq its n/\its.size<=Yn/\Vals vs its.toList
theorem LsR.sq {K:W.Frag}{ι:List Addr}{H:Hp}{a:Addr}{vs:List V}(h:LsR K ι H a vs):SqL K H a vs:=by
 rcases h with ⟨_,h⟩ | h
 ·exact .inl h
 ·exact .inr h
def TpR (H:Hp)(a:Addr)(vs:List V):Prop:=H a=some (.tup vs)
theorem TpR.sq {K:W.Frag}{H:Hp}{a:Addr}{vs:List V}(h:TpR H a vs):SqT K H a vs:=.inl (.inl h)
mutual
def Rep (K:W.Frag)(ι:List Addr)(H:Hp):PV->V->Prop
 | .non,v=>v=.non
 | .bl b,v=>v=.bl b
 | .int i,v=>v=.int i
 | .str x,v=>v=.str x/\x.length<=Yn
 | .tup ps,v=>∃a vs,v=.ref a/\TpR H a vs/\Reps K ι H ps vs
 | .lst ps,v=>∃a vs,v=.ref a/\LsR K ι H a vs/\Reps K ι H ps vs
 | .dct ks ps,v=>∃(a:Addr) (qs:List Key) (vs:List V),v=.ref a/\a∉ι/\H a=some (.dK (qs.zip vs))/\qs.length=vs.length/\ks=qs.map kP/\Reps K ι H ps vs
 | .dtt ks ps,v=>∃(a:Addr) (vs:List V),v=.ref a/\a∉ι/\Rd H a (.dT (ks.zip vs))/\ks.length=vs.length/\Reps K ι H ps vs
 | .fn a,v=>v=.ref a
 | .ty n,v=>v=.ty n
def Reps (K:W.Frag)(ι:List Addr)(H:Hp):List PV->List V->Prop
 | [],vs=>vs=[]
 | p::ps,vs=>∃v r,vs=v::r/\Rep K ι H p v/\Reps K ι H ps r
end
inductive SV where
 | v (p:PV) | c (k:Nat)
abbrev Cs:=List PV
def RepS (K:W.Frag)(ι:List Addr)(H:Hp):SV->V->Prop
 | .v p,x=>Rep K ι H p x
 | .c k,x=>∃a,x=.ref a/\ι[k]? = some a
def RepSs (K:W.Frag)(ι:List Addr)(H:Hp):List SV->List V->Prop
 | [],vs=>vs=[]
 | p::ps,vs=>∃v r,vs=v::r/\RepS K ι H p v/\RepSs K ι H ps r
def CellOk (K:W.Frag)(ι:List Addr)(H:Hp)(a:Addr):PV->Prop
 | .lst ps=>∃vs,H a=some (.lst vs)/\Reps K ι H ps vs
 | .dct ks ps=>∃(qs:List Key) (vs:List V),H a=some (.dK (qs.zip vs))/\qs.length=vs.length/\ks=qs.map kP/\Reps K ι H ps vs
 | .dtt ks ps=>∃(vs:List V),H a=some (.dT (ks.zip vs))/\ks.length=vs.length/\Reps K ι H ps vs
 | _=>False
structure CR (K:W.Frag)(ι:List Addr)(H:Hp)(C:Cs):Prop where
 len:ι.length=C.length
 nd:ι.Nodup
 ok:∀(k:Nat) (a:Addr) (c:PV),ι[k]? = some a->C[k]? = some c->CellOk K ι H a c
def Fr (ι:List Addr)(H H':Hp):Prop:=∀b o,b∉ι->H b=some o->H' b=some o
theorem Fr.refl {ι:List Addr}{H:Hp}:Fr ι H H:=fun _ _ _ h=>h
theorem Fr.trans {ι:List Addr}{H H1 H2:Hp}(a:Fr ι H H1)(b:Fr ι H1 H2):Fr ι H H2:=fun c o n h=>b c o n (a c o n h)
theorem Fr.new {ι:List Addr}{H:Hp}{p:Addr}{o:HO}(h:H p=none):Fr ι H (upd H p o):=fun b u _ e=>by rw[Zas (Zao e h)];exact e
section
variable {K:W.Frag}{ι:List Addr}{H H':Hp}{C:Cs}
theorem CR.at' (cr:CR K ι H C){a:Addr}(h:a∈ι):∃(k:Nat) (c:PV),ι[k]? = some a/\C[k]? = some c/\CellOk K ι H a c:=by
 obtain ⟨k,hk,e⟩:=Vm h
 have h1:ι[k]? = some a:=by rw[Yd hk,e]
 have hk2:k < C.length:=by rw[←cr.len];exact hk
 exact ⟨k,C[k],h1,Yd hk2,cr.ok k a _ h1 (Yd hk2)⟩
theorem CR.mut (cr:CR K ι H C){a:Addr}(h:a∈ι):(∃vs,H a=some (.lst vs))\/(∃kvs,H a=some (.dK kvs))\/∃kvs,H a=some (.dT kvs):=by
 obtain ⟨k,c,_,_,ok⟩:=cr.at' h
 cases c with
 | lst ps=>obtain ⟨vs,e,_⟩:=ok;exact .inl ⟨vs,e⟩
 | dct ks ps=>obtain ⟨qs,vs,e,_⟩:=ok;exact .inr (.inl ⟨_,e⟩)
 | dtt ks ps=>obtain ⟨vs,e,_⟩:=ok;exact .inr (.inr ⟨_,e⟩)
 | _=>exact ok.elim
theorem CR.notup (cr:CR K ι H C){a:Addr}{o:HO}(e:H a=some o)(h1:∀vs,o≠.lst vs)(h2:∀kvs,o≠.dK kvs)(h3:∀kvs,o≠.dT kvs:=by intro kvs z;cases z):a∉ι:=fun h=>by
 rcases cr.mut h with ⟨vs,z⟩ | ⟨kvs,z⟩ | ⟨kvs,z⟩
 ·rw[e] at z;exact h1 vs (Yz z)
 ·rw[e] at z;exact h2 kvs (Yz z)
 ·rw[e] at z;exact h3 kvs (Yz z)
theorem tpR_mono (cr:CR K ι H C)(fr:Fr ι H H'){a:Addr}{vs:List V}(h:TpR H a vs):TpR H' a vs:=
 fr _ _ (cr.notup h (fun _ e=>nomatch e) fun _ e=>nomatch e) h
theorem LsR.mono (fr:Fr ι H H'){a:Addr}{vs:List V}(h:LsR K ι H a vs):LsR K ι H' a vs:=by
 rcases h with ⟨n,h | ⟨o,h⟩⟩ | h
 ·exact .inl ⟨n,.inl (fr _ _ n h)⟩
 ·exact .inl ⟨n,.inr ⟨o,fr _ _ n h⟩⟩
 ·exact .inr h
theorem rd_mono {a:Addr}{u:HO}(k:∀o,H a=some o->H' a=some o)(h:Rd H a u):Rd H' a u:=by
 rcases h with h | ⟨o,h⟩
 ·exact .inl (k _ h)
 ·exact .inr ⟨o,k _ h⟩
mutual
theorem Rep.mono (cr:CR K ι H C)(fr:Fr ι H H'):∀(p:PV) (v:V),Rep K ι H p v->Rep K ι H' p v
 | .non,v,h=>by unfold Rep at h ⊢;exact h
 | .bl b,v,h=>by unfold Rep at h ⊢;exact h
 | .int i,v,h=>by unfold Rep at h ⊢;exact h
 | .str x,v,h=>by unfold Rep at h ⊢;exact h
 | .tup ps,v,h=>by
  unfold Rep at h ⊢
  obtain ⟨a,vs,e,sq,r⟩:=h
  exact ⟨a,vs,e,tpR_mono cr fr sq,Reps.mono cr fr ps vs r⟩
 | .lst ps,v,h=>by
  unfold Rep at h ⊢
  obtain ⟨a,vs,e,sq,r⟩:=h
  exact ⟨a,vs,e,sq.mono fr,Reps.mono cr fr ps vs r⟩
 | .dct ks ps,v,h=>by
  unfold Rep at h ⊢
  obtain ⟨a,qs,vs,e,n,hd,hl,hk,r⟩:=h
  exact ⟨a,qs,vs,e,n,fr _ _ n hd,hl,hk,Reps.mono cr fr ps vs r⟩
 | .dtt ks ps,v,h=>by
  unfold Rep at h ⊢
  obtain ⟨a,vs,e,n,hd,hl,r⟩:=h
  exact ⟨a,vs,e,n,rd_mono (fun o e=>fr _ o n e) hd,hl,Reps.mono cr fr ps vs r⟩
 | .fn a,v,h=>by unfold Rep at h ⊢;exact h
 | .ty n,v,h=>by unfold Rep at h ⊢;exact h
theorem Reps.mono (cr:CR K ι H C)(fr:Fr ι H H'):∀(ps:List PV) (vs:List V),Reps K ι H ps vs->Reps K ι H' ps vs
 | [],vs,h=>by unfold Reps at h ⊢;exact h
 | p::ps,vs,h=>by
  unfold Reps at h ⊢
  obtain ⟨v,r,e,h1,h2⟩:=h
  exact ⟨v,r,e,Rep.mono cr fr p v h1,Reps.mono cr fr ps r h2⟩
end
theorem RepS.mono (cr:CR K ι H C)(fr:Fr ι H H'){s:SV}{v:V}(h:RepS K ι H s v):RepS K ι H' s v:=by
 cases s with
 | v p=>exact Rep.mono cr fr p v h
 | c k=>exact h
mutual
theorem Rep.stay (sm:∀b o,H b=some o->H' b=some o):∀(p:PV) (v:V),Rep K ι H p v->Rep K ι H' p v
 | .non,v,h=>by unfold Rep at h ⊢;exact h
 | .bl b,v,h=>by unfold Rep at h ⊢;exact h
 | .int i,v,h=>by unfold Rep at h ⊢;exact h
 | .str x,v,h=>by unfold Rep at h ⊢;exact h
 | .tup ps,v,h=>by
  unfold Rep at h ⊢
  obtain ⟨a,vs,e,sq,r⟩:=h
  exact ⟨a,vs,e,sm _ _ sq,Reps.stay sm ps vs r⟩
 | .lst ps,v,h=>by
  unfold Rep at h ⊢
  obtain ⟨a,vs,e,sq,r⟩:=h
  exact ⟨a,vs,e,sq.mono (fun b o _ e=>sm b o e),Reps.stay sm ps vs r⟩
 | .dct ks ps,v,h=>by
  unfold Rep at h ⊢
  obtain ⟨a,qs,vs,e,n,hd,hl,hk,r⟩:=h
  exact ⟨a,qs,vs,e,n,sm _ _ hd,hl,hk,Reps.stay sm ps vs r⟩
 | .dtt ks ps,v,h=>by
  unfold Rep at h ⊢
  obtain ⟨a,vs,e,n,hd,hl,r⟩:=h
  exact ⟨a,vs,e,n,rd_mono (fun o e=>sm _ o e) hd,hl,Reps.stay sm ps vs r⟩
 | .fn a,v,h=>by unfold Rep at h ⊢;exact h
 | .ty n,v,h=>by unfold Rep at h ⊢;exact h
theorem Reps.stay (sm:∀b o,H b=some o->H' b=some o):∀(ps:List PV) (vs:List V),Reps K ι H ps vs->Reps K ι H' ps vs
 | [],vs,h=>by unfold Reps at h ⊢;exact h
 | p::ps,vs,h=>by
  unfold Reps at h ⊢
  obtain ⟨v,r,e,h1,h2⟩:=h
  exact ⟨v,r,e,Rep.stay sm p v h1,Reps.stay sm ps r h2⟩
end
mutual
theorem Rep.cells {ι':List Addr}(hs:∀b o,H b=some o->b∉ι->b∉ι'):∀(p:PV) (v:V),Rep K ι H p v->Rep K ι' H p v
 | .non,v,h=>by unfold Rep at h ⊢;exact h
 | .bl b,v,h=>by unfold Rep at h ⊢;exact h
 | .int i,v,h=>by unfold Rep at h ⊢;exact h
 | .str x,v,h=>by unfold Rep at h ⊢;exact h
 | .tup ps,v,h=>by
  unfold Rep at h ⊢
  obtain ⟨a,vs,e,sq,r⟩:=h
  exact ⟨a,vs,e,sq,Reps.cells hs ps vs r⟩
 | .lst ps,v,h=>by
  unfold Rep at h ⊢
  obtain ⟨a,vs,e,sq,r⟩:=h
  refine ⟨a,vs,e,?_,Reps.cells hs ps vs r⟩
  rcases sq with ⟨n,q | ⟨o,q⟩⟩ | q
  ·exact .inl ⟨hs _ _ q n,.inl q⟩
  ·exact .inl ⟨hs _ _ q n,.inr ⟨o,q⟩⟩
  ·exact .inr q
 | .dct ks ps,v,h=>by
  unfold Rep at h ⊢
  obtain ⟨a,qs,vs,e,n,hd,hl,hk,r⟩:=h
  exact ⟨a,qs,vs,e,hs _ _ hd n,hd,hl,hk,Reps.cells hs ps vs r⟩
 | .dtt ks ps,v,h=>by
  unfold Rep at h ⊢
  obtain ⟨a,vs,e,n,hd,hl,r⟩:=h
  exact ⟨a,vs,e,by rcases id hd with q | ⟨o,q⟩<;>exact hs _ _ q n,hd,hl,Reps.cells hs ps vs r⟩
 | .fn a,v,h=>by unfold Rep at h ⊢;exact h
 | .ty n,v,h=>by unfold Rep at h ⊢;exact h
theorem Reps.cells {ι':List Addr}(hs:∀b o,H b=some o->b∉ι->b∉ι'):∀(ps:List PV) (vs:List V),Reps K ι H ps vs->Reps K ι' H ps vs
 | [],vs,h=>by unfold Reps at h ⊢;exact h
 | p::ps,vs,h=>by
  unfold Reps at h ⊢
  obtain ⟨v,r,e,h1,h2⟩:=h
  exact ⟨v,r,e,Rep.cells hs p v h1,Reps.cells hs ps r h2⟩
end
theorem Reps.nil:Reps K ι H [] []:=by unfold Reps;rfl
theorem Reps.cons {p:PV}{v:V}{ps:List PV}{vs:List V}(h:Rep K ι H p v)(t:Reps K ι H ps vs):Reps K ι H (p::ps) (v::vs):=by unfold Reps;exact ⟨v,vs,rfl,h,t⟩
theorem Reps.inv {p:PV}{ps:List PV}{vs:List V}(h:Reps K ι H (p::ps) vs):∃v r,vs=v::r/\Rep K ι H p v/\Reps K ι H ps r:=by unfold Reps at h;exact h
theorem Reps.inv0 {vs:List V}(h:Reps K ι H [] vs):vs=[]:=by unfold Reps at h;exact h
theorem Reps.length:∀{ps:List PV} {vs:List V},Reps K ι H ps vs->ps.length=vs.length
 | [],vs,h=>by rw[h.inv0];rfl
 | p::ps,vs,h=>by obtain ⟨v,r,rfl,_,t⟩:=h.inv;rw[Ys,Ys,t.length]
theorem Reps.append:∀{ps qs:List PV} {vs ws:List V},Reps K ι H ps vs->Reps K ι H qs ws->Reps K ι H (ps++qs) (vs++ws)
 | [],_,vs,_,h,t=>by rw[h.inv0];exact t
 | p::ps,_,vs,_,h,t=>by obtain ⟨v,r,rfl,h1,h2⟩:=h.inv;exact .cons h1 (h2.append t)
theorem Reps.get:∀{ps:List PV} {vs:List V} {i:Nat} {p:PV},Reps K ι H ps vs->ps[i]? = some p->∃v,vs[i]? = some v/\Rep K ι H p v
 | [],_,_,_,h,e=>by simp at e
 | q::ps,vs,0,p,h,e=>by
  obtain ⟨v,r,rfl,h1,h2⟩:=h.inv
  simp at e;subst e;exact ⟨v,rfl,h1⟩
 | q::ps,vs,i + 1,p,h,e=>by
  obtain ⟨v,r,rfl,h1,h2⟩:=h.inv
  obtain ⟨w,e1,r1⟩:=h2.get (i:=i) (by simpa using e)
  exact ⟨w,by simpa using e1,r1⟩
theorem Reps.get':∀{ps:List PV} {vs:List V} {i:Nat} {v:V},Reps K ι H ps vs->vs[i]? = some v->∃p,ps[i]? = some p/\Rep K ι H p v:=fun {ps vs i v} h e=>by
 have hi:i < ps.length:=by
  rw[h.length]
  rcases Y1 i vs.length with q | q
  ·exact q
  ·rw[YD.mpr q] at e;cases e
 obtain ⟨w,e1,r⟩:=h.get (Yd hi)
 rw[e] at e1;cases e1
 exact ⟨_,Yd hi,r⟩
theorem Reps.take:∀{ps:List PV} {vs:List V} (n:Nat),Reps K ι H ps vs->Reps K ι H (ps.take n) (vs.take n)
 | _,_,0,_=>by simp;exact .nil
 | [],vs,n + 1,h=>by rw[h.inv0];simp;exact .nil
 | p::ps,vs,n + 1,h=>by obtain ⟨v,r,rfl,h1,h2⟩:=h.inv;simp only[List.take_succ_cons];exact .cons h1 (h2.take n)
theorem Reps.drop:∀{ps:List PV} {vs:List V} (n:Nat),Reps K ι H ps vs->Reps K ι H (ps.drop n) (vs.drop n)
 | _,_,0,h=>by simpa using h
 | [],vs,n + 1,h=>by rw[h.inv0];simp;exact .nil
 | p::ps,vs,n + 1,h=>by obtain ⟨v,r,rfl,h1,h2⟩:=h.inv;simpa using h2.drop n
theorem Reps.set:∀{ps:List PV} {vs:List V} (i:Nat) {p:PV} {v:V},Reps K ι H ps vs->Rep K ι H p v->Reps K ι H (ps.set i p) (vs.set i v)
 | [],vs,i,p,v,h,_=>by rw[h.inv0];simp;exact .nil
 | q::ps,vs,0,p,v,h,hp=>by obtain ⟨w,r,rfl,h1,h2⟩:=h.inv;simp;exact .cons hp h2
 | q::ps,vs,i + 1,p,v,h,hp=>by obtain ⟨w,r,rfl,h1,h2⟩:=h.inv;simp;exact .cons h1 (h2.set i hp)
theorem CellOk.mono (cr:CR K ι H C)(fr:Fr ι H H'){a:Addr}{c:PV}(ha:∀o,H a=some o->H' a=some o)(h:CellOk K ι H a c):CellOk K ι H' a c:=by
 cases c with
 | lst ps=>obtain ⟨vs,e,r⟩:=h;exact ⟨vs,ha _ e,Reps.mono cr fr _ _ r⟩
 | dct ks ps=>obtain ⟨qs,vs,e,hl,hk,r⟩:=h;exact ⟨qs,vs,ha _ e,hl,hk,Reps.mono cr fr _ _ r⟩
 | dtt ks ps=>obtain ⟨vs,e,hl,r⟩:=h;exact ⟨vs,ha _ e,hl,Reps.mono cr fr _ _ r⟩
 | _=>exact h.elim
theorem CR.same (cr:CR K ι H C)(sm:∀b o,H b=some o->H' b=some o):CR K ι H' C:=
 ⟨cr.len,cr.nd,fun k a c h1 h2=>(cr.ok k a c h1 h2).mono cr (fun b o _ e=>sm b o e) fun o e=>sm a o e⟩
theorem CR.new (cr:CR K ι H C){p:Addr}{o:HO}(h:H p=none):CR K ι (upd H p o) C:=cr.same fun b u e=>by rw[Zas (Zao e h)];exact e
theorem CR.put (cr:CR K ι H C){k:Nat}{a:Addr}{c:PV}{o:HO}(hk:ι[k]? = some a)(ok:CellOk K ι (upd H a o) a c):CR K ι (upd H a o) (C.set k c):=by
 have fr:Fr ι H (upd H a o):=fun b u n e=>by
  rw[Zas (fun z=>n (by rw[z];exact Xd hk))];exact e
 refine ⟨by rw[VU];exact cr.len,cr.nd,fun j b d h1 h2=>?_⟩
 by_cases hj:j=k
 ·subst hj
  rw[hk] at h1;cases h1
  have hlt:j < C.length:=by
   rw[←cr.len]
   rcases Y1 j ι.length with q | q
   ·exact q
   ·rw[YD.mpr q] at hk;cases hk
  rw[Xq hlt] at h2
  cases h2;exact ok
 ·rw[Xc (XA hj)] at h2
  refine (cr.ok j b d h1 h2).mono cr fr fun u e=>?_
  have hb:b≠a:=fun z=>by
   subst z
   have hjl:j < ι.length:=by
    rcases Y1 j ι.length with q | q
    ·exact q
    ·rw[YD.mpr q] at h1;cases h1
   have hkl:k < ι.length:=by
    rcases Y1 k ι.length with q | q
    ·exact q
    ·rw[YD.mpr q] at hk;cases hk
   have e1:=(Y3.mp h1).2
   have e2:=(Y3.mp hk).2
   exact hj ((VH cr.nd).mp (e1.trans e2.symm))
  rw[Zas hb];exact e
theorem repHs {p:Addr}(hp:H p=none):∀b u,H b=some u->b∉ι->b∉ι++[p]:=fun b u e n z=>by
 rcases Y8.mp z with z | z
 ·exact n z
 ·exact Zao e hp (by simpa using z)
theorem RepsNew (cr:CR K ι H C){p:Addr}{o:HO}(hp:H p=none)(q:List PV)(v:List V)(r:Reps K ι H q v):Reps K (ι++[p]) (upd H p o) q v:=by
 exact Reps.stay (fun b u e=>by rw[Zas (Zao e hp)];exact e) q v (Reps.cells (ι':=ι++[p]) (repHs hp) q v r)
theorem CR.add (cr:CR K ι H C){p:Addr}{c:PV}{o:HO}(hp:H p=none)(ok:CellOk K (ι++[p]) (upd H p o) p c):CR K (ι++[p]) (upd H p o) (C++[c]):=by
 have hni:p∉ι:=fun z=>by
  rcases cr.mut z with ⟨vs,e⟩ | ⟨kvs,e⟩ | ⟨kvs,e⟩
  ·rw[hp] at e;cases e
  ·rw[hp] at e;cases e
  ·rw[hp] at e;cases e
 have hc:∀b u,(upd H p o) b=some u->b∉ι->b≠p->b∉ι++[p]:=fun b u _ n1 n2 z=>by
  rcases Y8.mp z with z | z
  ·exact n1 z
  ·exact n2 (by simpa using z)
 have up:∀b u,H b=some u->(upd H p o) b=some u:=fun b u e=>by rw[Zas (Zao e hp)];exact e
 have lift:∀(b:Addr) (d:PV),CellOk K ι H b d->CellOk K (ι++[p]) (upd H p o) b d:=fun b d h=>by
  have hs:∀b u,H b=some u->b∉ι->b∉ι++[p]:=fun b u e n=>hc b u (up b u e) n (Zao e hp)
  have cr':CR K ι (upd H p o) C:=cr.new hp
  cases d with
  | lst ps=>
   obtain ⟨vs,e,r⟩:=h
   exact ⟨vs,up _ _ e,RepsNew cr hp ps vs r⟩
  | dct ks ps=>
   obtain ⟨qs,vs,e,hl,hk,r⟩:=h
   exact ⟨qs,vs,up _ _ e,hl,hk,RepsNew cr hp ps vs r⟩
  | dtt ks ps=>
   obtain ⟨vs,e,hl,r⟩:=h
   exact ⟨vs,up _ _ e,hl,RepsNew cr hp ps vs r⟩
  | _=>exact h.elim
 refine ⟨by simp[cr.len],?_,fun k a d h1 h2=>?_⟩
 ·rw[VA]
  refine ⟨cr.nd,by simp,fun a ha b hb=>?_⟩
  have:b=p:=by simpa using hb
  subst this
  exact fun z=>hni (z ▸ ha)
 ·rcases Y1 k ι.length with hk | hk
  ·rw[YC hk] at h1
   rw[YC (by rw[←cr.len];exact hk)] at h2
   exact lift a d (cr.ok k a d h1 h2)
  ·rw[YS hk] at h1
   rw[YS (by rw[←cr.len];exact hk)] at h2
   rw[←cr.len] at h2
   cases hz:k - ι.length with
   | zero=>
    rw[hz] at h1 h2
    simp at h1 h2
    subst h1 h2
    exact ok
   | succ j=>rw[hz] at h1;simp at h1
end
end Pu
namespace Pu
open PySem PySem.Spec L2
open PyProof.Rows hiding St
abbrev M (α:Type):=Cs->Option (α×Cs)
def ret {α:Type}(a:α):M α:=fun C=>some (a,C)
def bnd {α β:Type}(x:M α)(f:α->M β):M β:=fun C=>match x C with
 | none=>none
 | some (a,C')=>f a C'
def opM {α:Type}(g:Cs->Option α):M α:=fun C=>match g C with
 | none=>none
 | some a=>some (a,C)
theorem Zag {α β:Type}{x:M α}{f:α->M β}{C C2:Cs}{b:β}(h:bnd x f C=some (b,C2)):∃a C1,x C=some (a,C1)/\f a C1=some (b,C2):=by
 unfold bnd at h
 cases e:x C with
 | none=>rw[e] at h;cases h
 | some p=>obtain ⟨a,C1⟩:=p;rw[e] at h;exact ⟨a,C1,rfl,h⟩
theorem Zav {α:Type}{g:Cs->Option α}{C C2:Cs}{b:α}(h:opM g C=some (b,C2)):g C=some b/\C2=C:=by
 unfold opM at h
 cases e:g C with
 | none=>rw[e] at h;cases h
 | some p=>rw[e] at h;cases h;exact ⟨rfl,rfl⟩
abbrev PSt:=List (Option SV)
def asB:SV->Option Bool
 | .v (.bl b)=>some b
 | _=>none
def mB (x:SV):M Bool:=opM fun _=>asB x
theorem ZcY {x:SV}{C C2:Cs}{b:Bool}(h:mB x C=some (b,C2)):x=.v (.bl b)/\C2=C:=by
 obtain ⟨h,e⟩:=Zav h
 refine ⟨?_,e⟩
 cases x with
 | c k=>cases h
 | v p=>cases p<;>first | (cases h;rfl) | cases h
theorem repB {K:W.Frag}{ι:List Addr}{H:Hp}{b:Bool}{v:V}(h:RepS K ι H (.v (.bl b)) v):v=.bl b:=by unfold RepS Rep at h;exact h
theorem repB' {K:W.Frag}{ι:List Addr}{H:Hp}{b:Bool}:RepS K ι H (.v (.bl b)) (.bl b):=by unfold RepS Rep;rfl
inductive PF where
 | nx (ρ:PSt) | rt (r:SV) | bk (ρ:PSt) | ct (ρ:PSt) | rf (ps:List PV) | rq (qs:List SV)
structure SR (K:W.Frag)(ι:List Addr)(H:Hp)(ρ:PSt)(σ:St)(C:Cs):Prop where
 cr:CR K ι H C
 len:ρ.length=σ.length
 loc:∀(i:Nat) (s:SV),ρ[i]? = some (some s)->∃v,σ[i]? = some (some v)/\RepS K ι H s v
section
variable {K:W.Frag}{ι:List Addr}{H H':Hp}{C C':Cs}{ρ:PSt}{σ:St}
theorem SR.step (sr:SR K ι H ρ σ C)(fr:Fr ι H H')(cr:CR K ι H' C'):SR K ι H' ρ σ C':=
 ⟨cr,sr.len,fun i s e=>by obtain ⟨v,h1,h2⟩:=sr.loc i s e;exact ⟨v,h1,h2.mono sr.cr fr⟩⟩
theorem SR.set (sr:SR K ι H ρ σ C){s:SV}{v:V}(i:Nat)(r:RepS K ι H s v):SR K ι H (ρ.set i (some s)) (σ.set i (some v)) C:=by
 refine ⟨sr.cr,by simp[sr.len],fun j t e=>?_⟩
 by_cases hj:i=j
 ·subst hj
  have hi:i < ρ.length:=by
   rcases Y1 i ρ.length with q | q
   ·exact q
   ·rw[YD.mpr (by simpa using q)] at e;cases e
  rw[Xq hi] at e
  cases e
  exact ⟨v,by rw[Xq (by rw[←sr.len];exact hi)],r⟩
 ·rw[Xc hj] at e
  rw[Xc hj]
  exact sr.loc j t e
end
def tM (K:W.Frag)(f:PSt->M SV):TE:=fun σ H Q=>∃ι ρ C r C',SR K ι H ρ σ C/\f ρ C=some (r,C')/\∀v H',Fr ι H H'->CR K ι H' C'->RepS K ι H' r v->Q v H'
def tMA (K:W.Frag)(f:PSt->M (List SV)):TA:=fun σ H Q=>∃ι ρ C r C',SR K ι H ρ σ C/\f ρ C=some (r,C')/\∀v H',Fr ι H H'->CR K ι H' C'->RepSs K ι H' r v->Q v H'
def tMB (K:W.Frag)(f:PSt->M Bool):TT:=fun σ H Q=>∃ι ρ C r C',SR K ι H ρ σ C/\f ρ C=some (r,C')/\∀H',Fr ι H H'->CR K ι H' C'->Q r H'
def tMF (K:W.Frag)(f:PSt->M (List PV)):TE:=fun σ H Q=>∃ι ρ C ps C',SR K ι H ρ σ C/\f ρ C=some (ps,C')/\∀p vs H',Fr ι H H'->CR K ι H' C'->H' p=none->Reps K ι H' ps vs->Q (.ref p) (upd H' p (.lst vs))
def EM (X:Cx)(e:Expr)(f:PSt->M SV):Prop:=PE X e (tM X.K f)
def AM (X:Cx)(es:List Expr)(f:PSt->M (List SV)):Prop:=PA X es (tMA X.K f)
def TMt (X:Cx)(e:Expr)(f:PSt->M Bool):Prop:=PT X e (tMB X.K f)
def WM (X:Cx)(e:Expr)(f:PSt->M Bool):Prop:=PW X e (tMB X.K f)
def FM (X:Cx)(e:Expr)(f:PSt->M (List PV)):Prop:=PE X e (tMF X.K f)
theorem PE.imp {X:Cx}{e:Expr}{t t':TE}(h:PE X e t)(k:∀σ H Q,t' σ H Q->t σ H Q):PE X e t':=fun pins s σ H Q I q=>h pins s σ H Q I (k σ H Q q)
theorem PT.imp {X:Cx}{e:Expr}{t t':TT}(h:PT X e t)(k:∀σ H Q,t' σ H Q->t σ H Q):PT X e t':=fun pins s σ H Q I q=>h pins s σ H Q I (k σ H Q q)
theorem PW.imp {X:Cx}{e:Expr}{t t':TT}(h:PW X e t)(k:∀σ H Q,t' σ H Q->t σ H Q):PW X e t':=fun wh pins s σ H Q I q=>h wh pins s σ H Q I (k σ H Q q)
theorem PA.imp {X:Cx}{e:List Expr}{t t':TA}(h:PA X e t)(k:∀σ H Q,t' σ H Q->t σ H Q):PA X e t':=fun pos pins s σ H Q I q=>h pos pins s σ H Q I (k σ H Q q)
theorem PS.imp {X:Cx}{e:Stmt}{t t':TS}(h:PS X e t)(k:∀D σ H,t' D σ H->t D σ H):PS X e t':=fun pins s σ H D I q=>h pins s σ H D I (k D σ H q)
theorem PSs.imp {X:Cx}{e:List Stmt}{t t':TS}(h:PSs X e t)(k:∀D σ H,t' D σ H->t D σ H):PSs X e t':=fun pins s σ H D I q=>h pins s σ H D I (k D σ H q)
theorem PI.imp {X:Cx}{tg e:Expr}{t t':TI}(h:PI X tg e t)(k:∀σ H Q,t' σ H Q->t σ H Q):PI X tg e t':=fun pins s σ H Q I q=>h pins s σ H Q I (k σ H Q q)
section
variable {X:Cx}{a b e c:Expr}{es:List Expr}{fa fb fc:PSt->M SV}{pos p:Pos}{x:Str}
def mVar (i:Nat):PSt->M SV:=fun ρ C=>match ρ[i]? with
 | some (some s)=>some (s,C)
 | _=>none
theorem em_var (i:Nat){x:Str}{pos:Pos}(hN:X.N[i]? = some x:=by rfl)(hv:Vis X.env.scope x:=by first | exact Or.inl rfl | exact Or.inr (Or.inl rfl) | exact Or.inr (Or.inr rfl))(hd:(x==("__debug__":Str))=false:=by decide)
  (hcd:(x==("__classdict__":Str))=false:=by decide):EM X (.Name x pos) (mVar i):=by
 refine PE.imp (pe_var hN hv hd hcd) fun σ H Q h_=>?_
 obtain ⟨ι,ρ,C,r,C',sr,e,q⟩:=h_
 unfold mVar at e
 cases e1:ρ[i]? with
 | none=>rw[e1] at e;cases e
 | some o=>
  cases o with
  | none=>rw[e1] at e;cases e
  | some s=>
   rw[e1] at e;cases e
   obtain ⟨v,h1,h2⟩:=sr.loc i _ e1
   exact ⟨v,h1,q v H .refl sr.cr h2⟩
def mC (p:PV):PSt->M SV:=fun _ C=>some (.v p,C)
theorem Zbu {v:V}{q:PV}(h:PE X e (tC v))(r:∀ι H,Rep X.K ι H q v):EM X e (mC q):=by
 refine PE.imp h fun σ H Q h_=>?_
 obtain ⟨ι,ρ,C,z,C',sr,e,k⟩:=h_
 cases e
 exact k v H .refl sr.cr (r ι H)
def mOp (g:Cs->SV->SV->Option SV)(fa fb:PSt->M SV):PSt->M SV:=fun ρ=>bnd (fa ρ) fun x=>bnd (fb ρ) fun y=>opM fun C=>g C x y
def R2ok (K:W.Frag)(r:R2)(g:Cs->SV->SV->Option SV):Prop:=
 ∀(ι:List Addr) (H:Hp) (C:Cs) (x y:SV) (vx vy:V) (z:SV) (Q:VK),CR K ι H C->RepS K ι H x vx->RepS K ι H y vy->g C x y=some z->(∀v H',Fr ι H H'->CR K ι H' C->RepS K ι H' z v->Q v H')->r vx vy H Q
theorem tM_op {K:W.Frag}{r:R2}{g:Cs->SV->SV->Option SV}(hg:R2ok K r g){σ:St}{H:Hp}{Q:VK}(h:tM K (mOp g fa fb) σ H Q):tOp r (tM K fa) (tM K fb) σ H Q:=by
 obtain ⟨ι,ρ,C,z,C',sr,e,q⟩:=h
 obtain ⟨x,C1,e1,e⟩:=Zag e
 obtain ⟨y,C2,e2,e⟩:=Zag e
 obtain ⟨e3,rfl⟩:=Zav e
 exact ⟨ι,ρ,C,x,C1,sr,e1,fun vx H1 f1 c1 r1=>⟨ι,ρ,C1,y,C',sr.step f1 c1,e2,fun vy H2 f2 c2 r2=>hg ι H2 C' x y vx vy z _ c2 (r1.mono c1 f2) r2 e3 fun v H3 f3 c3 r3=>q v H3 (f1.trans (f2.trans f3)) c3 r3⟩⟩
theorem em_op {op:Operator}{r:R2}{g:Cs->SV->SV->Option SV}(ho:OpR X (X6 op) r)(hg:R2ok X.K r g)(ha:EM X a fa)(hb:EM X b fb):EM X (.BinOp a op b pos) (mOp g fa fb):=
 PE.imp (pe_op ho ha hb) fun _ _ _ h=>tM_op hg h
theorem em_ix {r:R2}{g:Cs->SV->SV->Option SV}(hr:IxR X r)(hg:R2ok X.K r g)(ha:EM X a fa)(hb:EM X b fb)(hs:PlainIx b):EM X (.Subscript a b pos) (mOp g fa fb):=
 PE.imp (pe_ix hr ha hb hs) fun _ _ _ h=>tM_op hg h
def mChain (g g':Cs->SV->SV->Option SV)(fa fb fc:PSt->M SV):PSt->M SV:=fun ρ=>bnd (fa ρ) fun x=>bnd (fb ρ) fun y=>bnd (opM fun C=>g C x y) fun z=>bnd (mB z) fun b=>
 if b then bnd (fc ρ) fun w=>opM fun C=>g' C y w else ret (.v (.bl false))
theorem tM_chain {K:W.Frag}{r r':R2}{g g':Cs->SV->SV->Option SV}(hg:R2ok K r g)(hg':R2ok K r' g'){σ:St}{H:Hp}{Q:VK}(h:tM K (mChain g g' fa fb fc) σ H Q):tChain r r' (tM K fa) (tM K fb) (tM K fc) σ H Q:=by
 obtain ⟨ι,ρ,C,z,C',sr,e,q⟩:=h
 obtain ⟨x,C1,e1,e⟩:=Zag e
 obtain ⟨y,C2,e2,e⟩:=Zag e
 obtain ⟨z1,C3,e3,e'⟩:=Zag e
 obtain ⟨e3g,hC3⟩:=Zav e3
 obtain ⟨k,C4,e4,e9⟩:=Zag e'
 obtain ⟨hz1,hC4⟩:=ZcY e4
 subst hz1 hC4 hC3
 clear e' e4 e3 e
 have e:=e9
 refine ⟨ι,ρ,C,x,C1,sr,e1,fun vx H1 f1 c1 r1=>⟨ι,ρ,C1,y,C4,sr.step f1 c1,e2,fun vy H2 f2 c2 r2=>hg ι H2 C4 x y vx vy _ _ c2 (r1.mono c1 f2) r2 e3g fun v H3 f3 c3 r3=>?_⟩⟩
 refine ⟨k,repB r3,?_⟩
 cases k with
 | true=>
  rw[if_pos rfl] at e ⊢
  obtain ⟨w,C5,e5,e⟩:=Zag e
  obtain ⟨e6,rfl⟩:=Zav e
  exact ⟨ι,ρ,C4,w,C',((sr.step f1 c1).step f2 c2).step f3 c3,e5,fun vw H4 f4 c4 r4=>hg' ι H4 C' y w vy vw z _ c4 ((r2.mono c2 f3).mono c3 f4) r4 e6 fun v' H5 f5 c5 r5=>
   q v' H5 (f1.trans (f2.trans (f3.trans (f4.trans f5)))) c5 r5⟩
 | false=>
  rw[if_neg Yi] at e ⊢
  cases e
  exact q _ H3 (f1.trans (f2.trans f3)) c3 repB'
def mTest (f:PSt->M SV):PSt->M Bool:=fun ρ=>bnd (f ρ) mB
theorem tM_test {K:W.Frag}{f:PSt->M SV}{σ:St}{H:Hp}{Q:Bool->Hp->Prop}(h:tMB K (mTest f) σ H Q):tTest (tM K f) σ H Q:=by
 obtain ⟨ι,ρ,C,z,C',sr,e,q⟩:=h
 obtain ⟨x,C1,e1,e⟩:=Zag e
 obtain ⟨rfl,rfl⟩:=ZcY e
 exact ⟨ι,ρ,C,_,C',sr,e1,fun v H1 f1 c1 r1=>⟨_,repB r1,q H1 f1 c1⟩⟩
def deref (C:Cs):SV->Option PV
 | .v p=>some p
 | .c k=>C[k]?
def truP:PV->Option Bool
 | .non=>some false
 | .bl b=>some b
 | .int i=>some (i != 0)
 | .str y=>some ((y.length:Int) != 0)
 | .tup xs=>some (!xs.isEmpty)
 | .lst xs=>some (!xs.isEmpty)
 | .dct ks _=>some (!ks.isEmpty)
 | _=>none
def mTru (f:PSt->M SV):PSt->M Bool:=fun ρ=>bnd (f ρ) fun x=>opM fun C=>(deref C x).bind truP
inductive Lies (K:W.Frag)(ι:List Addr)(H:Hp):PV->V->Prop
 | non:Lies K ι H .non .non
 | bl (b:Bool):Lies K ι H (.bl b) (.bl b)
 | int (i:Int):Lies K ι H (.int i) (.int i)
 | str (x:Str) (h:x.length<=Yn):Lies K ι H (.str x) (.str x)
 | tup {a:Addr} {ps:List PV} {vs:List V} (h:TpR H a vs) (r:Reps K ι H ps vs):Lies K ι H (.tup ps) (.ref a)
 | lst {a:Addr} {ps:List PV} {vs:List V} (h:SqL K H a vs) (r:Reps K ι H ps vs):Lies K ι H (.lst ps) (.ref a)
 | dct {a:Addr} {qs:List Key} {ps:List PV} {vs:List V} (h:H a=some (.dK (qs.zip vs))) (hl:qs.length=vs.length) (r:Reps K ι H ps vs):Lies K ι H (.dct (qs.map kP) ps) (.ref a)
 | dtt {a:Addr} {ks:List (List Key)} {ps:List PV} {vs:List V} (h:Rd H a (.dT (ks.zip vs))) (hl:ks.length=vs.length) (r:Reps K ι H ps vs):Lies K ι H (.dtt ks ps) (.ref a)
 | fn (a:Addr):Lies K ι H (.fn a) (.ref a)
 | ty (n:String):Lies K ι H (.ty n) (.ty n)
theorem Rep.lies {K:W.Frag}{ι:List Addr}{H:Hp}:∀{p:PV} {v:V},Rep K ι H p v->Lies K ι H p v
 | .non,v,h=>by unfold Rep at h;subst h;exact .non
 | .bl b,v,h=>by unfold Rep at h;subst h;exact .bl b
 | .int i,v,h=>by unfold Rep at h;subst h;exact .int i
 | .str x,v,h=>by unfold Rep at h;obtain ⟨rfl,h⟩:=h;exact .str x h
 | .tup ps,v,h=>by unfold Rep at h;obtain ⟨a,vs,rfl,h,r⟩:=h;exact .tup h r
 | .lst ps,v,h=>by unfold Rep at h;obtain ⟨a,vs,rfl,h,r⟩:=h;exact .lst h.sq r
 | .dct ks ps,v,h=>by unfold Rep at h;obtain ⟨a,qs,vs,rfl,n,hd,hl,rfl,r⟩:=h;exact .dct hd hl r
 | .dtt ks ps,v,h=>by unfold Rep at h;obtain ⟨a,vs,rfl,n,hd,hl,r⟩:=h;exact .dtt hd hl r
 | .fn a,v,h=>by unfold Rep at h;subst h;exact .fn a
 | .ty n,v,h=>by unfold Rep at h;subst h;exact .ty n
theorem RepS.lies {K:W.Frag}{ι:List Addr}{H:Hp}{C:Cs}(cr:CR K ι H C){x:SV}{p:PV}{v:V}(r:RepS K ι H x v)(e:deref C x=some p):Lies K ι H p v:=by
 cases x with
 | v q=>cases e;exact Rep.lies r
 | c k=>
  obtain ⟨a,rfl,hk⟩:=r
  have ok:=cr.ok k a p hk e
  cases p with
  | lst ps=>obtain ⟨vs,h,r⟩:=ok;exact .lst (.of h) r
  | dct ks ps=>obtain ⟨qs,vs,h,hl,rfl,r⟩:=ok;exact .dct h hl r
  | dtt ks ps=>obtain ⟨vs,h,hl,r⟩:=ok;exact .dtt (.inl h) hl r
  | _=>exact ok.elim
theorem Reps.isEmpty {K:W.Frag}{ι:List Addr}{H:Hp}{ps:List PV}{vs:List V}(r:Reps K ι H ps vs):ps.isEmpty=vs.isEmpty:=by
 have:=r.length
 cases ps<;>cases vs<;>simp at this ⊢
theorem Lies.tru {K:W.Frag}{ι:List Addr}{H:Hp}{p:PV}{v:V}{k:Bool}(l:Lies K ι H p v)(e:truP p=some k):TruV K v H k:=by
 cases l with
 | non=>cases e;rfl
 | bl b=>cases e;rfl
 | int i=>cases e;rfl
 | str x h=>cases e;exact ⟨h,rfl⟩
 | tup h r=>cases e;exact .inr (.inl ⟨_,h.sq,by rw[r.isEmpty]⟩)
 | lst h r=>cases e;exact .inl ⟨_,h,by rw[r.isEmpty]⟩
 | @dct a qs ps vs h hl r=>
  cases e
  refine .inr (.inr ⟨_,h,?_⟩)
  cases qs<;>cases vs<;>simp at hl ⊢
 | dtt h hl r=>cases e
 | fn a=>cases e
 | ty n=>cases e
def mNotT (f:PSt->M Bool):PSt->M Bool:=fun ρ=>bnd (f ρ) fun b=>ret (!b)
def mAndT (f g:PSt->M Bool):PSt->M Bool:=fun ρ=>bnd (f ρ) fun b=>if b then g ρ else ret false
def mOrT (f g:PSt->M Bool):PSt->M Bool:=fun ρ=>bnd (f ρ) fun b=>if b then ret true else g ρ
def mAndV (f g:PSt->M SV):PSt->M SV:=fun ρ=>bnd (f ρ) fun x=>bnd (mB x) fun b=>if b then g ρ else ret (.v (.bl false))
def mOrV (f g:PSt->M SV):PSt->M SV:=fun ρ=>bnd (f ρ) fun x=>bnd (mB x) fun b=>if b then ret (.v (.bl true)) else g ρ
def mNotV (f:PSt->M SV):PSt->M SV:=fun ρ=>bnd (f ρ) fun x=>bnd (mB x) fun b=>ret (.v (.bl !b))
def mIf (t:PSt->M Bool)(f g:PSt->M SV):PSt->M SV:=fun ρ=>bnd (t ρ) fun b=>if b then f ρ else g ρ
def aNil:PSt->M (List SV):=fun _=>ret []
def aCons (f:PSt->M SV)(g:PSt->M (List SV)):PSt->M (List SV):=fun ρ=>bnd (f ρ) fun x=>bnd (g ρ) fun xs=>ret (x::xs)
def C1ok (K:W.Frag)(r:List V->Hp->VK->Prop)(g:Cs->List SV->Option SV):Prop:=
 ∀(ι:List Addr) (H:Hp) (C:Cs) (xs:List SV) (vs:List V) (z:SV) (Q:VK),CR K ι H C->RepSs K ι H xs vs->g C xs=some z->(∀v H',Fr ι H H'->CR K ι H' C->RepS K ι H' z v->Q v H')->r vs H Q
def mCB (g:Cs->List SV->Option SV)(fs:PSt->M (List SV)):PSt->M SV:=fun ρ=>bnd (fs ρ) fun xs=>opM fun C=>g C xs
theorem tM_CB {K:W.Frag}{r:List V->Hp->VK->Prop}{g:Cs->List SV->Option SV}{fs:PSt->M (List SV)}(hg:C1ok K r g){σ:St}{H:Hp}{Q:VK}(h:tM K (mCB g fs) σ H Q):tCB r (tMA K fs) σ H Q:=by
 obtain ⟨ι,ρ,C,z,C',sr,e,q⟩:=h
 obtain ⟨xs,C1,e1,e⟩:=Zag e
 obtain ⟨e2,rfl⟩:=Zav e
 exact ⟨ι,ρ,C,xs,C',sr,e1,fun vs H1 f1 c1 r1=>hg ι H1 C' xs vs z _ c1 r1 e2 fun v H2 f2 c2 r2=>q v H2 (f1.trans f2) c2 r2⟩
theorem ZbO {id:String}{r:List V->Hp->VK->Prop}{g:Cs->List SV->Option SV}{fs:PSt->M (List SV)}(hc:CallR X (.builtin id) r)(hg:C1ok X.K r g)(hgl:Gl X x)(hm:X.mg x=none)(hv:YX x=some (.builtin id))(ha:AM X (e::es) fs)(hn:x≠"__name__":=by decide)(hdb:(x==("__debug__":Str))=false:=by decide)
  (he:Yg (e::es) X.env=(false,eval e X.env)::Yg es X.env:=by rfl) (hpl:(backTo pos (Yg es X.env)).any (·.1)=false:=by rfl):EM X (.Call (.Name x p) (e::es) [] pos) (mCB g fs):=
 PE.imp (pe_callB hc hgl hm hv ha hn hdb he hpl) fun _ _ _ h=>tM_CB hg h
theorem Zcc {T:String}{r:List V->Hp->VK->Prop}{g:Cs->List SV->Option SV}{fs:PSt->M (List SV)}(hc:CallR X (.type T) r)(hg:C1ok X.K r g)(hgl:Gl X x)(hm:X.mg x=none)(hv:YX x=some (.type T))(ha:AM X (e::es) fs)(hn:x≠"__name__":=by decide)(hdb:(x==("__debug__":Str))=false:=by decide)
  (he:Yg (e::es) X.env=(false,eval e X.env)::Yg es X.env:=by rfl) (hpl:(backTo pos (Yg es X.env)).any (·.1)=false:=by rfl):EM X (.Call (.Name x p) (e::es) [] pos) (mCB g fs):=
 PE.imp (pe_callTy hc hgl hm hv ha hn hdb he hpl) fun _ _ _ h=>tM_CB hg h
def liftSp (K:W.Frag)(F:List SV->M SV):Sp:=fun vs H Q _=>∃ι ss C r C',CR K ι H C/\RepSs K ι H ss vs/\F ss C=some (r,C')/\∀v H',Fr ι H H'->CR K ι H' C'->RepS K ι H' r v->Q v H'
def mFn (F:List SV->M SV)(fs:PSt->M (List SV)):PSt->M SV:=fun ρ=>bnd (fs ρ) F
end
def Ex (ι ι2:List Addr)(H H':Hp):Prop:=Fr ι H H'/\∀b∈ι2,H b=none
section
variable {K:W.Frag}{ι ι2 ι3 ι':List Addr}{H H1 H2 H':Hp}{C C' C1:Cs}{ρ:PSt}{σ:St}
mutual
theorem Rep.tr (cr:CR K ι H C)(h:∀b o,b∉ι->H b=some o->b∉ι'/\H' b=some o):∀(p:PV) (v:V),Rep K ι H p v->Rep K ι' H' p v
 | .non,v,q=>by unfold Rep at q ⊢;exact q
 | .bl b,v,q=>by unfold Rep at q ⊢;exact q
 | .int i,v,q=>by unfold Rep at q ⊢;exact q
 | .str x,v,q=>by unfold Rep at q ⊢;exact q
 | .tup ps,v,q=>by
  unfold Rep at q ⊢
  obtain ⟨a,vs,e,sq,r⟩:=q
  exact ⟨a,vs,e,(h _ _ (cr.notup sq (fun _ e=>nomatch e) fun _ e=>nomatch e) sq).2,Reps.tr cr h ps vs r⟩
 | .lst ps,v,q=>by
  unfold Rep at q ⊢
  obtain ⟨a,vs,e,sq,r⟩:=q
  refine ⟨a,vs,e,?_,Reps.tr cr h ps vs r⟩
  rcases sq with ⟨n,z | ⟨o,z⟩⟩ | z
  ·exact .inl ⟨(h _ _ n z).1,.inl (h _ _ n z).2⟩
  ·exact .inl ⟨(h _ _ n z).1,.inr ⟨o,(h _ _ n z).2⟩⟩
  ·exact .inr z
 | .dct ks ps,v,q=>by
  unfold Rep at q ⊢
  obtain ⟨a,qs,vs,e,n,hd,hl,hk,r⟩:=q
  exact ⟨a,qs,vs,e,(h _ _ n hd).1,(h _ _ n hd).2,hl,hk,Reps.tr cr h ps vs r⟩
 | .dtt ks ps,v,q=>by
  unfold Rep at q ⊢
  obtain ⟨a,vs,e,n,hd,hl,r⟩:=q
  exact ⟨a,vs,e,by rcases id hd with q | ⟨o,q⟩<;>exact (h _ _ n q).1,rd_mono (fun o q=>(h _ o n q).2) hd,hl,Reps.tr cr h ps vs r⟩
 | .fn a,v,q=>by unfold Rep at q ⊢;exact q
 | .ty n,v,q=>by unfold Rep at q ⊢;exact q
theorem Reps.tr (cr:CR K ι H C)(h:∀b o,b∉ι->H b=some o->b∉ι'/\H' b=some o):∀(ps:List PV) (vs:List V),Reps K ι H ps vs->Reps K ι' H' ps vs
 | [],vs,q=>by unfold Reps at q ⊢;exact q
 | p::ps,vs,q=>by
  unfold Reps at q ⊢
  obtain ⟨v,r,e,h1,h2⟩:=q
  exact ⟨v,r,e,Rep.tr cr h p v h1,Reps.tr cr h ps r h2⟩
end
theorem Ex.fr (f:Fr ι H H'):Ex ι [] H H':=⟨f,fun _ z=>nomatch z⟩
theorem Ex.out (x:Ex ι ι2 H H'):∀b o,b∉ι->H b=some o->b∉ι++ι2/\H' b=some o:=fun b o n e=>by
 refine ⟨fun z=>?_,x.1 b o n e⟩
 rcases Y8.mp z with z | z
 ·exact n z
 ·rw[x.2 b z] at e;cases e
theorem Ex.trans (c:CR K (ι++ι2) H1 C1)(x:Ex ι ι2 H H1)(y:Ex (ι++ι2) ι3 H1 H2):Ex ι (ι2++ι3) H H2:=by
 refine ⟨fun b o n e=>(y.out b o (x.out b o n e).1 (x.out b o n e).2).2,fun b hb=>?_⟩
 rcases Y8.mp hb with hb | hb
 ·exact x.2 b hb
 ·cases e:H b with
  | none=>rfl
  | some o=>
   by_cases n:b∈ι
   ·rcases c.mut (Xb _ n) with ⟨vs,z⟩ | ⟨vs,z⟩ | ⟨vs,z⟩
    ·rw[y.2 b hb] at z;cases z
    ·rw[y.2 b hb] at z;cases z
    ·rw[y.2 b hb] at z;cases z
   ·have:=x.1 b o n e
    rw[y.2 b hb] at this;cases this
theorem RepS.ex (cr:CR K ι H C)(x:Ex ι ι2 H H'){s:SV}{v:V}(r:RepS K ι H s v):RepS K (ι++ι2) H' s v:=by
 cases s with
 | v p=>exact Rep.tr cr x.out p v r
 | c k=>
  obtain ⟨a,e,hk⟩:=r
  refine ⟨a,e,?_⟩
  have hl:k < ι.length:=by
   rcases Y1 k ι.length with q | q
   ·exact q
   ·rw[YD.mpr q] at hk;cases hk
  rw[YC hl];exact hk
theorem SR.ex (sr:SR K ι H ρ σ C)(x:Ex ι ι2 H H')(c:CR K (ι++ι2) H' C'):SR K (ι++ι2) H' ρ σ C':=
 ⟨c,sr.len,fun i s e=>by obtain ⟨v,h1,h2⟩:=sr.loc i s e;exact ⟨v,h1,h2.ex sr.cr x⟩⟩
end
theorem RepSs.length {K:W.Frag}{ι:List Addr}{H:Hp}:∀{ss:List SV} {vs:List V},RepSs K ι H ss vs->ss.length=vs.length
 | [],vs,h=>by rw[show vs=[] from h];rfl
 | s::ss,vs,h=>by obtain ⟨v,r,rfl,_,t⟩:=h;rw[Ys,Ys,RepSs.length t]
def Done (K:W.Frag)(ι:List Addr)(H:Hp)(D:Ends)(C':Cs):PF->Prop
 | .nx ρ=>∀ι2 σ' H',Ex ι ι2 H H'->SR K (ι++ι2) H' ρ σ' C'->D.nx σ' H'
 | .rt r=>∀ι2 v H',Ex ι ι2 H H'->CR K (ι++ι2) H' C'->RepS K (ι++ι2) H' r v->D.rt v H'
 | .bk ρ=>∀ι2 σ' H',Ex ι ι2 H H'->SR K (ι++ι2) H' ρ σ' C'->D.bk σ' H'
 | .ct ρ=>∀ι2 σ' H',Ex ι ι2 H H'->SR K (ι++ι2) H' ρ σ' C'->D.ct σ' H'
 | .rf ps=>∀ι2 p vs H',Ex ι ι2 H H'->CR K (ι++ι2) H' C'->H' p=none->Reps K (ι++ι2) H' ps vs->D.rt (.ref p) (upd H' p (.lst vs))
 | .rq qs=>∀ι2 p vs H',Ex ι ι2 H H'->CR K (ι++ι2) H' C'->H' p=none->RepSs K (ι++ι2) H' qs vs->D.rt (.ref p) (upd H' p (.tup vs))
def tMS (K:W.Frag)(f:PSt->M PF):TS:=fun D σ H=>∃ι ρ C fl C',SR K ι H ρ σ C/\f ρ C=some (fl,C')/\Done K ι H D C' fl
def SM (X:Cx)(st:Stmt)(f:PSt->M PF):Prop:=PS X st (tMS X.K f)
def BM (X:Cx)(sts:List Stmt)(f:PSt->M PF):Prop:=PSs X sts (tMS X.K f)
section
variable {K:W.Frag}{ι ι2:List Addr}{H H':Hp}{C C' C1:Cs}{ρ:PSt}{σ:St}{D:Ends}{fl:PF}
theorem Done.tr (c:CR K (ι++ι2) H' C1)(x:Ex ι ι2 H H')(d:Done K ι H D C' fl):Done K (ι++ι2) H' D C' fl:=by
 cases fl with
 | nx ρ=>intro ι3 σ' H2 y sr;rw[YF] at sr;exact d _ σ' H2 (x.trans c y) sr
 | rt r=>intro ι3 v H2 y cr rr;rw[YF] at cr rr;exact d _ v H2 (x.trans c y) cr rr
 | bk ρ=>intro ι3 σ' H2 y sr;rw[YF] at sr;exact d _ σ' H2 (x.trans c y) sr
 | ct ρ=>intro ι3 σ' H2 y sr;rw[YF] at sr;exact d _ σ' H2 (x.trans c y) sr
 | rf ps=>intro ι3 p vs H2 y cr hp rs;rw[YF] at cr rs;exact d _ p vs H2 (x.trans c y) cr hp rs
 | rq ps=>intro ι3 p vs H2 y cr hp rs;rw[YF] at cr rs;exact d _ p vs H2 (x.trans c y) cr hp rs
theorem Done.fr (c:CR K ι H' C1)(f:Fr ι H H')(d:Done K ι H D C' fl):Done K ι H' D C' fl:=by
 have:=Done.tr (ι2:=[]) (by rw[YA];exact c) (Ex.fr f) d
 rw[YA] at this;exact this
theorem Done.nx0 (sr:SR K ι H ρ σ C')(d:Done K ι H D C' (.nx ρ)):D.nx σ H:=d [] σ H (Ex.fr .refl) (by rw[YA];exact sr)
end
section
variable {X:Cx}{a b e c tg:Expr}{es:List Expr}{st:Stmt}{rest sts sts':List Stmt}{f g:PSt->M PF}{pos p pos':Pos}{x:Str}
def mSkip:PSt->M PF:=fun ρ=>ret (.nx ρ)
def mSeq (f g:PSt->M PF):PSt->M PF:=fun ρ=>bnd (f ρ) fun fl=>match fl with
 | .nx ρ'=>g ρ'
 | fl=>ret fl
def mIfS (t:PSt->M Bool)(f g:PSt->M PF):PSt->M PF:=fun ρ=>bnd (t ρ) fun b=>if b then f ρ else g ρ
def mRet (f:PSt->M SV):PSt->M PF:=fun ρ=>bnd (f ρ) fun r=>ret (.rt r)
def mRetF (f:PSt->M (List PV)):PSt->M PF:=fun ρ=>bnd (f ρ) fun r=>ret (.rf r)
def mDrop (f:PSt->M SV):PSt->M PF:=fun ρ=>bnd (f ρ) fun _=>ret (.nx ρ)
def mSet (i:Nat)(f:PSt->M SV):PSt->M PF:=fun ρ=>bnd (f ρ) fun r=>ret (.nx (ρ.set i (some r)))
def mNew (i:Nat)(f:PSt->M (List PV)):PSt->M PF:=fun ρ=>bnd (f ρ) fun ps=>fun C=>some (.nx (ρ.set i (some (.c C.length))),C++[.lst ps])
theorem new_cell {K:W.Frag}{ι:List Addr}{H H':Hp}{ρ:PSt}{σ:St}{C C1:Cs}{D:Ends}{i:Nat}{ps:List PV}{q:Addr}{vs:List V}(sr:SR K ι H ρ σ C)(d:Done K ι H D (C1++[.lst ps]) (.nx (ρ.set i (some (.c C1.length)))))
  (f1:Fr ι H H') (c1:CR K ι H' C1) (hq:H' q=none) (rs:Reps K ι H' ps vs):D.nx (σ.set i (some (.ref q))) (upd H' q (.lst vs)):=by
 have c2:CR K (ι++[q]) (upd H' q (.lst vs)) (C1++[.lst ps]):=c1.add hq ⟨vs,Za0,RepsNew c1 hq ps vs rs⟩
 have x:Ex ι [q] H (upd H' q (.lst vs)):=⟨f1.trans (Fr.new hq),fun b hb=>by
  have:b=q:=by simpa using hb
  subst this
  cases e:H b with
  | none=>rfl
  | some o=>
   by_cases n:b∈ι
   ·rcases c1.mut n with ⟨vs,z⟩ | ⟨vs,z⟩ | ⟨vs,z⟩
    ·rw[hq] at z;cases z
    ·rw[hq] at z;cases z
    ·rw[hq] at z;cases z
   ·have:=f1 b o n e;rw[hq] at this;cases this⟩
 refine d [q] _ _ x ((sr.ex x c2).set i ⟨q,rfl,?_⟩)
 rw[←c1.len];simp
def plain:List SV->Option (List PV)
 | []=>some []
 | .v p::r=>(plain r).map (p::·)
 | .c _::_=>none
theorem ZbK {K:W.Frag}{ι:List Addr}{H:Hp}:∀{xs:List SV} {ps:List PV} {vs:List V},plain xs=some ps->RepSs K ι H xs vs->Reps K ι H ps vs/\vs.length=xs.length
 | [],ps,vs,e,r=>by cases e;rw[show vs=[] from r];exact ⟨.nil,rfl⟩
 | .v p::xs,ps,vs,e,r=>by
  obtain ⟨v,w,rfl,h1,h2⟩:=r
  unfold plain at e
  cases h:plain xs with
  | none=>rw[h] at e;cases e
  | some qs=>
   rw[h] at e;cases e
   exact ⟨.cons h1 (ZbK h h2).1,by rw[Ys,Ys,(ZbK h h2).2]⟩
 | .c _::_,ps,vs,e,r=>by cases e
theorem k1000 {n:Nat}(h:n<=1000):n<=sizeLine:=YB h (by rw[YE];decide)
def mTup (fs:PSt->M (List SV)):PSt->M SV:=fun ρ=>bnd (fs ρ) fun xs=>opM fun _=>if xs.length<=1000 then (plain xs).map fun ps=>.v (.tup ps) else none
def mLst (fs:PSt->M (List SV)):PSt->M (List PV):=fun ρ=>bnd (fs ρ) fun xs=>opM fun _=>if xs.length<=1000 then plain xs else none
def mVal (f:PSt->M (List PV)):PSt->M SV:=fun ρ=>bnd (f ρ) fun ps=>ret (.v (.lst ps))
theorem Zcj {K:W.Frag}{ι:List Addr}{H:Hp}{C:Cs}{ps:List PV}{q:Addr}{vs:List V}(c1:CR K ι H C)(hq:H q=none)(rs:Reps K ι H ps vs):Rep K ι (upd H q (.lst vs)) (.lst ps) (.ref q):=by
 unfold Rep
 refine ⟨q,vs,rfl,.inl ⟨fun z=>?_,.inl Za0⟩,Reps.stay (fun b o e=>by rw[Zas (Zao e hq)];exact e) ps vs rs⟩
 rcases c1.mut z with ⟨_,e⟩ | ⟨_,e⟩ | ⟨_,e⟩
 ·rw[hq] at e;cases e
 ·rw[hq] at e;cases e
 ·rw[hq] at e;cases e
def tMG (K:W.Frag)(g:PV->PSt->Option PSt):TG:=fun v σ H Q=>∃ι ρ C p ρ',SR K ι H ρ σ C/\Rep K ι H p v/\g p ρ=some ρ'/\∀σ',SR K ι H ρ' σ' C->Q σ' H
def tMGs (K:W.Frag)(g:List PV->PSt->Option PSt):TGs:=fun v σ H Q=>∃ι ρ C p ρ',SR K ι H ρ σ C/\Reps K ι H p v/\g p ρ=some ρ'/\∀σ',SR K ι H ρ' σ' C->Q σ' H
def GM (X:Cx)(tg:Expr)(g:PV->PSt->Option PSt):Prop:=PG X tg (tMG X.K g)
def GMs (X:Cx)(ts:List Expr)(g:List PV->PSt->Option PSt):Prop:=PGs X ts (tMGs X.K g)
theorem PG.imp {t t':TG}(h:PG X tg t)(k:∀v σ H Q,t' v σ H Q->t v σ H Q):PG X tg t':=fun pins s σ H v u Q I r q=>h pins s σ H v u Q I r (k v σ H Q q)
theorem PGs.imp {t t':TGs}(h:PGs X es t)(k:∀v σ H Q,t' v σ H Q->t v σ H Q):PGs X es t':=fun pins s σ H v u Q I r q=>h pins s σ H v u Q I r (k v σ H Q q)
def hName (i:Nat):PV->PSt->Option PSt:=fun p ρ=>some (ρ.set i (some (.v p)))
def hNil:List PV->PSt->Option PSt
 | [],ρ=>some ρ
 | _::_,_=>none
def hCons (g:PV->PSt->Option PSt)(gs:List PV->PSt->Option PSt):List PV->PSt->Option PSt
 | [],_=>none
 | p::ps,ρ=>(g p ρ).bind fun ρ'=>gs ps ρ'
def hTup (gs:List PV->PSt->Option PSt)(n:Nat):PV->PSt->Option PSt
 | .tup ps,ρ=>if ps.length=n then gs ps ρ else none
 | _,_=>none
def mAsg (f:PSt->M SV)(g:PV->PSt->Option PSt):PSt->M PF:=fun ρ=>bnd (f ρ) fun r=>match r with
 | .v p=>fun C=>(g p ρ).map fun ρ'=>(.nx ρ',C)
 | .c _=>fun _=>none
end
structure Iter (K:W.Frag)(ι:List Addr)(H1:Hp)(xs:List PV)(J:It):Prop where
 go:∀ι2 H2 C2,Ex ι ι2 H1 H2->CR K (ι++ι2) H2 C2->∀i,i < xs.length->J.go i H2
 yld:∀ι2 H2 C2,Ex ι ι2 H1 H2->CR K (ι++ι2) H2 C2->∀i v H3,i < xs.length->J.yld i H2 v H3->(∀b o,H2 b=some o->H3 b=some o)/\∃p,xs[i]? = some p/\Rep K (ι++ι2) H3 p v
 stop:∀ι2 H2 C2,Ex ι ι2 H1 H2->CR K (ι++ι2) H2 C2->J.stop xs.length H2
def tMI (K:W.Frag)(f:PSt->M (List PV)):TI:=fun σ H R=>∃ι ρ C xs C',SR K ι H ρ σ C/\f ρ C=some (xs,C')/\∀J H1,Fr ι H H1->CR K ι H1 C'->Iter K ι H1 xs J->R J H1
def IM (X:Cx)(tg iter:Expr)(f:PSt->M (List PV)):Prop:=PI X tg iter (tMI X.K f)
section
variable {X:Cx}{e tg iter elt:Expr}{es:List Expr}{body:List Stmt}{f:PSt->M PF}{pos p:Pos}{x:Str}
def loop (g:PV->PSt->Option PSt)(f:PSt->M PF):List PV->PSt->M PF
 | [],ρ=>ret (.nx ρ)
 | x::xs,ρ=>match g x ρ with
  | none=>fun _=>none
  | some ρ1=>bnd (f ρ1) fun fl=>match fl with
   | .nx ρ2=>loop g f xs ρ2
   | .ct ρ2=>loop g f xs ρ2
   | .bk ρ2=>ret (.nx ρ2)
   | .rt r=>ret (.rt r)
   | .rf ps=>ret (.rf ps)
   | .rq ps=>ret (.rq ps)
def mFor (it:PSt->M (List PV))(g:PV->PSt->Option PSt)(f:PSt->M PF):PSt->M PF:=fun ρ=>bnd (it ρ) fun xs=>loop g f xs ρ
def stIn' (vs:List Str)(fr:List Nat)(ρ:PSt):PSt:=vs.map (fun _=>none)++fr.map fun i=>(ρ[i]?).join
def compL (g:PV->PSt->Option PSt)(tt:PSt->M Bool)(te:PSt->M SV):List PV->PSt->List PV->M (List PV)
 | [],_,ys=>ret ys
 | x::xs,ρ,ys=>match g x ρ with
  | none=>fun _=>none
  | some ρ1=>bnd (tt ρ1) fun b=>if b then bnd (te ρ1) fun y=>match y with
    | .v p=>compL g tt te xs ρ1 (ys++[p])
    | .c _=>fun _=>none
   else compL g tt te xs ρ1 ys
def mComp (it:PSt->M (List PV))(vs:List Str)(fr:List Nat)(g:PV->PSt->Option PSt)(tt:PSt->M Bool)(te:PSt->M SV):PSt->M (List PV):=fun ρ=>bnd (it ρ) fun xs=>if xs.length<=100000 then compL g tt te xs (stIn' vs fr ρ) [] else fun _=>none
theorem SR.block {K:W.Frag}{ι:List Addr}{H:Hp}{ρ:PSt}{σ:St}{C:Cs}(sr:SR K ι H ρ σ C)(vs:List Str)(fr:List Nat):SR K ι H (stIn' vs fr ρ) (stIn vs fr σ) C:=by
 refine ⟨sr.cr,by simp[stIn',stIn],fun i s e=>?_⟩
 unfold stIn' at e
 unfold stIn
 rcases Y1 i vs.length with h | h
 ·rw[YC (by simpa using h)] at e
  simp at e
 ·rw[YS (by simpa using h)] at e
  rw[YS (by simpa using h)]
  simp only[Yu,YK] at e ⊢
  cases hj:fr[i - vs.length]? with
  | none=>rw[hj] at e;cases e
  | some j=>
   rw[hj] at e
   have e':(ρ[j]?).join=some s:=by simpa using e
   have e2:ρ[j]? = some (some s):=by
    cases hr:ρ[j]? with
    | none=>rw[hr] at e';cases e'
    | some o=>rw[hr] at e';simp at e';rw[e']
   obtain ⟨v,h1,h2⟩:=sr.loc j s e2
   refine ⟨v,?_,h2⟩
   simp[h1]
theorem k100000 {n:Nat}(h:n<=100000):n<=sizeLine:=YB h (by rw[YE];decide)
theorem comp_pure {K:W.Frag}{it:PSt->M (List PV)}{vs:List Str}{fr:List Nat}{g:PV->PSt->Option PSt}{tt:PSt->M Bool}{te:PSt->M SV}{σ:St}{H:Hp}{Q:VK}{ι:List Addr}{ρ:PSt}{C C':Cs}{res:List PV}(sr:SR K ι H ρ σ C)
  (e:mComp it vs fr g tt te ρ C=some (res,C')) (q:∀p vs H',Fr ι H H'->CR K ι H' C'->H' p=none->Reps K ι H' res vs->Q (.ref p) (upd H' p (.lst vs))):tComp (tMI K it) vs fr (tMG K g) (tMB K tt) (tM K te) σ H Q:=by
 obtain ⟨xs,C1,e1,e⟩:=Zag e
 refine ⟨ι,ρ,C,xs,C1,sr,e1,fun J H1 f1 c1 it1=>?_⟩
 by_cases hz:xs.length<=100000
 case neg=>rw[if_neg hz] at e;cases e
 rw[if_pos hz] at e
 have sr1:=(sr.step f1 c1).block vs fr
 have x0:∀{H2:Hp},Fr ι H1 H2->Ex ι [] H1 H2:=fun f=>Ex.fr f
 have c0:∀{H2:Hp} {C2:Cs},CR K ι H2 C2->CR K (ι++[]) H2 C2:=fun c=>by rw[YA];exact c
 refine ⟨fun i m σ2 ys H2=>∃ρ2 C2 ps,m=xs.length - i/\i<=xs.length/\Fr ι H1 H2/\SR K ι H2 ρ2 σ2 C2/\Reps K ι H2 ps ys/\ps.length<=i/\compL g tt te (xs.drop i) ρ2 ps C2=some (res,C'),⟨xs.length,_,C1,[],rfl,X9 _,.refl,sr1,.nil,Yx _,e⟩,?_⟩
 rintro i m σ2 ys H2 ⟨ρ2,C2,ps,rfl,hi2,f2,sr2,rs2,hps,e2⟩
 have hys:ys.length<=sizeLine:=by rw[←rs2.length];exact k100000 (YB (YB hps hi2) hz)
 rcases Y1 i xs.length with hlt | hge
 ·right
  refine ⟨it1.go [] H2 C2 (x0 f2) (c0 sr2.cr) i hlt,hys,fun σ' ys' H'=>∃ρ2 C2 ps,Fr ι H1 H'/\SR K ι H' ρ2 σ' C2/\Reps K ι H' ps ys'/\ps.length<=i + 1/\compL g tt te (xs.drop (i + 1)) ρ2 ps C2=some (res,C'),?_,?_⟩
  ·rintro σ' ys' H' ⟨ρ3,C3,ps3,f3,sr3,rs3,h3,e3⟩
   exact ⟨xs.length - (i + 1),by lia,ρ3,C3,ps3,rfl,hlt,f3,sr3,rs3,h3,e3⟩
  ·intro v H3 y
   obtain ⟨sm,qv,hq,rq⟩:=it1.yld [] H2 C2 (x0 f2) (c0 sr2.cr) i v H3 hlt y
   rw[YA] at rq
   have hd:xs.drop i=qv::xs.drop (i + 1):=by
    rw[List.drop_eq_getElem_cons hlt]
    rw[Yd hlt] at hq
    rw[Yz hq]
   rw[hd] at e2
   unfold compL at e2
   cases hg1:g qv ρ2 with
   | none=>rw[hg1] at e2;cases e2
   | some ρ3=>
    rw[hg1] at e2
    obtain ⟨b,C3,e3,e4⟩:=Zag e2
    have fr3:Fr ι H2 H3:=fun b o _ z=>sm b o z
    have cr3:CR K ι H3 C2:=sr2.cr.same sm
    refine ⟨ι,ρ2,C2,qv,ρ3,sr2.step fr3 cr3,rq,hg1,fun σ4 sr4=>⟨ι,ρ3,C2,b,C3,sr4,e3,fun H5 f5 c5=>?_⟩⟩
    have f15:=f2.trans (fr3.trans f5)
    have rs5:Reps K ι H5 ps ys:=Reps.mono cr3 f5 _ _ (Reps.mono sr2.cr fr3 _ _ rs2)
    cases b with
    | true=>
     rw[if_pos rfl] at e4
     dsimp only
     rw[if_pos rfl]
     obtain ⟨y1,C6,e6,e7⟩:=Zag e4
     refine ⟨ι,ρ3,C3,y1,C6,sr4.step f5 c5,e6,fun v7 H7 f7 c7 r7=>?_⟩
     cases y1 with
     | c k=>cases e7
     | v p7=>exact ⟨ρ3,C6,ps++[p7],f15.trans f7,(sr4.step f5 c5).step f7 c7,(Reps.mono c5 f7 _ _ rs5).append (.cons r7 .nil),by simp;exact hps,e7⟩
    | false=>
     rw[if_neg Yi] at e4
     dsimp only
     rw[if_neg Yi]
     exact ⟨ρ3,C3,ps,f15,sr4.step f5 c5,rs5,Nat.le_succ_of_le hps,e4⟩
 ·left
  have hi3:i=xs.length:=by lia
  subst hi3
  rw[List.drop_length] at e2
  cases e2
  exact ⟨it1.stop [] H2 _ (x0 f2) (c0 sr2.cr),hys,fun D hD=>q D ys H2 (f1.trans f2) sr2.cr hD rs2⟩
section
variable {ifs:List Expr}{scope:Scope}{vs fs:List Str}{fr:List Nat}{it:PSt->M (List PV)}{g:PV->PSt->Option PSt}{tt:PSt->M Bool}{te:PSt->M SV}
def TsM (X:Cx)(ifs:List Expr)(t:PSt->M Bool):Prop:=PTs X ifs (tMB X.K t)
def tOk:PSt->M Bool:=fun _=>ret true
end
end
theorem CR.cut {K:W.Frag}{ι ι2:List Addr}{H:Hp}{C:Cs}{n:Nat}(c:CR K (ι++ι2) H C)(hn:ι.length=n):CR K ι H (C.take n):=by
 have hlen:(ι++ι2).length=C.length:=c.len
 rw[YU] at hlen
 have hs:∀b o,H b=some o->b∉ι++ι2->b∉ι:=fun b o _ z q=>z (Xb _ q)
 refine ⟨by rw[XI];lia,(VA.mp c.nd).1,fun k a d h1 h2=>?_⟩
 have hk:k < ι.length:=by
  rcases Y1 k ι.length with q | q
  ·exact q
  ·rw[YD.mpr q] at h1;cases h1
 rw[XW (by lia)] at h2
 have ok:=c.ok k a d (by rw[YC hk];exact h1) h2
 cases d with
 | lst ps=>obtain ⟨vs,e,r⟩:=ok;exact ⟨vs,e,Reps.cells hs _ _ r⟩
 | dct ks ps=>obtain ⟨qs,vs,e,hl,hk,r⟩:=ok;exact ⟨qs,vs,e,hl,hk,Reps.cells hs _ _ r⟩
 | dtt ks ps=>obtain ⟨vs,e,hl,r⟩:=ok;exact ⟨vs,e,hl,Reps.cells hs _ _ r⟩
 | _=>exact ok.elim
def fin (n:Nat)(C':Cs):SV->Option (SV×Cs)
 | .v p=>some (.v p,C'.take n)
 | .c k=>if k < n then some (.c k,C'.take n) else (C'[k]?).map fun c=>(.v c,C'.take n)
def finQ (n:Nat)(C':Cs):List SV->Option (List PV)
 | []=>some []
 | .v p::r=>(finQ n C' r).map (p::·)
 | .c k::r=>if k < n then none else (C'[k]?).bind fun c=>(finQ n C' r).map (c::·)
def mDef (n pad:Nat)(body:PSt->M PF):List SV->M SV:=fun ss C=>if ss.length=n then (match body (ss.map some++YO pad none) C with
 | some (.rt r,C')=>fin C.length C' r
 | some (.nx _,C')=>some (.v .non,C'.take C.length)
 | some (.rf ps,C')=>some (.v (.lst ps),C'.take C.length)
 | some (.rq qs,C')=>(finQ C.length C' qs).map fun ps=>(.v (.tup ps),C'.take C.length)
 | _=>none) else none
def mDefF (n pad:Nat)(body:PSt->M PF):List SV->M (List PV):=fun ss C=>if ss.length=n then (match body (ss.map some++YO pad none) C with
 | some (.rf ps,C')=>some (ps,C'.take C.length)
 | _=>none) else none
def liftSpF (K:W.Frag)(F:List SV->M (List PV)):Sp:=fun vs H Q _=>∃ι ss C ps C',CR K ι H C/\RepSs K ι H ss vs/\F ss C=some (ps,C')/\∀p vs H',Fr ι H H'->CR K ι H' C'->H' p=none->Reps K ι H' ps vs->Q (.ref p) (upd H' p (.lst vs))
def mFnF (F:List SV->M (List PV))(fs:PSt->M (List SV)):PSt->M (List PV):=fun ρ=>bnd (fs ρ) F
theorem fin_ok {K:W.Frag}{ι ι2:List Addr}{H:Hp}{C' C2:Cs}{n:Nat}{r r':SV}{v:V}(c:CR K (ι++ι2) H C')(hn:ι.length=n)(rr:RepS K (ι++ι2) H r v)(e:fin n C' r=some (r',C2)):CR K ι H C2/\RepS K ι H r' v:=by
 have hs:∀b o,H b=some o->b∉ι++ι2->b∉ι:=fun b o _ z q=>z (Xb _ q)
 cases r with
 | v p=>cases e;exact ⟨c.cut hn,Rep.cells hs p v rr⟩
 | c k=>
  obtain ⟨a,rfl,hk⟩:=rr
  replace e:(if k < n then some (SV.c k,C'.take n) else (C'[k]?).map fun c=>(SV.v c,C'.take n))=some (r',C2):=e
  by_cases h:k < n
  ·rw[if_pos h] at e
   cases e
   refine ⟨c.cut hn,a,rfl,?_⟩
   rw[YC (by lia)] at hk;exact hk
  ·rw[if_neg h] at e
   cases hd:C'[k]? with
   | none=>rw[hd] at e;cases e
   | some d=>
    rw[hd] at e
    cases e
    refine ⟨c.cut hn,?_⟩
    have ok:=c.ok k a d hk hd
    have hna:a∉ι:=fun z=>by
     obtain ⟨j,hj,ej⟩:=Vm z
     have hjk:(ι++ι2)[j]? = some a:=by rw[YC hj,Yd hj,ej]
     have hkl:k < (ι++ι2).length:=by
      rcases Y1 k (ι++ι2).length with q | q
      ·exact q
      ·rw[YD.mpr q] at hk;cases hk
     have hjl:j < (ι++ι2).length:=by rw[YU];lia
     have e1:=(Y3.mp hjk).2
     have e2:=(Y3.mp hk).2
     have:=(VH c.nd).mp (e1.trans e2.symm)
     lia
    show Rep K ι H d (.ref a)
    cases d with
    | lst ps=>obtain ⟨vs,e,r⟩:=ok;unfold Rep;exact ⟨a,vs,rfl,.inl ⟨hna,.inl e⟩,Reps.cells hs _ _ r⟩
    | dct ks ps=>obtain ⟨qs,vs,e,hl,hk,r⟩:=ok;unfold Rep;exact ⟨a,qs,vs,rfl,hna,e,hl,hk,Reps.cells hs _ _ r⟩
    | dtt ks ps=>obtain ⟨vs,e,hl,r⟩:=ok;unfold Rep;exact ⟨a,vs,rfl,hna,.inl e,hl,Reps.cells hs _ _ r⟩
    | _=>exact ok.elim
theorem finQ_ok {K:W.Frag}{ι ι2:List Addr}{H:Hp}{C':Cs}{n:Nat}(c:CR K (ι++ι2) H C')(hn:ι.length=n):∀{qs:List SV} {ps:List PV} {vs:List V},RepSs K (ι++ι2) H qs vs->finQ n C' qs=some ps->Reps K ι H ps vs
 | [],ps,vs,r,e=>by cases e;rw[show vs=[] from r];exact .nil
 | .v p::qs,ps,vs,r,e=>by
  obtain ⟨v,w,rfl,h1,h2⟩:=r
  unfold finQ at e
  cases hq:finQ n C' qs with
  | none=>rw[hq] at e;cases e
  | some z=>
   rw[hq] at e;cases e
   exact .cons (fin_ok (r:=.v p) (r':=.v p) c hn h1 rfl).2 (finQ_ok c hn h2 hq)
 | .c k::qs,ps,vs,r,e=>by
  obtain ⟨v,w,rfl,h1,h2⟩:=r
  unfold finQ at e
  by_cases hk:k < n
  ·rw[if_pos hk] at e;cases e
  ·rw[if_neg hk] at e
   cases hc:C'[k]? with
   | none=>rw[hc] at e;cases e
   | some d=>
    cases hq:finQ n C' qs with
    | none=>rw[hc,hq] at e;cases e
    | some z=>
     rw[hc,hq] at e;cases e
     exact .cons (fin_ok (r:=.c k) (r':=.v d) c hn h1 (show (if k < n then some (SV.c k,C'.take n) else (C'[k]?).map fun c=>(SV.v c,C'.take n))=some (.v d,C'.take n) by rw[if_neg hk,hc];rfl)).2 (finQ_ok c hn h2 hq)
theorem RepSs.get {K:W.Frag}{ι:List Addr}{H:Hp}:∀{ss:List SV} {vs:List V} {i:Nat} {s:SV},RepSs K ι H ss vs->ss[i]? = some s->∃v,vs[i]? = some v/\RepS K ι H s v
 | [],_,_,_,h,e=>by simp at e
 | q::ss,vs,0,s,h,e=>by
  obtain ⟨v,r,rfl,h1,h2⟩:=h
  simp at e;subst e;exact ⟨v,rfl,h1⟩
 | q::ss,vs,i + 1,s,h,e=>by
  obtain ⟨v,r,rfl,h1,h2⟩:=h
  obtain ⟨w,e1,r1⟩:=RepSs.get (i:=i) h2 (by simpa using e)
  exact ⟨w,by simpa using e1,r1⟩
theorem sr_start {K:W.Frag}{ι:List Addr}{H:Hp}{C:Cs}{ss:List SV}{vs:List V}{N:List Str}(cr:CR K ι H C)(rs:RepSs K ι H ss vs):SR K ι H (ss.map some++YO (N.length - ss.length) none) (L2.start N vs) C:=by
 have hl:=RepSs.length rs
 refine ⟨cr,by unfold L2.start;simp[hl],fun i s e=>?_⟩
 unfold L2.start
 rcases Y1 i ss.length with h | h
 ·rw[YC (by simpa using h),YK] at e
  rw[YC (by rw[Yu,←hl];exact h),YK]
  cases hs:ss[i]? with
  | none=>rw[hs] at e;cases e
  | some s'=>
   rw[hs] at e
   have:s'=s:=by simpa using e
   subst this
   obtain ⟨v,h1,h2⟩:=RepSs.get rs hs
   exact ⟨v,by rw[h1];rfl,h2⟩
 ·rw[YS (by simpa using h),List.getElem?_replicate] at e
  split at e<;>cases e
end Pu
namespace Pu
open PySem PySem.Spec L2
open PyProof.Rows hiding St Fr
def g2 (h:PV->PV->Option PV):Cs->SV->SV->Option SV:=fun C x y=>match deref C x,deref C y with
 | some p,some q=>(h p q).map .v
 | _,_=>none
def L2ok (K:W.Frag)(r:R2)(h:PV->PV->Option PV):Prop:=
 ∀(ι:List Addr) (H:Hp) (C:Cs) (p q:PV) (vx vy:V) (z:PV) (Q:VK),CR K ι H C->Lies K ι H p vx->Lies K ι H q vy->h p q=some z->(∀v H',Fr ι H H'->CR K ι H' C->Rep K ι H' z v->Q v H')->r vx vy H Q
theorem L2ok.r {K:W.Frag}{r:R2}{h:PV->PV->Option PV}(k:L2ok K r h):R2ok K r (g2 h):=by
 intro ι H C x y vx vy z Q cr rx ry e q
 unfold g2 at e
 cases hx:deref C x with
 | none=>rw[hx] at e;cases e
 | some p=>
  cases hy:deref C y with
  | none=>rw[hx,hy] at e;cases e
  | some p2=>
   rw[hx,hy] at e
   cases hz:h p p2 with
   | none=>simp[hz] at e
   | some z2=>
    simp[hz] at e
    subst e
    exact k ι H C p p2 vx vy z2 Q cr (rx.lies cr hx) (ry.lies cr hy) hz q
theorem OpR.or {X:Cx}{f:Value->Value->Sem Value}{r r':R2}(h:OpR X f r)(h':OpR X f r'):OpR X f (fun x y H Q=>r x y H Q\/r' x y H Q):=by
 intro pins s σ H x y v u Q I rx ry q
 rcases q with q | q
 ·exact h pins s σ H x y v u Q I rx ry q
 ·exact h' pins s σ H x y v u Q I rx ry q
section
variable {K:W.Frag}{ι:List Addr}{H:Hp}{C:Cs}{Q:VK}{z:PV}
theorem liesS {v:V}{i:Str}(h:Lies K ι H (.str i) v):v=.str i/\i.length<=sizeLine:=by cases h;exact ⟨rfl,by assumption⟩
theorem liesT {v:V}{ps:List PV}(h:Lies K ι H (.tup ps) v):∃a vs,v=.ref a/\TpR H a vs/\Reps K ι H ps vs:=by cases h;exact ⟨_,_,rfl,by assumption,by assumption⟩
theorem liesL {v:V}{ps:List PV}(h:Lies K ι H (.lst ps) v):∃a vs,v=.ref a/\SqL K H a vs/\Reps K ι H ps vs:=by cases h;exact ⟨_,_,rfl,by assumption,by assumption⟩
theorem repI {i:Int}:Rep K ι H (.int i) (.int i):=by unfold Rep;rfl
theorem repBl {i:Bool}:Rep K ι H (.bl i) (.bl i):=by unfold Rep;rfl
theorem repN:Rep K ι H .non .non:=by unfold Rep;rfl
theorem repS {i:Str}(h:i.length<=Yn):Rep K ι H (.str i) (.str i):=by unfold Rep;exact ⟨rfl,h⟩
theorem k1000000 {n:Nat}(h:n<=1000000):n<=sizeLine:=YB h (by rw[YE];decide)
theorem Zck {ps:List PV}{q:Addr}{vs:List V}(hq:H q=none)(rs:Reps K ι H ps vs):Rep K ι (upd H q (.tup vs)) (.tup ps) (.ref q):=by
 unfold Rep
 exact ⟨q,vs,rfl,Za0,Reps.stay (fun b o e=>by rw[Zas (Zao e hq)];exact e) ps vs rs⟩
end
def addP:PV->PV->Option PV
 | .int i,.int j=>some (.int (i + j))
 | .str i,.str j=>if i.length + j.length<=1000000 then some (.str (i++j)) else none
 | .lst a,.lst b=>if a.length + b.length<=1000000 then some (.lst (a++b)) else none
 | .tup a,.tup b=>if a.length + b.length<=1000000 then some (.tup (a++b)) else none
 | _,_=>none
def rCatL (K:W.Frag):R2:=fun x y H Q=>∃l b xs zs,x=.ref l/\y=.ref b/\SqL K H l xs/\SqL K H b zs/\xs.length + zs.length<=Yn/\∀p,H p=none->Q (.ref p) (upd H p (.lst (xs++zs)))
section
variable {X:Cx}
theorem op_catL:OpR X (X6 .Add) (rCatL X.K):=by
 intro pins s σ H x y v u Q I rx ry h
 obtain ⟨l,b,xs,zs,rfl,rfl,hH,hB,hz,q⟩:=h
 cases rx
 cases ry
 obtain ⟨its,r,pl,_⟩:=I.list hH
 obtain ⟨its2,r2,pl2,_⟩:=I.list hB
 obtain ⟨⟨cls,dd,data,sl⟩,ho,hc,n,hd⟩:=id pl.isList
 obtain ⟨⟨cls2,dd2,data2,sl2⟩,ho2,hc2,n2,hd2⟩:=id pl2.isList
 simp only at hc hd hc2 hd2
 subst hc hd hc2 hd2
 have h1:=r.length
 have h2:=r2.length
 have ea:its.toArray++its2.toArray=(its++its2).toArray:=by simp
 refine VR ⟨_,ho,rfl⟩ ⟨_,ho2,rfl⟩ noFill_list_add seq_list_add PySem.F.slot_list_add PySem.F.entry_list_add (PySem.F.args_list_add_2 _ _) (list_addW l b its.toArray its2.toArray n n2 dd dd2 sl sl2 (by simp;lia)) ⟨ho,ho2,?_⟩
 rw[ea]
 exact ⟨.ref _,_,I.lnew (t':=s.toks) (r.append r2) (by rw[YU];lia),rfl,q _ I.fresh⟩
def rCatT' (K:W.Frag):R2:=fun x y H Q=>∃a b xs ys,x=.ref a/\y=.ref b/\SqT K H a xs/\SqT K H b ys/\xs.length + ys.length<=Yn/\
 (xs=[]->Q (.ref b) H)/\(xs≠[]->ys=[]->Q (.ref a) H)/\(xs≠[]->ys≠[]->∀p,H p=none->Q (.ref p) (upd H p (.tup (xs++ys))))
theorem op_catT':OpR X (X6 .Add) (rCatT' X.K):=by
 intro pins s σ H x y v u Q I rx ry h
 obtain ⟨a,b,xs,ys,rfl,rfl,ha,hb,hz,q0,q1,q2⟩:=h
 by_cases hx:xs=[]
 ·cases rx
  cases ry
  obtain ⟨its,r1,p1,_⟩:=I.tuple ha
  obtain ⟨its2,r2,p2,_⟩:=I.tuple hb
  obtain ⟨⟨cls,dd,data,sl⟩,ho,hc,n,hd⟩:=id p1
  obtain ⟨⟨cls2,dd2,data2,sl2⟩,ho2,hc2,n2,hd2⟩:=id p2
  simp only at hc hd hc2 hd2
  subst hc hd hc2 hd2
  exact VR ⟨_,ho,rfl⟩ ⟨_,ho2,rfl⟩ VI seq_tuple_add WZ WP (WF _ _)
   (tuple_addW0 a b its.toArray its2.toArray n n2 dd dd2 sl sl2 (by simp[r1.nil_iff.mpr hx])) ⟨ho,ho2,⟨.ref b,H,I,rfl,q0 hx⟩⟩
 ·exact op_catT pins s σ H _ _ v u Q I rx ry ⟨a,b,xs,ys,rfl,rfl,ha,hb,hx,hz,q1 hx,q2 hx⟩
theorem op_addAll:OpR X (X6 .Add) (fun x y H Q=>(rI0 fun i j=>.int (i + j)) x y H Q\/(∃i j,x=.str i/\y=.str j/\i.length + j.length<=Yn/\Q (.str (i++j)) H)\/rCatL X.K x y H Q\/rCatT' X.K x y H Q):=
 OpR.or op_add (OpR.or op_add_str (OpR.or op_catL op_catT'))
theorem str_app_len (i j:Str):(i++j).length=i.length + j.length:=by
 show (i.cps++j.cps).size=_
 rw[Array.size_append];rfl
theorem add_ok:L2ok X.K (fun x y H Q=>(rI0 fun i j=>.int (i + j)) x y H Q\/(∃i j,x=.str i/\y=.str j/\i.length + j.length<=Yn/\Q (.str (i++j)) H)\/rCatL X.K x y H Q\/rCatT' X.K x y H Q) addP:=by
 intro ι H C p q vx vy z Q cr lx ly e k
 unfold addP at e
 split at e
 ·cases e;cases lx;cases ly
  exact .inl ⟨_,_,rfl,rfl,k _ H .refl cr repI⟩
 ·split at e
  ·rename_i hl
   cases e;cases lx;cases ly
   exact .inr (.inl ⟨_,_,rfl,rfl,k1000000 hl,k _ H .refl cr (repS (by rw[str_app_len];exact k1000000 hl))⟩)
  ·cases e
 ·split at e
  ·rename_i hl
   cases e
   obtain ⟨a,vs,rfl,h1,r1⟩:=liesL lx
   obtain ⟨b,ws,rfl,h2,r2⟩:=liesL ly
   exact .inr (.inr (.inl ⟨a,b,vs,ws,rfl,rfl,h1,h2,by rw[←r1.length,←r2.length];exact k1000000 hl,fun p hp=>k _ _ (Fr.new hp) (cr.new hp) (Zcj cr hp (r1.append r2))⟩))
  ·cases e
 ·split at e
  ·rename_i hl
   cases e
   rename_i xs ys
   obtain ⟨a,vs,rfl,h1,r1⟩:=liesT lx
   obtain ⟨b,ws,rfl,h2,r2⟩:=liesT ly
   refine .inr (.inr (.inr ⟨a,b,vs,ws,rfl,rfl,h1.sq,h2.sq,by rw[←r1.length,←r2.length];exact k1000000 hl,fun e=>?_,fun _ e=>?_,fun _ _ p hp=>k _ _ (Fr.new hp) (cr.new hp) (Zck hp (r1.append r2))⟩))
   ·subst e
    have:=r1.length
    have hx:xs=[]:=Vd this
    subst hx
    exact k _ H .refl cr (by unfold Rep;exact ⟨b,ws,rfl,h2,r2⟩)
   ·subst e
    have:=r2.length
    have hy:ys=[]:=Vd this
    subst hy
    rw[YA] at k
    exact k _ H .refl cr (by unfold Rep;exact ⟨a,vs,rfl,h1,r1⟩)
  ·cases e
 ·cases e
variable {a b e c:Expr}{es:List Expr}{fa fb fc:PSt->M SV}{pos p:Pos}{x:Str}
def intP (c:Int->Int->Bool)(f:Int->Int->PV):PV->PV->Option PV
 | .int i,.int j=>if c i j then some (f i j) else none
 | _,_=>none
theorem int_ok {C0:Int->Int->Prop}{f:Int->Int->Int}{c:Int->Int->Bool}(h:∀i j,c i j=true->C0 i j):L2ok X.K (rI C0 fun i j=>.int (f i j)) (intP c fun i j=>.int (f i j)):=by
 intro ι H C p q vx vy z Q cr lx ly e k
 unfold intP at e
 split at e
 ·split at e
  ·rename_i hc
   cases e;cases lx;cases ly
   exact ⟨_,_,rfl,rfl,h _ _ hc,k _ H .refl cr repI⟩
  ·cases e
 ·cases e
theorem Zc3 {f:Int->Int->V}{g:Int->Int->PV}(h:∀i j,∀ι H,Rep X.K ι H (g i j) (f i j)):L2ok X.K (rI0 f) (intP (fun _ _=>true) g):=by
 intro ι H C p q vx vy z Q cr lx ly e k
 unfold intP at e
 split at e
 ·simp only[if_true] at e
  cases e;cases lx;cases ly
  exact ⟨_,_,rfl,rfl,k _ H .refl cr (h _ _ _ _)⟩
 ·cases e
abbrev subP:=intP (fun _ _=>true) fun i j=>.int (i - j)
abbrev mulP:=intP (fun i j=>decide (-(2 ^ 64) < i/\i < 2 ^ 64)||decide (-(2 ^ 64) < j/\j < 2 ^ 64)) fun i j=>.int (i * j)
abbrev modP:=intP (fun _ j=>decide (0 < j)) fun i j=>.int (i % j)
abbrev powP:=intP (fun i j=>decide (0<=j/\j<=1000/\i.natAbs < 2 ^ 64)) fun i j=>.int (i ^ j.toNat)
abbrev ltP:=intP (fun _ _=>true) fun i j=>.bl (decide (i < j))
abbrev leP:=intP (fun _ _=>true) fun i j=>.bl (decide (i<=j))
abbrev gtP:=intP (fun _ _=>true) fun i j=>.bl (decide (j < i))
abbrev geP:=intP (fun _ _=>true) fun i j=>.bl (decide (j<=i))
def negP (C:Cs)(x:SV):Option SV:=match deref C x with
 | some (.int i)=>some (.v (.int (-i)))
 | _=>none
def mNeg (f:PSt->M SV):PSt->M SV:=fun ρ=>bnd (f ρ) fun x=>opM fun C=>negP C x
theorem lt_ok:L2ok X.K (rI0 fun i j=>.bl (decide (i < j))) ltP:=Zc3 fun _ _ _ _=>repBl
theorem le_ok:L2ok X.K (rI0 fun i j=>.bl (decide (i<=j))) leP:=Zc3 fun _ _ _ _=>repBl
theorem gt_ok:L2ok X.K (rI0 fun i j=>.bl (decide (j < i))) gtP:=Zc3 fun _ _ _ _=>repBl
theorem ge_ok:L2ok X.K (rI0 fun i j=>.bl (decide (j<=i))) geP:=Zc3 fun _ _ _ _=>repBl
def scP:PV->PV->Option Bool
 | .non,.non=>some true | .non,.int _=>some false | .int _,.non=>some false | .non,.bl _=>some false | .bl _,.non=>some false | .non,.str _=>some false | .str _,.non=>some false
 | .int i,.int j=>some (decide (i=j)) | .bl i,.bl j=>some (decide (i=j)) | .str i,.str j=>some (decide (i=j))
 | .int _,.str _=>some false | .str _,.int _=>some false | .bl _,.str _=>some false | .str _,.bl _=>some false
 | _,_=>none
def eqP (p q:PV):Option PV:=(scP p q).map .bl
def neP (p q:PV):Option PV:=(scP p q).map fun b=>.bl (!b)
theorem sc_ok {K:W.Frag}{ι:List Addr}{H:Hp}{p q:PV}{vx vy:V}{b:Bool}(lx:Lies K ι H p vx)(ly:Lies K ι H q vy)(e:scP p q=some b):scal vx vy=true/\decide (vx=vy)=b:=by
  unfold scP at e
  split at e<;>first
    | (cases e;cases lx;cases ly;exact ⟨rfl,by simp⟩)
    | cases e
theorem Zbl:L2ok X.K rEq eqP:=by
 intro ι H C p q vx vy z Q cr lx ly e k
 unfold eqP at e
 cases hb:scP p q with
 | none=>rw[hb] at e;cases e
 | some b=>
  rw[hb] at e;cases e
  obtain ⟨h1,h2⟩:=sc_ok lx ly hb
  exact ⟨h1,by rw[h2];exact k _ H .refl cr repBl⟩
theorem ne_ok:L2ok X.K rNe neP:=by
 intro ι H C p q vx vy z Q cr lx ly e k
 unfold neP at e
 cases hb:scP p q with
 | none=>rw[hb] at e;cases e
 | some b=>
  rw[hb] at e;cases e
  obtain ⟨h1,h2⟩:=sc_ok lx ly hb
  exact ⟨h1,by rw[h2];exact k _ H .refl cr repBl⟩
def ixP:PV->PV->Option PV
 | .lst xs,.int i=>atI xs i
 | .tup xs,.int i=>atI xs i
 | .str z,.int i=>(atI z.cps.toList i).map fun c=>.str ⟨#[c]⟩
 | _,_=>none
theorem atI_rep {K:W.Frag}{ι:List Addr}{H:Hp}{ps:List PV}{vs:List V}{i:Int}{z:PV}(r:Reps K ι H ps vs)(e:atI ps i=some z):∃v,atI vs i=some v/\Rep K ι H z v:=by
 unfold atI at e ⊢
 rw[←r.length]
 cases h:ixN ps.length i with
 | none=>rw[h] at e;cases e
 | some j=>rw[h] at e;exact r.get e
theorem ix_ok:L2ok X.K (rIx X.K) ixP:=by
 intro ι H C p q vx vy z Q cr lx ly e k
 unfold ixP at e
 split at e
 ·obtain ⟨a,vs,rfl,h1,r1⟩:=liesL lx
  cases ly
  obtain ⟨v,e1,r⟩:=atI_rep r1 e
  exact .inl ⟨a,vs,_,v,rfl,rfl,h1,e1,k v H .refl cr r⟩
 ·obtain ⟨a,vs,rfl,h1,r1⟩:=liesT lx
  cases ly
  obtain ⟨v,e1,r⟩:=atI_rep r1 e
  exact .inr (.inl ⟨a,vs,_,v,rfl,rfl,h1.sq,e1,k v H .refl cr r⟩)
 ·obtain ⟨rfl,hz⟩:=liesS lx
  cases ly
  rename_i z' i
  cases hc:atI z'.cps.toList i with
  | none=>rw[hc] at e;cases e
  | some c=>
   rw[hc] at e;cases e
   exact .inr (.inr ⟨_,_,c,rfl,rfl,hz,hc,k _ H .refl cr (repS (by show 1<=Yn;rw[YE];decide))⟩)
 ·cases e
def tyN:PV->Option String
 | .non=>some "NoneType"
 | .bl _=>some "bool"
 | .int _=>some "int"
 | .str _=>some "str"
 | .tup _=>some "tuple"
 | .lst _=>some "list"
 | .dct _ _=>some "dict"
 | _=>none
def isiP (p:PV)(n:String):Option Bool:=match tyN p with
 | none=>none
 | some t=>if n="int" then some (t=="int"||t=="bool") else if n="str"\/n="bool"\/n="tuple"\/n="list"\/n="dict" then some (t==n) else none
theorem kit_ok {K:W.Frag}{t n:String}{b:Bool}(ht:t="NoneType"\/t="bool"\/t="int"\/t="str"\/t="tuple"\/t="list"\/t="dict")(hn:n="int"\/n="str"\/n="bool"\/n="tuple"\/n="list"\/n="dict")
  (e:(if n="int" then some (t=="int"||t=="bool") else if n="str"\/n="bool"\/n="tuple"\/n="list"\/n="dict" then some (t==n) else none)=some b):W.kitOne K (.type t) (.type n)=some b:=by
 rcases ht with rfl | rfl | rfl | rfl | rfl | rfl | rfl<;>rcases hn with rfl | rfl | rfl | rfl | rfl | rfl<;>(simp at e;subst e;rfl)
end
inductive LiesAll (K:W.Frag)(ι:List Addr)(H:Hp):List PV->List V->Prop
 | nil:LiesAll K ι H [] []
 | cons {p:PV} {v:V} {ps:List PV} {vs:List V} (h:Lies K ι H p v) (t:LiesAll K ι H ps vs):LiesAll K ι H (p::ps) (v::vs)
def derefs (C:Cs):List SV->Option (List PV)
 | []=>some []
 | x::xs=>match deref C x,derefs C xs with
  | some p,some ps=>some (p::ps)
  | _,_=>none
theorem ZbX {K:W.Frag}{ι:List Addr}{H:Hp}{C:Cs}(cr:CR K ι H C):∀{xs:List SV} {ps:List PV} {vs:List V},RepSs K ι H xs vs->derefs C xs=some ps->LiesAll K ι H ps vs
 | [],ps,vs,r,e=>by cases e;rw[show vs=[] from r];exact .nil
 | x::xs,ps,vs,r,e=>by
  obtain ⟨v,w,rfl,h1,h2⟩:=r
  unfold derefs at e
  split at e
  ·rename_i p qs hp hq
   cases e
   exact .cons (h1.lies cr hp) (ZbX cr h2 hq)
  ·cases e
def g1 (h:List PV->Option PV):Cs->List SV->Option SV:=fun C xs=>match derefs C xs with
 | some ps=>(h ps).map .v
 | none=>none
def L1ok (K:W.Frag)(r:List V->Hp->VK->Prop)(h:List PV->Option PV):Prop:=
 ∀(ι:List Addr) (H:Hp) (C:Cs) (ps:List PV) (vs:List V) (z:PV) (Q:VK),CR K ι H C->LiesAll K ι H ps vs->h ps=some z->(∀v H',Fr ι H H'->CR K ι H' C->Rep K ι H' z v->Q v H')->r vs H Q
theorem L1ok.c {K:W.Frag}{r:List V->Hp->VK->Prop}{h:List PV->Option PV}(k:L1ok K r h):C1ok K r (g1 h):=by
 intro ι H C xs vs z Q cr rs e q
 unfold g1 at e
 cases hd:derefs C xs with
 | none=>rw[hd] at e;cases e
 | some ps=>
  rw[hd] at e
  cases hz:h ps with
  | none=>simp[hz] at e
  | some z2=>
   simp[hz] at e
   subst e
   exact k ι H C ps vs z2 Q cr (ZbX cr rs hd) hz q
section
variable {X:Cx}{a b e c o:Expr}{es:List Expr}{fa fb fc fo:PSt->M SV}{fs:PSt->M (List SV)}{pos p apos cpos:Pos}{x:Str}
def TyV (K:W.Frag)(H:Hp)(x:V)(t:String):Prop:=match x with
 | .non=>t="NoneType"
 | .bl _=>t="bool"
 | .int _=>t="int"
 | .str _=>t="str"
 | .ref a=>(t="tuple"/\∃vs,SqT K H a vs)\/(t="list"/\∃vs,SqL K H a vs)\/(t="dict"/\∃kvs,H a=some (.dK kvs))
 | _=>False
theorem call_isi:CallR X (.builtin "isinstance") (fun xs H Q=>∃x n t b,xs=[x,.ty n]/\TyV X.K H x t/\W.kitOne X.K (.type t) (.type n)=some b/\Q (.bl b) H):=by
 intro pins s σ H xs us Q I r h
 obtain ⟨x,n,t,b,rfl,ty,e,q⟩:=h
 obtain ⟨u,v,rfl,ru,rv⟩:=Vals.two r
 cases (show v=W1 n from rv)
 have fin:∀tk,EP X pins σ Q (.bool b) { s with toks:=tk }:=fun tk=>⟨.bl b,H,I.tok tk,rfl,q⟩
 cases x with
 | non=>cases (show t="NoneType" from ty);exact ZbD I ru (TyOf.non) e fin
 | bl y=>cases (show t="bool" from ty);exact ZbD I ru (TyOf.bl y) e fin
 | int y=>cases (show t="int" from ty);exact ZbD I ru (TyOf.int y) e fin
 | str y=>cases (show t="str" from ty);exact ZbD I ru (TyOf.str y) e fin
 | ref a=>
  cases (show u=YY a from ru)
  rcases (show _ from ty) with ⟨rfl,vs,h⟩ | ⟨rfl,vs,h⟩ | ⟨rfl,kvs,h⟩
  ·obtain ⟨its,_,⟨o,h1,h2,_⟩,_⟩:=I.tuple h
   exact Wf W.kitx_tuple I.kIn ⟨o,h1,h2⟩ e (fun z=>nomatch z) fin
  ·obtain ⟨its,_,⟨o,n,h1,h2,_⟩,_⟩:=I.list h
   exact Wf W.kitx_list I.kIn ⟨o,h1,h2⟩ e (fun z=>nomatch z) fin
  ·exact ZbD I ru (TyOf.dK h) e fin
 | _=>exact (show False from ty).elim
def isiH:List PV->Option PV
 | [p,.ty n]=>(isiP p n).map .bl
 | _=>none
theorem isi_ok:L1ok X.K (fun xs H Q=>∃x n t b,xs=[x,.ty n]/\TyV X.K H x t/\W.kitOne X.K (.type t) (.type n)=some b/\Q (.bl b) H) isiH:=by
 intro ι H C ps vs z Q cr ls e k
 unfold isiH at e
 split at e
 ·rename_i p n
  cases ls with
  | cons l1 ls=>cases ls with
   | cons l2 ls=>
    cases ls
    cases l2
    cases hb:isiP p n with
    | none=>rw[hb] at e;cases e
    | some b=>
     rw[hb] at e;cases e
     unfold isiP at hb
     cases ht:tyN p with
     | none=>rw[ht] at hb;cases hb
     | some t=>
      rw[ht] at hb
      dsimp only at hb
      have hn:n="int"\/n="str"\/n="bool"\/n="tuple"\/n="list"\/n="dict":=by
       by_cases h1:n="int"
       ·exact .inl h1
       ·rw[if_neg h1] at hb
        by_cases h2:n="str"\/n="bool"\/n="tuple"\/n="list"\/n="dict"
        ·exact .inr h2
        ·rw[if_neg h2] at hb;cases hb
      refine ⟨_,n,t,b,rfl,?_,kit_ok ?_ hn hb,k _ H .refl cr repBl⟩
      ·cases l1<;>(unfold tyN at ht;first | (cases ht;rfl) | (cases ht;exact .inl ⟨rfl,_,TpR.sq (by assumption)⟩) | (cases ht;exact .inr (.inl ⟨rfl,_,by assumption⟩)) | (cases ht;exact .inr (.inr ⟨rfl,_,by assumption⟩)) | cases ht)
      ·cases p<;>(unfold tyN at ht;first | (cases ht;simp) | cases ht)
 ·cases e
def lenH:List PV->Option PV
 | [.str z]=>some (.int z.length)
 | [.lst xs]=>some (.int xs.length)
 | [.tup xs]=>some (.int xs.length)
 | _=>none
theorem len_ok:L1ok X.K (fun xs H Q=>∃x n,xs=[x]/\LenV X.K x H n/\Q (.int n) H) lenH:=by
 intro ι H C ps vs z Q cr ls e k
 unfold lenH at e
 split at e
 ·cases e;cases ls with
  | cons l t=>cases t;obtain ⟨rfl,hz⟩:=liesS l;exact ⟨_,_,rfl,⟨hz,rfl⟩,k _ H .refl cr repI⟩
 ·cases e;cases ls with
  | cons l t=>cases t;obtain ⟨a,ws,rfl,h1,r1⟩:=liesL l;exact ⟨_,_,rfl,.inl ⟨ws,h1,r1.length⟩,k _ H .refl cr repI⟩
 ·cases e;cases ls with
  | cons l t=>cases t;obtain ⟨a,ws,rfl,h1,r1⟩:=liesT l;exact ⟨_,_,rfl,.inr ⟨ws,h1.sq,r1.length⟩,k _ H .refl cr repI⟩
 ·cases e
def maxH:List PV->Option PV
 | [.int i,.int j]=>some (.int (if j > i then j else i))
 | _=>none
def minH:List PV->Option PV
 | [.int i,.int j]=>some (.int (if j < i then j else i))
 | _=>none
theorem max_ok:L1ok X.K (fun xs H Q=>∃i j,xs=[.int i,.int j]/\Q (.int (if j > i then j else i)) H) maxH:=by
 intro ι H C ps vs z Q cr ls e k
 unfold maxH at e
 split at e
 ·cases e;cases ls with
  | cons l t=>cases t with
   | cons l2 t=>cases t;cases l;cases l2;exact ⟨_,_,rfl,k _ H .refl cr repI⟩
 ·cases e
theorem min_ok:L1ok X.K (fun xs H Q=>∃i j,xs=[.int i,.int j]/\Q (.int (if j < i then j else i)) H) minH:=by
 intro ι H C ps vs z Q cr ls e k
 unfold minH at e
 split at e
 ·cases e;cases ls with
  | cons l t=>cases t with
   | cons l2 t=>cases t;cases l;cases l2;exact ⟨_,_,rfl,k _ H .refl cr repI⟩
 ·cases e
def intH:List PV->Option PV
 | [.int i]=>some (.int i)
 | [.bl k]=>some (.int (if k then 1 else 0))
 | _=>none
theorem intc_ok:L1ok X.K (fun xs H Q=>(∃i,xs=[.int i]/\Q (.int i) H)\/∃k,xs=[.bl k]/\Q (.int (if k then 1 else 0)) H) intH:=by
 intro ι H C ps vs z Q cr ls e k
 unfold intH at e
 split at e
 ·cases e;cases ls with
  | cons l t=>cases t;cases l;exact .inl ⟨_,rfl,k _ H .refl cr repI⟩
 ·cases e;cases ls with
  | cons l t=>cases t;cases l;exact .inr ⟨_,rfl,k _ H .refl cr repI⟩
 ·cases e
def tupH:List PV->Option PV
 | [.lst xs]=>some (.tup xs)
 | [.tup xs]=>some (.tup xs)
 | _=>none
theorem tup_ok:L1ok X.K (fun xs H Q=>∃p ys,xs=[.ref p]/\((SqL X.K H p ys/\∀l,H l=none->Q (.ref l) (upd H l (.tup ys)))\/(SqT X.K H p ys/\Q (.ref p) H))) tupH:=by
 intro ι H C ps vs z Q cr ls e k
 unfold tupH at e
 split at e
 ·cases e;cases ls with
  | cons l t=>cases t;obtain ⟨a,ws,rfl,h1,r1⟩:=liesL l;exact ⟨a,ws,rfl,.inl ⟨h1,fun q hq=>k _ _ (Fr.new hq) (cr.new hq) (Zck hq r1)⟩⟩
 ·cases e;cases ls with
  | cons l t=>cases t;obtain ⟨a,ws,rfl,h1,r1⟩:=liesT l;exact ⟨a,ws,rfl,.inr ⟨h1.sq,k _ H .refl cr (by unfold Rep;exact ⟨a,ws,rfl,h1,r1⟩)⟩⟩
 ·cases e
def listH (C:Cs):List SV->Option (List PV)
 | [x]=>match deref C x with
  | some (.lst xs)=>some xs
  | some (.tup xs)=>some xs
  | _=>none
 | _=>none
def mList (fs:PSt->M (List SV)):PSt->M (List PV):=fun ρ=>bnd (fs ρ) fun xs=>opM fun C=>listH C xs
def boolsP:List PV->Option (List Bool)
 | []=>some []
 | .bl b::r=>(boolsP r).map (b::·)
 | _::_=>none
theorem bools_rep {K:W.Frag}{ι:List Addr}{H:Hp}:∀{ps:List PV} {vs:List V} {bs:List Bool},Reps K ι H ps vs->boolsP ps=some bs->vs=bs.map V.bl
 | [],vs,bs,r,e=>by cases e;rw[r.inv0];rfl
 | p::ps,vs,bs,r,e=>by
  obtain ⟨v,w,rfl,h1,h2⟩:=r.inv
  cases p with
  | bl b=>
   unfold boolsP at e
   cases hb:boolsP ps with
   | none=>rw[hb] at e;cases e
   | some cs=>
    rw[hb] at e;cases e
    have h1:v=.bl b:=by unfold Rep at h1;exact h1
    rw[h1,bools_rep h2 hb];rfl
  | _=>cases e
def allH:List PV->Option PV
 | [.lst xs]=>(boolsP xs).map fun bs=>.bl (bs.all id)
 | _=>none
theorem all_ok:L1ok X.K (fun xs H Q=>∃(a:Addr) (bs:List Bool),xs=[.ref a]/\SqL X.K H a (bs.map V.bl)/\Q (.bl (bs.all id)) H) allH:=by
 intro ι H C ps vs z Q cr ls e k
 unfold allH at e
 split at e
 ·rename_i xs
  cases ls with
  | cons l t=>
   cases t
   obtain ⟨a,ws,rfl,h1,r1⟩:=liesL l
   cases hb:boolsP xs with
   | none=>rw[hb] at e;cases e
   | some bs=>
    rw[hb] at e;cases e
    exact ⟨a,bs,rfl,by rw[←bools_rep r1 hb];exact h1,k _ H .refl cr repBl⟩
 ·cases e
end
section
variable {X:Cx}{a b e c o i:Expr}{es:List Expr}{fa fb fc fo fi fv:PSt->M SV}{fs:PSt->M (List SV)}{pos p apos cpos:Pos}{x:Str}
def isLst (x:SV):M Unit:=fun C=>match x with
 | .c k=>match C[k]? with
  | some (.lst _)=>some ((),C)
  | _=>none
 | _=>none
theorem Zdo {x:SV}{C C2:Cs}(h:isLst x C=some ((),C2)):C2=C/\∃k ps,x=.c k/\C[k]? = some (.lst ps):=by
 unfold isLst at h
 split at h
 ·split at h
  ·rename_i k _ ps e;cases h;exact ⟨rfl,k,ps,rfl,e⟩
  ·cases h
 ·cases h
def appC (x:SV)(ys:List SV):M SV:=fun C=>match x,ys with
 | .c k,[.v p]=>match C[k]? with
  | some (.lst ps)=>if ps.length < 100000 then some (.v .non,C.set k (.lst (ps++[p]))) else none
  | _=>none
 | _,_=>none
theorem appC_some {x:SV}{ys:List SV}{C C2:Cs}{r:SV}(h:appC x ys C=some (r,C2)):∃k p ps,x=.c k/\ys=[.v p]/\C[k]? = some (.lst ps)/\ps.length < 100000/\r=.v .non/\C2=C.set k (.lst (ps++[p])):=by
 unfold appC at h
 split at h
 ·split at h
  ·split at h
   ·cases h;exact ⟨_,_,_,rfl,rfl,by assumption,by assumption,rfl,rfl⟩
   ·cases h
  ·cases h
 ·cases h
def mApp (fo:PSt->M SV)(fs:PSt->M (List SV)):PSt->M SV:=fun ρ=>bnd (fo ρ) fun x=>bnd (isLst x) fun _=>bnd (fs ρ) fun ys=>appC x ys
theorem Zcd {K:W.Frag}{ι:List Addr}{H:Hp}{C:Cs}{k:Nat}{a:Addr}{ps:List PV}(cr:CR K ι H C)(hk:ι[k]? = some a)(hc:C[k]? = some (.lst ps)):∃vs,H a=some (.lst vs)/\Reps K ι H ps vs:=cr.ok k a _ hk hc
theorem cr_set {K:W.Frag}{ι:List Addr}{H:Hp}{C:Cs}{k:Nat}{a:Addr}{ps:List PV}{vs:List V}(cr:CR K ι H C)(hk:ι[k]? = some a)(r:Reps K ι H ps vs):CR K ι (upd H a (.lst vs)) (C.set k (.lst ps))/\Fr ι H (upd H a (.lst vs)):=by
 have fr:Fr ι H (upd H a (.lst vs)):=fun b u n e=>by
  rw[Zas (fun z=>n (by rw[z];exact Xd hk))];exact e
 exact ⟨cr.put hk ⟨vs,Za0,Reps.mono cr fr _ _ r⟩,fr⟩
def setC (v o i:SV)(ρ:PSt):M PF:=fun C=>match o,i,v with
 | .c k,.v (.int n),.v p=>match C[k]? with
  | some (.lst ps)=>match ixN ps.length n with
   | some j=>some (.nx ρ,C.set k (.lst (ps.set j p)))
   | none=>none
  | _=>none
 | _,_,_=>none
theorem setC_some {v o i:SV}{ρ:PSt}{C C2:Cs}{fl:PF}(h:setC v o i ρ C=some (fl,C2)):∃k n p ps j,o=.c k/\i=.v (.int n)/\v=.v p/\C[k]? = some (.lst ps)/\ixN ps.length n=some j/\fl=.nx ρ/\C2=C.set k (.lst (ps.set j p)):=by
 unfold setC at h
 split at h
 ·split at h
  ·split at h
   ·cases h;exact ⟨_,_,_,_,_,rfl,rfl,rfl,by assumption,by assumption,rfl,rfl⟩
   ·cases h
  ·cases h
 ·cases h
def mSetIx (fv fo fi:PSt->M SV):PSt->M PF:=fun ρ=>bnd (fv ρ) fun v=>bnd (fo ρ) fun o=>bnd (fi ρ) fun i=>setC v o i ρ
def itemsP:SV->Option (List PV)
 | .v (.lst xs)=>some xs
 | .v (.tup xs)=>some xs
 | .v (.str z)=>some (z.cps.toList.map fun c=>.str ⟨#[c]⟩)
 | _=>none
def mItems (f:PSt->M SV):PSt->M (List PV):=fun ρ=>bnd (f ρ) fun x=>opM fun _=>itemsP x
theorem iter_list {K:W.Frag}{ι:List Addr}{H:Hp}{C:Cs}{a:Addr}{xs:List PV}{vs:List V}(cr:CR K ι H C)(h:LsR K ι H a vs)(r:Reps K ι H xs vs):Iter K ι H xs (Itl K a):=by
 have keep:∀ι2 H2,Ex ι ι2 H H2->SqL K H2 a vs:=fun ι2 H2 x=>by
  rcases h with ⟨n,q | ⟨o,q⟩⟩ | q
  ·exact .inl (.inl (x.out _ _ n q).2)
  ·exact .inl (.inr ⟨o,(x.out _ _ n q).2⟩)
  ·exact .inr q
 refine ⟨fun ι2 H2 C2 x c i hi=>?_,fun ι2 H2 C2 x c i v H3 hi y=>?_,fun ι2 H2 C2 x c=>⟨vs,keep ι2 H2 x,by rw[r.length];exact Yx _⟩⟩
 ·obtain ⟨v,e,_⟩:=r.get (Yd hi)
  exact ⟨vs,v,keep ι2 H2 x,e⟩
 ·obtain ⟨rfl,y⟩:=y
  obtain ⟨p,hp,rp⟩:=r.get' (y vs (keep ι2 _ x))
  exact ⟨fun b o e=>e,p,hp,Rep.tr cr x.out p v rp⟩
theorem iter_tup {K:W.Frag}{ι:List Addr}{H:Hp}{C:Cs}{a:Addr}{xs:List PV}{vs:List V}(cr:CR K ι H C)(h:SqT K H a vs)(r:Reps K ι H xs vs):Iter K ι H xs (Itt K a):=by
 have keep:∀ι2 H2,Ex ι ι2 H H2->SqT K H2 a vs:=fun ι2 H2 x=>by
  rcases h with (q | ⟨o,q⟩) | q
  ·exact .inl (.inl (x.out _ _ (cr.notup q (fun _ e=>nomatch e) fun _ e=>nomatch e) q).2)
  ·exact .inl (.inr ⟨o,(x.out _ _ (cr.notup q (fun _ e=>nomatch e) fun _ e=>nomatch e) q).2⟩)
  ·exact .inr q
 refine ⟨fun ι2 H2 C2 x c i hi=>?_,fun ι2 H2 C2 x c i v H3 hi y=>?_,fun ι2 H2 C2 x c=>⟨vs,keep ι2 H2 x,by rw[r.length];exact Yx _⟩⟩
 ·obtain ⟨v,e,_⟩:=r.get (Yd hi)
  exact ⟨vs,v,keep ι2 H2 x,e⟩
 ·obtain ⟨rfl,y⟩:=y
  obtain ⟨p,hp,rp⟩:=r.get' (y vs (keep ι2 _ x))
  exact ⟨fun b o e=>e,p,hp,Rep.tr cr x.out p v rp⟩
theorem iter_str {K:W.Frag}{ι:List Addr}{H:Hp}{z:Str}:Iter K ι H (z.cps.toList.map fun c=>.str ⟨#[c]⟩) (Its z):=by
 refine ⟨fun ι2 H2 C2 x c i hi=>by show i < z.cps.size;simpa using hi,fun ι2 H2 C2 x c i v H3 hi y=>?_,fun ι2 H2 C2 x c=>by show _=_;simp⟩
 obtain ⟨rfl,d,hd,rfl⟩:=y
 refine ⟨fun b o e=>e,.str ⟨#[d]⟩,by simp[hd],?_⟩
 exact repS (by show 1<=Yn;rw[YE];decide)
theorem iter_range {K:W.Frag}{ι:List Addr}{H:Hp}{lo:Int}{n:Nat}:Iter K ι H ((YT n).map fun (k:Nat)=>.int (lo + k)) (Itr lo n):=by
 refine ⟨fun ι2 H2 C2 x c i hi=>by show i < n;simpa using hi,fun ι2 H2 C2 x c i v H3 hi y=>?_,fun ι2 H2 C2 x c=>by show n<=_;simp⟩
 obtain ⟨rfl,rfl⟩:=y
 have hi':i < n:=by simpa using hi
 exact ⟨fun b o e=>e,.int (lo + i),by simp[hi'],repI⟩
variable {tg l:Expr}
def rng1P:List SV->Option (List PV)
 | [.v (.int j)]=>if -1000000<=j/\j<=1000000 then some ((YT j.toNat).map fun (k:Nat)=>.int (0 + k)) else none
 | _=>none
def mRange1 (fs:PSt->M (List SV)):PSt->M (List PV):=fun ρ=>bnd (fs ρ) fun xs=>opM fun _=>rng1P xs
theorem rng1_some {xs:List SV}{ys:List PV}(h:rng1P xs=some ys):∃j,xs=[.v (.int j)]/\(-1000000<=j/\j<=1000000)/\ys=(YT j.toNat).map fun (k:Nat)=>.int (0 + k):=by
 unfold rng1P at h
 split at h
 ·split at h
  ·cases h;exact ⟨_,rfl,by assumption,rfl⟩
  ·cases h
 ·cases h
end
section
variable {prog:Yo}{w:World}{A:Around}{E:Value->Shared->Prop}{s:Shared}
theorem ZbW {t sl:Addr}{items:Array Value}{vl vu:Value}{lo hi:Option Int}{Q:Value->Shared->Prop}(ht:IsTup s.heap t items)(hs:s.heap.IsSliceOf sl vl vu .none)(pl:IsPart vl lo)(pu:IsPart vu hi)
  (hw:HT.sIx items.size 0 lo=0/\HT.sIx items.size items.size hi=items.size) (h:Q (.ref t) s):wpAny (model prog w) A (VS (.ref t) (.ref sl)) Q E s:=by
 obtain ⟨os,hos,hcs,hds⟩:=id hs
 have hTs:s.TypeIs (.ref sl) "slice":=⟨os,hos,hcs⟩
 unfold VS
 try with_reducible refine Y6 ?_
 first | refine Yc (Yk ?_) | skip
 refine Yc (wpAny_sequenceKey ht.typeIs (by decide) ?_)
 refine Yc (Xa (name:=X1 "__getitem__") ht.typeIs Y0
  (Xh Y0 ht.typeIs entry_tuple_getitem ?_ (args_tuple_getitem _ _)))
 show wpAny _ _ (Vv (.ref t) >>= _) _ _ s
 refine Yc (tupleItemsOf_ ht ?_)
 refine Yc (VT hTs ?_)
 rw[if_pos (by decide)]
 refine Yc (HT.sliceApplied_gen hs pl pu ?_)
 have hyes:(((HT.sIx items.size 0 lo:Nat):Int)==0&&(1:Int)==1&&(HT.sIx items.size items.size hi - HT.sIx items.size 0 lo)==items.size)=true:=by
  rw[hw.1,hw.2];simp
 show wpAny _ _ (if (((HT.sIx items.size 0 lo:Nat):Int)==0&&(1:Int)==1&&(HT.sIx items.size items.size hi - HT.sIx items.size 0 lo)==items.size)=true then _ else _) _ _ s
 rw[if_pos hyes]
 unfold Builtin.Tuple.tupleIsExact
 refine Yc (Yc (VT ht.typeIs (Yk ?_)))
 rw[if_pos (by decide)]
 refine Yc (wpAny_rule ?_)
 exact Yc (Yk (Yk ⟨_,rfl,Yk h⟩))
end
def rSlTW (K:W.Frag):V->Option Int->Option Int->Hp->VK->Prop:=fun x lo hi H Q=>∃a xs,x=.ref a/\SqT K H a xs/\(HT.sIx xs.length 0 lo=0/\HT.sIx xs.length xs.length hi=xs.length)/\Q (.ref a) H
def tMO (K:W.Frag)(f:PSt->M (Option Int)):TO:=fun σ H Q=>∃ι ρ C r C',SR K ι H ρ σ C/\f ρ C=some (r,C')/\∀H',Fr ι H H'->CR K ι H' C'->Q r H'
def OM (X:Cx)(e:Option Expr)(f:PSt->M (Option Int)):Prop:=PO X e (tMO X.K f)
def oNo:PSt->M (Option Int):=fun _=>ret none
def intD (C:Cs)(x:SV):Option (Option Int):=match deref C x with
 | some (.int i)=>some (some i)
 | _=>none
def oPart (f:PSt->M SV):PSt->M (Option Int):=fun ρ=>bnd (f ρ) fun x=>opM fun C=>intD C x
def cutP (xs:List PV)(lo hi:Option Int):List PV:=(xs.drop (HT.sIx xs.length 0 lo)).take (HT.sIx xs.length xs.length hi - HT.sIx xs.length 0 lo)
def sliceP (lo hi:Option Int):PV->Option PV
 | .lst xs=>some (.lst (cutP xs lo hi))
 | .tup xs=>some (.tup (cutP xs lo hi))
 | _=>none
def sliceD (C:Cs)(x:SV)(lo hi:Option Int):Option SV:=match deref C x with
 | some p=>(sliceP lo hi p).map .v
 | none=>none
def mSlice (f:PSt->M SV)(l h:PSt->M (Option Int)):PSt->M SV:=fun ρ=>bnd (f ρ) fun x=>bnd (l ρ) fun lo=>bnd (h ρ) fun hi=>opM fun C=>sliceD C x lo hi
theorem ZcA {K:W.Frag}{ι:List Addr}{H:Hp}{ps:List PV}{vs:List V}(r:Reps K ι H ps vs)(lo hi:Option Int):Reps K ι H (cutP ps lo hi) (cutV vs lo hi):=by
 unfold cutP cutV
 rw[r.length]
 exact (r.drop _).take _
theorem ZcP {C:Cs}{x z:SV}{lo hi:Option Int}(h:sliceD C x lo hi=some z):(∃xs,deref C x=some (.lst xs)/\z=.v (.lst (cutP xs lo hi)))\/∃xs,deref C x=some (.tup xs)/\z=.v (.tup (cutP xs lo hi)):=by
 unfold sliceD at h
 split at h
 ·rename_i p hd
  cases p with
  | lst xs=>cases h;exact .inl ⟨xs,hd,rfl⟩
  | tup xs=>cases h;exact .inr ⟨xs,hd,rfl⟩
  | _=>cases h
 ·cases h
section
variable {X:Cx}{a b e c o i:Expr}{es:List Expr}{fa fb fc fo fi fv:PSt->M SV}{fs:PSt->M (List SV)}{pos p apos cpos p2:Pos}{x:Str}{lo hi:Option Expr}{l h:PSt->M (Option Int)}
theorem PO.imp {e:Option Expr}{t t':TO}(h:PO X e t)(k:∀σ H Q,t' σ H Q->t σ H Q):PO X e t':=fun pins s σ H Q I q=>h pins s σ H Q I (k σ H Q q)
theorem sl_tupW:SlR X (rSlTW X.K):=by
 intro pins s σ H x v vl vu lo hi sl Q I rx hs pl pu h
 obtain ⟨a,xs,rfl,hx,hw,q⟩:=h
 cases rx
 obtain ⟨its,r,ht,hz⟩:=I.tuple hx
 have hlen:its.toArray.size=xs.length:=by rw[Yl];exact r.length.symm
 exact ⟨"tuple",_,Y0.lookup,ht.typeIs,ZbW ht hs pl pu (by rw[hlen];exact hw) ⟨.ref a,H,I,rfl,q⟩⟩
theorem cut_whole {xs:List PV}{lo hi:Option Int}(h:HT.sIx xs.length 0 lo=0/\HT.sIx xs.length xs.length hi=xs.length):cutP xs lo hi=xs:=by
 unfold cutP;rw[h.1,h.2];simp
def flatP:PV->Bool
 | .non=>true
 | .bl _=>true
 | .int _=>true
 | .str _=>true
 | _=>false
def eqF:PV->PV->Bool
 | .non,.non=>true
 | .bl a,.bl b=>a==b
 | .bl a,.int b=>(if a then 1 else 0)==b
 | .int a,.bl b=>a==(if b then 1 else 0)
 | .int a,.int b=>a==b
 | .str a,.str b=>a==b
 | _,_=>false
def strIn (i j:Str):Bool:=!(X7 j i 0 j.length 1).isEmpty
def inB (x:PV):PV->Option Bool
 | .str j=>match x with
  | .str i=>some (strIn i j)
  | _=>none
 | .lst xs=>if flatP x&&xs.all flatP then some (xs.any fun y=>eqF y x) else none
 | .tup xs=>if flatP x&&xs.all flatP then some (xs.any fun y=>eqF y x) else none
 | _=>none
def inP (x y:PV):Option PV:=(inB x y).map .bl
theorem ZcL {K:W.Frag}{ι:List Addr}{H:Hp}{q:PV}{v:V}(r:Lies K ι H q v)(h:flatP q=true):flatV v=true:=by cases r<;>first | rfl | cases h
theorem eqF_rep {K:W.Frag}{ι:List Addr}{H:Hp}{q r:PV}{v w:V}(h1:Lies K ι H q v)(h2:Lies K ι H r w)(f1:flatP q=true)(f2:flatP r=true):eqV v w=eqF q r:=by
 cases h1<;>cases h2<;>first | rfl | cases f1 | cases f2
theorem Zca {K:W.Frag}{ι:List Addr}{H:Hp}{x:PV}{vx:V}(lx:Lies K ι H x vx)(fx:flatP x=true):∀{ps:List PV} {vs:List V},Reps K ι H ps vs->ps.all flatP=true->vs.all flatV=true/\inV vx vs=ps.any fun y=>eqF y x
 | [],vs,r,h=>by rw[r.inv0];exact ⟨rfl,rfl⟩
 | q::ps,vs,r,h=>by
  obtain ⟨v,w,rfl,h1,h2⟩:=r.inv
  rw[XB,Yp] at h
  obtain ⟨k1,k2⟩:=Zca lx fx h2 h.2
  refine ⟨by rw[XB,ZcL (Rep.lies h1) h.1,k1];rfl,?_⟩
  unfold inV at k2 ⊢
  rw[XJ,XJ,k2,eqF_rep (Rep.lies h1) lx h.1 fx]
theorem in_ok:L2ok X.K (fun x y H Q=>(∃i j,x=.str i/\y=.str j/\Q (.bl (!(X7 j i 0 j.length 1).isEmpty)) H)\/rIn X.K false x y H Q) inP:=by
 intro ι H C p q vx vy z Q cr lx ly e k
 unfold inP at e
 cases hb:inB p q with
 | none=>rw[hb] at e;cases e
 | some b=>
  rw[hb] at e;cases e
  unfold inB at hb
  split at hb
  ·split at hb
   ·cases hb;cases lx;cases ly;exact .inl ⟨_,_,rfl,rfl,k _ H .refl cr repBl⟩
   ·cases hb
  ·split at hb
   ·rename_i xs hf
    cases hb
    rw[Yp] at hf
    obtain ⟨a,vs,rfl,h1,rv⟩:=liesL ly
    obtain ⟨k1,k2⟩:=Zca lx hf.1 rv hf.2
    exact .inr ⟨a,vs,rfl,.inl h1,ZcL lx hf.1,k1,by rw[if_neg Yi,k2];exact k _ H .refl cr repBl⟩
   ·cases hb
  ·split at hb
   ·rename_i xs hf
    cases hb
    rw[Yp] at hf
    obtain ⟨a,vs,rfl,h1,rv⟩:=liesT ly
    obtain ⟨k1,k2⟩:=Zca lx hf.1 rv hf.2
    exact .inr ⟨a,vs,rfl,.inr h1.sq,ZcL lx hf.1,k1,by rw[if_neg Yi,k2];exact k _ H .refl cr repBl⟩
   ·cases hb
  ·cases hb
theorem op_inAll:OpR X (YZ .In) (fun x y H Q=>(∃i j,x=.str i/\y=.str j/\Q (.bl (!(X7 j i 0 j.length 1).isEmpty)) H)\/rIn X.K false x y H Q):=OpR.or op_in_str op_in_seq
def Mtok (K:W.Frag)(r:V->List V->Hp->VK->Prop)(h:PV->List PV->Option PV):Prop:=
 ∀(ι:List Addr) (H:Hp) (C:Cs) (q:PV) (v:V) (ps:List PV) (vs:List V) (z:PV) (Q:VK),CR K ι H C->Lies K ι H q v->LiesAll K ι H ps vs->h q ps=some z->(∀v H',Fr ι H H'->CR K ι H' C->Rep K ι H' z v->Q v H')->r v vs H Q
def tyP (T:String):PV->Bool
 | .str _=>T=="str"
 | .int _=>T=="int"
 | .lst _=>T=="list"
 | .dct _ _=>T=="dict"
 | .dtt _ _=>T=="dict"
 | _=>false
def isTy (T:String)(x:SV):M Unit:=fun C=>match deref C x with
 | some q=>if tyP T q then some ((),C) else none
 | none=>none
def mtD (h:PV->List PV->Option PV)(C:Cs)(x:SV)(xs:List SV):Option SV:=match deref C x,derefs C xs with
 | some q,some ps=>(h q ps).map .v
 | _,_=>none
def mMt (T:String)(h:PV->List PV->Option PV)(fo:PSt->M SV)(fs:PSt->M (List SV)):PSt->M SV:=fun ρ=>bnd (fo ρ) fun x=>bnd (isTy T x) fun _=>bnd (fs ρ) fun xs=>opM fun C=>mtD h C x xs
def tyW (K:W.Frag)(T:String)(x:V)(H:Hp):Prop:=tyV K T x H\/(T="dict"/\∃a,x=.ref a/\∃kvs,Rd H a (.dT kvs))
def tBW (K:W.Frag)(T:String)(r:V->List V->Hp->VK->Prop)(to:TE)(t:TA):TE:=fun σ H Q=>to σ H fun x H1=>tyW K T x H1/\t σ H1 fun xs H2=>r x xs H2 Q
theorem pe_bw {to:TE}{t:TA}{name:Str}{T id:String}{r:V->List V->Hp->VK->Prop}(pa:PlainAttrs T)(slot:Slot T name id)(hty:typeOf (.builtin id)=pure (.type "method_descriptor"))(hm:MtR X id r)(ho:PE X o to)(ha:PA X (e::es) t)
  (hbase:XM o name X.env (eval o X.env)=eval o X.env:=by rfl)
  (hfew:((backTo cpos (Yg (e::es) X.env)).all (fun x=>!x.1)&&(Vx cpos (Wt [] X.env)).all (fun x=>x.1.isSome)
   &&decide ((e::es).length + ([]:List Wu).length + (if ([]:List Wu).isEmpty then 0 else 1) < 30))=true:=by rfl)
  (hline:(apos.endLine==cpos.line)=true:=by rfl) (hs:Yg (e::es) X.env=(false,eval e X.env)::Yg es X.env:=by rfl) (hplain:(backTo cpos (Yg es X.env)).any (·.1)=false:=by rfl):
  PE X (.Call (.Attribute o name apos) (e::es) [] cpos) (tBW X.K T r to t):=by
 intro pins s σ H Q I h
 refine wpAny_Call_method_late hbase hfew hline rfl (thn (ho pins s σ H _ I h) fun v s1 h_=>?_)
 obtain ⟨x,H1,I1,r1,ty,q1⟩:=h_
 obtain ⟨h1,h2⟩:s1.TypeIs v T/\∀a,v=.ref a->∃ob,s1.heap.get? a=some ob/\ob.dict=none:=by
  rcases ty with ty | ⟨rfl,a,rfl,kvs,hd⟩
  ·exact tyV_is I1 r1 ty
  ·cases r1
   obtain ⟨z1,z2,_⟩:=isD_at I1 (.inr ⟨kvs,hd⟩)
   exact ⟨z1,z2⟩
 refine ⟨T,id,pa,slot,hty,h1,h2,?_⟩
 have hA:=ha cpos pins s1 σ H1 _ I1 q1
 rw[hs] at hA ⊢
 refine Calls.callWith_builtin (by show (false||(backTo cpos (Yg es X.env)).any (·.1))=false;rw[hplain]<;>rfl) (Calls.evalArgs_plain ?_)
 exact thn hA fun us s2 ⟨vs,H2,I2,r2,q2⟩=>hm pins s2 σ H2 x vs v us Q I2 r1 r2 q2
theorem lies_ty {K:W.Frag}{ι:List Addr}{H:Hp}{T:String}{q:PV}{v:V}(l:Lies K ι H q v)(h:tyP T q=true):tyW K T v H:=by
 cases l with
 | str y hy=>exact .inl (eq_of_beq (by simpa[tyP] using h))
 | int y=>exact .inl (eq_of_beq (by simpa[tyP] using h))
 | lst h1 r=>exact .inl (.inl ⟨eq_of_beq (by simpa[tyP] using h),_,h1⟩)
 | dct h1 hl r=>exact .inl (.inr (.inr (.inl ⟨eq_of_beq (by simpa[tyP] using h),.inl ⟨_,h1⟩⟩)))
 | dtt h1 hl r=>exact .inr ⟨eq_of_beq (by simpa[tyP] using h),_,rfl,_,h1⟩
 | _=>cases h
theorem em_mt {T id:String}{name:Str}{r:V->List V->Hp->VK->Prop}{h:PV->List PV->Option PV}(pa:PlainAttrs T)(slot:Slot T name id)(hty:typeOf (.builtin id)=pure (.type "method_descriptor"))(hm:MtR X id r)(hk:Mtok X.K r h)
  (ho:EM X o fo) (ha:AM X (e::es) fs) (hbase:XM o name X.env (eval o X.env)=eval o X.env:=by rfl)
  (hfew:((backTo cpos (Yg (e::es) X.env)).all (fun x=>!x.1)&&(Vx cpos (Wt [] X.env)).all (fun x=>x.1.isSome)
   &&decide ((e::es).length + ([]:List Wu).length + (if ([]:List Wu).isEmpty then 0 else 1) < 30))=true:=by rfl)
  (hline:(apos.endLine==cpos.line)=true:=by rfl) (hs:Yg (e::es) X.env=(false,eval e X.env)::Yg es X.env:=by rfl) (hplain:(backTo cpos (Yg es X.env)).any (·.1)=false:=by rfl):
  EM X (.Call (.Attribute o name apos) (e::es) [] cpos) (mMt T h fo fs):=
 PE.imp (pe_bw pa slot hty hm ho ha hbase hfew hline hs hplain) fun σ H Q h_=>by
  obtain ⟨ι,ρ,C,z,C',sr,e,q⟩:=h_
  obtain ⟨x,C1,e1,g1⟩:=Zag e
  obtain ⟨u,C2,e2,g2⟩:=Zag g1
  obtain ⟨xs,C3,e3,g3⟩:=Zag g2
  obtain ⟨e4,hC⟩:=Zav g3
  subst hC
  clear e g1 g2 g3
  refine ⟨ι,ρ,C,x,C1,sr,e1,fun v H1 f1 c1 r1=>?_⟩
  unfold isTy at e2
  split at e2
  ·rename_i q0 hd0
   split at e2
   ·rename_i ht
    cases e2
    refine ⟨lies_ty (r1.lies c1 hd0) ht,ι,ρ,_,xs,_,sr.step f1 c1,e3,fun vs H2 f2 c2 r2=>?_⟩
    unfold mtD at e4
    split at e4
    ·rename_i q1 ps hd1 hds
     cases hz:h q1 ps with
     | none=>rw[hz] at e4;cases e4
     | some z1=>
      rw[hz] at e4;cases e4
      exact hk ι H2 _ q1 v ps vs z1 Q c2 ((r1.mono c1 f2).lies c2 hd1) (ZbX c2 r2 hds) hz fun v' H3 f3 c3 r3=>q v' H3 (f1.trans (f2.trans f3)) c3 r3
    ·cases e4
   ·cases e2
  ·cases e2
end
section
variable {X:Cx}{a b e c o i:Expr}{es:List Expr}{fa fb fc fo fi fv:PSt->M SV}{fs:PSt->M (List SV)}{pos p apos cpos p2:Pos}{x:Str}
def strsP:List PV->Option (List Str)
 | []=>some []
 | .str b::r=>(strsP r).map (b::·)
 | _::_=>none
theorem strs_rep {K:W.Frag}{ι:List Addr}{H:Hp}:∀{ps:List PV} {vs:List V} {bs:List Str},Reps K ι H ps vs->strsP ps=some bs->vs=bs.map V.str
 | [],vs,bs,r,e=>by cases e;rw[r.inv0];rfl
 | p::ps,vs,bs,r,e=>by
  obtain ⟨v,w,rfl,h1,h2⟩:=r.inv
  cases p with
  | str b=>
   unfold strsP at e
   cases hb:strsP ps with
   | none=>rw[hb] at e;cases e
   | some cs=>
    rw[hb] at e;cases e
    have h1:v=.str b:=by unfold Rep at h1;exact h1.1
    rw[h1,strs_rep h2 hb];rfl
  | _=>cases e
def joinH:PV->List PV->Option PV
 | .str z,[.lst xs]=>match strsP xs with
  | some ys=>if (ys.map (·.length)).sum + ys.length * z.length<=1000000 then some (.str (Txt.join z ys)) else none
  | none=>none
 | _,_=>none
theorem join_len (z:Str)(ys:List Str):(Txt.join z ys).length<=(ys.map (·.length)).sum + ys.length * z.length:=by
 have e:(Txt.join z ys).length=(ys.map (·.length)).sum + (ys.length - 1) * z.length:=size_glued z ys
 rw[e]
 exact Nat.add_le_add_left (Nat.mul_le_mul_right _ (Nat.sub_le _ _)) _
theorem join_ok:Mtok X.K (fun x xs H Q=>∃(z:Str) (p:Addr) (ys:List Str),x=.str z/\xs=[.ref p]/\SqL X.K H p (ys.map V.str)/\(ys.map (·.length)).sum + ys.length * z.length<=16777216/\Q (.str (Txt.join z ys)) H) joinH:=by
 intro ι H C q v ps vs z Q cr lq ls e k
 unfold joinH at e
 split at e
 ·rename_i z0 xs
  split at e
  ·rename_i ys hy
   split at e
   ·rename_i hl
    cases e
    cases ls with
    | cons l t=>
     cases t
     obtain ⟨rfl,hz⟩:=liesS lq
     obtain ⟨a,ws,rfl,h1,r1⟩:=liesL l
     exact ⟨_,a,ys,rfl,rfl,by rw[←strs_rep r1 hy];exact h1,YB hl (by decide),k _ H .refl cr (repS (YB (join_len _ _) (k1000000 hl)))⟩
   ·cases e
  ·cases e
 ·cases e
def indexH:PV->List PV->Option PV
 | .lst xs,[x]=>if flatP x&&xs.all flatP then (xs.findIdx? fun y=>eqF y x).map fun (j:Nat)=>.int j else none
 | _,_=>none
def rIndex (K:W.Frag):V->List V->Hp->VK->Prop:=fun x vs H Q=>∃p xs y j,x=.ref p/\vs=[y]/\SqL K H p xs/\flatV y=true/\xs.all flatV=true/\(xs.findIdx? fun z=>eqV z y)=some j/\Q (.int j) H
theorem mt_index:MtR X "list.index" (rIndex X.K):=by
 intro pins s σ H x vs v us Q I rx rv h
 obtain ⟨p,xs,y,j,rfl,rfl,hq,fy,fs,hj,q⟩:=h
 cases rx
 obtain ⟨u,rfl,ru⟩:=rv.one
 obtain ⟨its,r,pl,hz⟩:=I.list hq
 obtain ⟨⟨cls,dd,data,sl⟩,ho,hc,n,hd⟩:=id pl.isList
 simp only at hc hd
 subst hc hd
 have hl:=r.length
 obtain ⟨hjl,hit,hno⟩:=List.findIdx?_eq_some_iff_getElem.mp hj
 have get:∀(m:Nat) (hm:m < its.toArray.size),eqU y its.toArray[m]=eqV (xs[m]'(by simpa[hl] using hm)) y:=fun m hm=>by
  have hm2:m < xs.length:=by simpa[hl] using hm
  obtain ⟨w,ew,rw'⟩:=r.get (i:=m) (x:=xs[m]) (Yd hm2)
  have e1:its.toArray[m]=w:=by
   have:its[m]? = some w:=ew
   have hm3:m < its.length:=by simpa using hm
   rw[Yd hm3] at this
   simpa using Yz this
  rw[e1]
  exact eqU_of rw' (YG.mp fs _ (Wg hm2))
 have hn:=line63
 have hsl:Yn=16777216:=YE
 refine call_meets PySem.F.slot_list_index ⟨_,ho,rfl⟩ PySem.F.entry_list_index (PySem.F.args_list_index_2 _ _) (SeqAt.list_indexAt p its.toArray n dd sl u (eqU y) j (by simpa[←hl] using hjl) (by lia) ?_ ?_) ⟨ho,?_,?_⟩
 ·rw[get];exact hit
 ·intro m hm hmj
  rw[get]
  simpa using hno m hmj
 ·intro w hw
  exact ZcI ru fy r fs w (by simpa using hw)
 ·exact ⟨.int j,H,I.tok _,⟨_,rfl⟩,q⟩
theorem find_rep {K:W.Frag}{ι:List Addr}{H:Hp}{x:PV}{vx:V}(lx:Lies K ι H x vx)(fx:flatP x=true):∀{ps:List PV} {vs:List V},Reps K ι H ps vs->ps.all flatP=true->(vs.findIdx? fun z=>eqV z vx)=ps.findIdx? fun y=>eqF y x
 | [],vs,r,h=>by rw[r.inv0];rfl
 | q::ps,vs,r,h=>by
  obtain ⟨v,w,rfl,h1,h2⟩:=r.inv
  rw[XB,Yp] at h
  rw[Wp,Wp,eqF_rep (Rep.lies h1) lx h.1 fx,find_rep lx fx h2 h.2]
theorem index_ok:Mtok X.K (rIndex X.K) indexH:=by
 intro ι H C q v ps vs z Q cr lq ls e k
 unfold indexH at e
 split at e
 ·rename_i xs y
  split at e
  ·rename_i hf
   rw[Yp] at hf
   cases hj:xs.findIdx? (fun z=>eqF z y) with
   | none=>rw[hj] at e;cases e
   | some j=>
    rw[hj] at e;cases e
    cases ls with
    | cons l t=>
     cases t
     obtain ⟨a,ws,rfl,h1,r1⟩:=liesL lq
     exact ⟨a,ws,_,j,rfl,rfl,h1,ZcL l hf.1,(Zca l hf.1 r1 hf.2).1,by rw[find_rep l hf.1 r1 hf.2];exact hj,k _ H .refl cr repI⟩
  ·cases e
 ·cases e
def keyP:PV->Option Key
 | .int i=>some (.inl i)
 | .str z=>some (.inr z)
 | _=>none
theorem keyP_kP (k:Key):keyP (kP k)=some k:=by cases k<;>rfl
def lookP:List PV->List PV->Key->Option PV
 | k::ks,v::vs,q=>if keyP k=some q then some v else lookP ks vs q
 | _,_,_=>none
theorem look_rep {K:W.Frag}{ι:List Addr}{H:Hp}{q:Key}:∀{qs:List Key} {ps:List PV} {vs:List V},qs.length=vs.length->Reps K ι H ps vs->
  (∀z,lookP (qs.map kP) ps q=some z->∃v,valV (qs.zip vs) q=some v/\Rep K ι H z v)/\(lookP (qs.map kP) ps q=none->valV (qs.zip vs) q=none)
 | [],ps,vs,hl,r=>by
  refine ⟨fun z h=>?_,fun _=>rfl⟩
  cases ps<;>cases h
 | k::qs,[],vs,hl,r=>by rw[r.inv0] at hl;cases hl
 | k::qs,p::ps,vs,hl,r=>by
  obtain ⟨v,w,rfl,h1,h2⟩:=r.inv
  have ih:=look_rep (q:=q) (qs:=qs) (ps:=ps) (vs:=w) (by simpa using hl) h2
  rw[Yr,Xf]
  unfold lookP
  rw[keyP_kP]
  by_cases h:k=q
  ·subst h
   rw[if_pos rfl,Zcw (p:=(k,v)) rfl]
   exact ⟨fun z e=>by cases e;exact ⟨v,rfl,h1⟩,fun e=>nomatch e⟩
  ·rw[if_neg (fun e=>h (Yz e)),Zcx (p:=(k,v)) h]
   exact ih
theorem lies_key {K:W.Frag}{ι:List Addr}{H:Hp}{x:PV}{v:V}{q:Key}(l:Lies K ι H x v)(h:keyP x=some q):v=kV q:=by
 cases l<;>first | (cases h;rfl) | cases h
theorem liesD {K:W.Frag}{ι:List Addr}{H:Hp}{ks ps:List PV}{v:V}(l:Lies K ι H (.dct ks ps) v):∃(a:Addr) (qs:List Key) (vs:List V),v=.ref a/\ks=qs.map kP/\H a=some (.dK (qs.zip vs))/\qs.length=vs.length/\Reps K ι H ps vs:=by
 cases l;exact ⟨_,_,_,rfl,rfl,by assumption,by assumption,by assumption⟩
def rDGet:R2:=fun x y H Q=>∃a v,x=.ref a/\DGet H a y (some v)/\Q v H
theorem ix_dict (hu:X.A.units + 1 < cLine):IxR X rDGet:=by
 intro value slice pins s σ H x y v u Q I rx ry h hs
 obtain ⟨a,w,rfl,g,q⟩:=h
 cases rx
 exact tail_any (dict_typeIs I g) PySem.F.slot_dict_getitem.lookup (d_getItem hu I g ry fun w' s' I' r'=>⟨w,H,I',r',q⟩) hs
def ixQ (x y:PV):Option PV:=match x with
 | .dct ks vs=>match keyP y with
  | some q=>lookP ks vs q
  | none=>none
 | x=>ixP x y
theorem ixQ_ok:L2ok X.K (fun x y H Q=>rIx X.K x y H Q\/rDGet x y H Q) ixQ:=by
 intro ι H C p q vx vy z Q cr lx ly e k
 unfold ixQ at e
 split at e
 ·rename_i ks vs
  split at e
  ·rename_i key hk
   obtain ⟨a,qs,ws,rfl,rfl,hd,hl,r⟩:=liesD lx
   obtain ⟨v,hv,rv⟩:=(look_rep hl r).1 z e
   rw[lies_key ly hk]
   exact .inr ⟨a,v,rfl,by rw[←hv];exact DGet.k hd,k v H .refl cr rv⟩
  ·cases e
 ·exact .inl (ix_ok ι H C p q vx vy z Q cr lx ly e k)
theorem track {pins:List (Addr×Obj)}{σ:St}{H:Hp}{s:Shared}{d:Addr}{ob:HO}(I:Inv X pins σ H s)(hn:H d=none)(hd:X.s₀.heap.objs.size<=d)(hL:d≠X.env.locals)(hc:∀x c,X.env.cells.lookup x=some c->c≠d)
  (hp:∀p∈X.pn++pins,p.1≠d) (new:ObjOk X.prog X.w (upd H d ob) s.heap d ob):Inv X pins σ (upd H d ob) s:=by
 have u:=I.base
 refine ⟨I.ok,I.os,I.bare,⟨u.keep,u.slot,fun b o e q hx=>?_,u.there,fun b xs e=>?_,fun b o xs e=>?_,fun b ps e=>?_⟩,I.loc,I.cell,?_,fun x c e=>?_,fun p hp'=>?_,fun b o e=>?_,I.len⟩
 ·rw[Zas (YH (Yv (Yq e) hd))];exact u.free b o e q hx
 ·rw[Zas (Zao (u.tups b xs e) hn)];exact u.tups b xs e
 ·rw[Zas (Zao (u.frzs b o xs e) hn)];exact u.frzs b o xs e
 ·obtain ⟨more,q⟩:=u.tbls b ps e
  exact ⟨more,by rw[Zas (Zao q hn)];exact q⟩
 ·rw[Zas (XA hL)];exact I.free
 ·rw[Zas (hc x c e)];exact I.freeC x c e
 ·obtain ⟨h1,h2,h3⟩:=I.pin p hp'
  exact ⟨h1,by rw[Zas (hp p hp')];exact h2,h3⟩
 ·by_cases hb:b=d
  ·subst hb
   rw[Za0] at e;cases e;exact new
  ·rw[Zas hb] at e
   exact (I.hok b o e).stay (fun _ _ _ q=>q) (fun c q=>by rw[Zas (Zao q hn)];exact q) fun c xs q=>by rw[Zas (Zao q hn)];exact q
def PRel:List Str->List V->List (Value×Value)->Prop
 | [],[],[]=>True
 | k::ks,v::vs,(u,w)::r=>keyIs (.inr k) u=true/\RelV v w/\PRel ks vs r
 | _,_,_=>False
def DP (X:Cx)(ks:List (Option Expr))(es:List Expr)(keys:List Str)(t:TA):Prop:=
 ∀(pos:Pos) (pins:List (Addr×Obj)) (s:Shared) (σ:St) (H:Hp) (Q:List V->Hp->Prop),Inv X pins σ H s->t σ H Q->
  wpAny (model X.prog X.w) X.A (evalPairs (pairTrees ks es X.env pos)) (fun us s'=>∃vs H',Inv X pins σ H' s'/\PRel keys vs us/\Q vs H') X.xe s
def DM (X:Cx)(ks:List (Option Expr))(es:List Expr)(keys:List Str)(f:PSt->M (List SV)):Prop:=DP X ks es keys (tMA X.K f)
def mDict (keys:List Str)(fs:PSt->M (List SV)):PSt->M SV:=fun ρ=>bnd (fs ρ) fun xs=>opM fun _=>(plain xs).map fun ps=>.v (.dct (keys.map PV.str) ps)
end
structure TopD (K:W.Frag)(w:World)(d:Addr)(tab:List (Str×Addr)):Prop where
 ex:∃(es:Array We) (n:Nat),K.lookup d=some ⟨.type "dict",none,.dict es n,#[]⟩/\W.KeysLit w.params es.toList/\Paired (fun (p:Str×Addr) (e:We)=>Xz p.1 e.key=true/\e.val=.ref p.2) tab es.toList
 lo:(d==XC)=false
theorem isStrOf_iff {x y:Str}{v:Value}(h:Xz y v=true):Xz x v=decide (x=y):=by
 obtain ⟨t,rfl⟩:=Value.isStrOf_shape h
 by_cases e:x=y
 ·subst e;simp[Xz]
 ·have:¬(y=x):=fun z=>e z.symm
  simp[Xz,e,this]
theorem tab_find {x:Str}:∀{tab:List (Str×Addr)} {es:List We},Paired (fun (p:Str×Addr) (e:We)=>Xz p.1 e.key=true/\e.val=.ref p.2) tab es->
    (es.find? fun d=>Xz x d.key).map (·.val)=(tab.lookup x).map YY
  | _,_,.nil=>rfl
  | (k,f)::tab,e::es,.cons h t=>by
    have ih:=tab_find (x:=x) t
    rw[XY,Yj,isStrOf_iff h.1]
    by_cases hx:x=k
    · subst hx
      rw[decide_eq_true rfl,beq_self_eq_true]
      simp[h.2]
    · rw[decide_eq_false hx,beq_eq_false_iff_ne.mpr hx]
      exact ih
theorem TopD.map {K:W.Frag}{w:World}{d:Addr}{tab:List (Str×Addr)}(T:TopD K w d tab)(prog:Yo){h:Heap}(X:K.In h):h.MapOf (strKind prog w) d (fun k=>(tab.lookup k).map YY):=by
 obtain ⟨es,n,hl,hk,hp⟩:=T.ex
 have m:=W.mapOf_K (prog:=prog) X hl hk
 have e:(fun k=>findBy Xz es k)=fun k=>(tab.lookup k).map Value.ref:=by
  funext k
  rw[←tab_find hp]
  obtain ⟨l⟩:=es
  unfold findBy
  rw[List.find?_toArray]
 rw[←e];exact m
section
variable {X:Cx}{a b e c o i:Expr}{es:List Expr}{fa fb fc fo fi fv:PSt->M SV}{fs:PSt->M (List SV)}{pos p apos cpos p2:Pos}{x:Str}{d:Addr}{tab:List (Str×Addr)}
def topG (d:Addr)(tab:List (Str×Addr))(C:Cs)(x y:SV):Option SV:=match x,deref C y with
 | .v (.fn d'),some (.str k)=>if d'=d then (tab.lookup k).map fun f=>.v (.fn f) else none
 | _,_=>none
def topI (d:Addr)(tab:List (Str×Addr))(neg:Bool)(C:Cs)(x y:SV):Option SV:=match y,deref C x with
 | .v (.fn d'),some (.str k)=>if d'=d then some (.v (.bl (if neg then !(tab.lookup k).isSome else (tab.lookup k).isSome))) else none
 | _,_=>none
theorem ix_top (T:TopD X.K X.w d tab):IxR X (fun x y H Q=>∃k f,x=.ref d/\y=.str k/\tab.lookup k=some f/\Q (.ref f) H):=by
 intro value slice pins s σ H x y v u Q I rx ry h hs
 obtain ⟨k,f,rfl,rfl,hk,q⟩:=h
 cases rx
 obtain ⟨t,rfl⟩:=ry
 have m:=T.map X.prog I.kIn
 exact tail_any m.typeIs slot_dict_getitem.lookup (wpAny_getItem_of (strKind_is X.prog X.w k t) m (by rw[hk];rfl) ⟨.ref f,H,I.tok _,rfl,q⟩) hs
theorem topG_ok {K:W.Frag}:R2ok K (fun x y H Q=>∃k f,x=.ref d/\y=.str k/\tab.lookup k=some f/\Q (.ref f) H) (topG d tab):=by
 intro ι H C x y vx vy z Q cr rx ry e k
 unfold topG at e
 split at e
 ·rename_i d' key hy
  split at e
  ·rename_i hd
   subst hd
   cases hf:tab.lookup key with
   | none=>rw[hf] at e;cases e
   | some f=>
    rw[hf] at e
    cases e
    have rx:vx=.ref d':=by unfold RepS Rep at rx;exact rx
    obtain ⟨rfl,_⟩:=liesS (ry.lies cr hy)
    exact ⟨key,f,rx,rfl,hf,k _ H .refl cr (by unfold RepS Rep;rfl)⟩
  ·cases e
 ·cases e
theorem op_topin (T:TopD X.K X.w d tab):OpR X (YZ .In) (fun x y H Q=>∃k,y=.ref d/\x=.str k/\Q (.bl (tab.lookup k).isSome) H):=by
 intro pins s σ H x y v u Q I rx ry h
 obtain ⟨k,rfl,rfl,q⟩:=h
 cases ry
 obtain ⟨t,rfl⟩:=rx
 refine wpAny_in_of (strKind_is X.prog X.w k t) T.lo (T.map X.prog I.kIn) ?_
 rw[Vz]
 exact ⟨.bl _,H,I.tok _,rfl,q⟩
theorem op_topnotin (T:TopD X.K X.w d tab):OpR X (YZ .NotIn) (fun x y H Q=>∃k,y=.ref d/\x=.str k/\Q (.bl (!(tab.lookup k).isSome)) H):=by
 intro pins s σ H x y v u Q I rx ry h
 obtain ⟨k,rfl,rfl,q⟩:=h
 cases ry
 obtain ⟨t,rfl⟩:=rx
 refine wpAny_notIn_of (strKind_is X.prog X.w k t) T.lo (T.map X.prog I.kIn) ?_
 rw[Vz]
 exact ⟨.bl _,H,I.tok _,rfl,q⟩
theorem topI_ok {K:W.Frag}:R2ok K (fun x y H Q=>∃k,y=.ref d/\x=.str k/\Q (.bl (tab.lookup k).isSome) H) (topI d tab false):=by
 intro ι H C x y vx vy z Q cr rx ry e k
 unfold topI at e
 split at e
 ·rename_i d' key hy
  split at e
  ·rename_i hd
   subst hd
   cases e
   have ry:vy=.ref d':=by unfold RepS Rep at ry;exact ry
   obtain ⟨rfl,_⟩:=liesS (rx.lies cr hy)
   exact ⟨key,ry,rfl,k _ H .refl cr repB'⟩
  ·cases e
 ·cases e
theorem topI_okN {K:W.Frag}:R2ok K (fun x y H Q=>∃k,y=.ref d/\x=.str k/\Q (.bl (!(tab.lookup k).isSome)) H) (topI d tab true):=by
 intro ι H C x y vx vy z Q cr rx ry e k
 unfold topI at e
 split at e
 ·rename_i d' key hy
  split at e
  ·rename_i hd
   subst hd
   cases e
   have ry:vy=.ref d':=by unfold RepS Rep at ry;exact ry
   obtain ⟨rfl,_⟩:=liesS (rx.lies cr hy)
   exact ⟨key,ry,rfl,k _ H .refl cr repB'⟩
  ·cases e
 ·cases e
def callF (T:List (Addr×(List SV->M SV)))(f:SV)(xs:List SV):M SV:=fun C=>match f with
 | .v (.fn a)=>match T.lookup a with
  | some F=>F xs C
  | none=>none
 | _=>none
def mCallV (i:Nat)(T:List (Addr×(List SV->M SV)))(fs:PSt->M (List SV)):PSt->M SV:=fun ρ=>bnd (mVar i ρ) fun f=>bnd (fs ρ) fun xs=>callF T f xs
theorem callV_some {T:List (Addr×(List SV->M SV))}{f:SV}{xs:List SV}{C C2:Cs}{r:SV}(h:callF T f xs C=some (r,C2)):∃a F,f=.v (.fn a)/\T.lookup a=some F/\F xs C=some (r,C2):=by
 unfold callF at h
 split at h
 ·split at h
  ·exact ⟨_,_,rfl,by assumption,h⟩
  ·cases h
 ·cases h
theorem hv_of {T:List (Addr×(List SV->M SV))}{Pd:Addr->(List SV->M SV)->Prop}(h:∀q∈T,Pd q.1 q.2):∀a F,T.lookup a=some F->Pd a F:=fun a F e=>h (a,F) (Zbb e)
def mDict0:PSt->M SV:=fun _=>ret (.v (.dct [] []))
theorem ZbT {K:W.Frag}{x1 x2 q1 q2:Str}{s1 s2:Stmt}{f1 f2:Addr}{d1 d2:Ym}(F1:Fun K x1 q1 s1 f1 d1)(F2:Fun K x2 q2 s2 f2 d2)(h:x1≠x2):f1≠f2:=by
 obtain ⟨oc,od,kV,doc,pm,an,cdv,ct,osl,e1,l1,_⟩:=F1.ex
 obtain ⟨oc2,od2,kV2,doc2,pm2,an2,cdv2,ct2,osl2,e2,l2,_⟩:=F2.ex
 intro e
 subst e
 rw[l1] at l2
 injection l2 with l2
 injection l2 with _ _ l3 _
 injection l3 with l4
 rw[e1,e2] at l4
 exact h (congrArg FuncData.name l4)
end
structure NextAt (P:Yo)(w:World)(it:Addr)(us:List Addr)(R:Value->Prop)(st st':Heap->Prop):Prop where
 item:∀(A:Around) (E:Value->Shared->Prop) (s:Shared) (Q:Value->Shared->Prop),st s.heap->(∀u h' tk,R u->st' h'->Wr it s.heap h'->Q u { s with heap:=h',toks:=tk })->wpAny (model P w) A (YN (.ref it)) Q E s
 keep:∀h h':Heap,st h->(∀b∈us,∀o,h.get? b=some o->h'.get? b=some o)->st h'
 keep':∀h h':Heap,st' h->(∀b∈us,∀o,h.get? b=some o->h'.get? b=some o)->st' h'
structure EndAt (P:Yo)(w:World)(it:Addr)(us:List Addr)(st:Heap->Prop):Prop where
 done:∀(A:Around) (E:Value->Shared->Prop) (s:Shared) (Q:Value->Shared->Prop),A.handled=none->st s.heap->(∀h' e,W5 it s.heap h'->(∃o,h'.get? e=some o/\o.cls=.type "StopIteration")->E (.ref e) { s with heap:=h' })->wpAny (model P w) A (YN (.ref it)) Q E s
 keep:∀h h':Heap,st h->(∀b∈us,∀o,h.get? b=some o->h'.get? b=some o)->st h'
structure ZApart (z TI TO i1 i2:Addr)(us1 us2:List Addr):Prop where
 a1:TI≠z
 a2:TO≠z
 a3:i1≠z
 a4:i2≠z
 a5:TI≠TO
 a6:TI≠i1
 a7:TI≠i2
 a8:TO≠i1
 a9:TO≠i2
 b1:z∉us1
 b2:TO∉us1
 b3:i2∉us1
 c1:z∉us2
 c2:TO∉us2
 c3:i1∉us2
section
variable {P:Yo}{w:World}{A:Around}{E:Value->Shared->Prop}{s:Shared}{z TI TO i1 i2:Addr}{us1 us2:List Addr}{R1 R2:Value->Prop}{st1 st1' st2 st2':Heap->Prop}
theorem zip_item {a b:Value}{Q:Value->Shared->Prop}(D:ZApart z TI TO i1 i2 us1 us2)(N1:NextAt P w i1 us1 R1 st1 st1')(N2:NextAt P w i2 us2 R2 st2 st2')
  (hz:IsZip s.heap z TI TO .none) (hTI:IsPair s.heap TI (.ref i1) (.ref i2)) (hTO:IsPair s.heap TO a b) (h1:st1 s.heap) (h2:st2 s.heap)
  (hQ:∀x y h' tk,R1 x->R2 y->IsZip h' z TI TO (rawInt s.heap.objs.size)->IsPair h' TO x y->st1' h'->st2' h'->IsPair h' s.heap.objs.size x y->h'.objs.size=s.heap.objs.size + 1->
   (∀c o,c≠z->c≠TO->c≠i1->c≠i2->s.heap.get? c=some o->h'.get? c=some o)->Q (.ref s.heap.objs.size) { s with heap:=h',toks:=tk }):
  wpAny (model P w) A (VC.«zip.__next__» ⟨[.ref z],[]⟩) (fun fin s'=>∃v,fin=.done (.ret v)/\Q v s') E s:=by
 show wpAny _ _ (field (.ref z) 2 >>= _) _ _ _;refine Yc (Xn hz rfl (x:=.bool false) rfl ?_)
 show wpAny _ _ (field (.ref z) 3 >>= _) _ _ _;refine Yc (Xn hz rfl (x:=.ref TI) rfl ?_)
 refine Yc (XS hTI rfl ?_);show wpAny _ _ (Xj (.ref z) >>= _) _ _ _
 refine Yc ?_;unfold Xj
 refine Yc (Xn hz rfl (x:=.none) rfl (Yk ?_));simp only[if_true]
 refine Yc (wpAny_rule ?_);refine Yc (Xn hz rfl (x:=.ref TO) rfl ?_)
 refine Yc (XN hz (by simp) fun g1 hz1 hs1=>?_);replace hz1:IsZip g1 z TI TO .ellipsis:=hz1
 refine Yc ?_;simp only[List.zipIdx_cons,List.zipIdx_nil,VV,List.forIn_nil]
 refine Yc (Yc (VD ?_));show wpAny _ _ (YN (.ref i1) >>= _) _ _ _
 have k1:∀c o,c≠z->s.heap.get? c=some o->g1.get? c=some o:=fun c o n e=>hs1.extBut _ _ n e
 refine Yc (N1.item _ _ _ _ (N1.keep _ _ h1 fun b hb o e=>k1 b o (fun q=>D.b1 (q ▸ hb)) e) fun x g2 tk2 rx h1' hs2=>Yk ?_)
 have k2:∀c o,c≠z->c≠i1->s.heap.get? c=some o->g2.get? c=some o:=fun c o n1 n2 e=>hs2.extBut _ _ n2 (k1 c o n1 e)
 have hTO2:IsPair g2 TO a b:=k2 _ _ D.a2 D.a8 hTO
 refine Yc (XS hTO2 rfl ?_);refine Yc (Ve hTO2 fun g3 hTO3 hs3=>?_);replace hTO3:IsPair g3 TO x b:=hTO3
 have k3:∀c o,c≠z->c≠i1->c≠TO->s.heap.get? c=some o->g3.get? c=some o:=fun c o n1 n2 n3 e=>hs3.extBut _ _ n3 (k2 c o n1 n2 e)
 refine Yc (wpAny_letGo (Yk ?_));refine Yc (Yc (VD ?_));show wpAny _ _ (YN (.ref i2) >>= _) _ _ _
 refine Yc (N2.item _ _ _ _ (N2.keep _ _ h2 fun b hb o e=>k3 b o (fun q=>D.c1 (q ▸ hb)) (fun q=>D.c3 (q ▸ hb)) (fun q=>D.c2 (q ▸ hb)) e) fun y g4 tk4 ry h2' hs4=>Yk ?_)
 have hTO4:IsPair g4 TO x b:=hs4.extBut _ _ D.a9 hTO3
 refine Yc (XS hTO4 rfl ?_);refine Yc (Ve hTO4 fun g5 hTO5 hs5=>?_);replace hTO5:IsPair g5 TO x y:=hTO5
 refine Yc (wpAny_letGo (Yk (Yk ?_)));refine Yc (XS hTO5 rfl ?_);refine Yc (wpAny_newTuple ?_)
 have e1:=hs1.1;have e2:=hs2.1;have e3:=hs3.1;have e4:=hs4.1;have e5:=hs5.1
 have hsz:g5.objs.size=s.heap.objs.size:=by simp only at e2 e4;rw[e5,e4,e3,e2,e1]
 have k5:∀c o,c≠z->c≠TO->c≠i1->c≠i2->s.heap.get? c=some o->g5.get? c=some o:=fun c o n1 n2 n3 n4 e=>hs5.extBut _ _ n2 (hs4.extBut _ _ n4 (k3 c o n1 n3 n2 e))
 have hz5:IsZip g5 z TI TO .ellipsis:=hs5.extBut _ _ D.a2.symm (hs4.extBut _ _ D.a4.symm (hs3.extBut _ _ D.a2.symm (hs2.extBut _ _ D.a3.symm hz1)))
 have q1:st1' g5:=N1.keep' _ _ h1' fun b hb o e=>hs5.extBut _ _ (fun q=>D.b2 (q ▸ hb)) (hs4.extBut _ _ (fun q=>D.b3 (q ▸ hb)) (hs3.extBut _ _ (fun q=>D.b2 (q ▸ hb)) e))
 have q2:st2' g5:=N2.keep' _ _ h2' fun b hb o e=>hs5.extBut _ _ (fun q=>D.c2 (q ▸ hb)) e
 have ltz:z < g5.objs.size:=Yq hz5
 show wpAny _ _ (WB (.ref z) (.ref g5.objs.size) >>= _) _ _ _
 refine Yc ?_;unfold WB
 have hz6:IsZip (g5.push { cls:=.type "tuple",data:=.seq #[x,y] }) z TI TO .ellipsis:=Yb _ hz5
 refine Yc (XN hz6 (by simp) fun g7 hz7 hs7=>?_);replace hz7:IsZip g7 z TI TO (rawInt g5.objs.size):=hz7
 refine XN hz7 (by simp) fun g8 hz8 hs8=>?_;replace hz8:IsZip g8 z TI TO (rawInt g5.objs.size):=hz8
 have up:∀c o,c≠z->g5.get? c=some o->g8.get? c=some o:=fun c o n e=>hs8.extBut _ _ n (hs7.extBut _ _ n (Yb _ e))
 have hT8:IsPair g8 g5.objs.size x y:=hs8.extBut _ _ (Ws ltz) (hs7.extBut _ _ (Ws ltz) (Yh _ rfl))
 have sz8:g8.objs.size=g5.objs.size + 1:=by rw[hs8.1,hs7.1,Xu]
 rw[hsz] at hz8 hT8 sz8;refine Yk ⟨_,rfl,?_⟩;show Q (.ref g5.objs.size) _;rw[hsz]
 exact hQ x y g8 _ rx ry hz8 (up _ _ D.a2 hTO5) (N1.keep' _ _ q1 fun b hb o e=>up b o (fun q=>D.b1 (q ▸ hb)) e) (N2.keep' _ _ q2 fun b hb o e=>up b o (fun q=>D.c1 (q ▸ hb)) e) hT8 sz8 fun c o n1 n2 n3 n4 e=>up c o n1 (k5 c o n1 n2 n3 n4 e)
theorem zip_end {a b:Value}{Q:Fin->Shared->Prop}(hh:A.handled=none)(D:ZApart z TI TO i1 i2 us1 us2)
  (N:EndAt P w i1 us1 st1\/∃R1 st1',NextAt P w i1 us1 R1 st1 st1'/\EndAt P w i2 us2 st2)
  (hz:IsZip s.heap z TI TO .none) (hTI:IsPair s.heap TI (.ref i1) (.ref i2)) (hTO:IsPair s.heap TO a b) (h1:st1 s.heap) (h2:st2 s.heap)
  (hE:∀h' e tk,(∀c o,c≠z->c≠TO->c≠i1->c≠i2->s.heap.get? c=some o->h'.get? c=some o)->(∃o,h'.get? e=some o/\o.cls=.type "StopIteration")->E (.ref e) { s with heap:=h',toks:=tk }):
  wpAny (model P w) A (VC.«zip.__next__» ⟨[.ref z],[]⟩) Q E s:=by
 show wpAny _ _ (field (.ref z) 2 >>= _) _ _ _;refine Yc (Xn hz rfl (x:=.bool false) rfl ?_)
 show wpAny _ _ (field (.ref z) 3 >>= _) _ _ _;refine Yc (Xn hz rfl (x:=.ref TI) rfl ?_)
 refine Yc (XS hTI rfl ?_);show wpAny _ _ (Xj (.ref z) >>= _) _ _ _
 refine Yc ?_;unfold Xj
 refine Yc (Xn hz rfl (x:=.none) rfl (Yk ?_));simp only[if_true]
 refine Yc (wpAny_rule ?_);refine Yc (Xn hz rfl (x:=.ref TO) rfl ?_)
 refine Yc (XN hz (by simp) fun g1 hz1 hs1=>?_);replace hz1:IsZip g1 z TI TO .ellipsis:=hz1
 refine Yc ?_;simp only[List.zipIdx_cons,List.zipIdx_nil,VV,List.forIn_nil]
 refine Yc (Yc (VD ?_));show wpAny _ _ (YN (.ref i1) >>= _) _ _ _
 have k1:∀c o,c≠z->s.heap.get? c=some o->g1.get? c=some o:=fun c o n e=>hs1.extBut _ _ n e
 rcases N with N1 | ⟨R1,st1',N1,N2⟩
 ·refine Yc (N1.done _ _ _ _ hh (N1.keep _ _ h1 fun b hb o e=>k1 b o (fun q=>D.b1 (q ▸ hb)) e) fun g2 e hs2 he=>?_)
  obtain ⟨oe,hoe,hce⟩:=he
  have hz2:IsZip g2 z TI TO .ellipsis:=hs2 _ _ D.a3.symm hz1
  have hez:e≠z:=fun x=>by subst x;rw[hz2] at hoe;cases hoe;simp at hce
  refine XN hz2 (by simp) fun g3 _ hs3=>hE g3 e s.toks (fun c o n1 _ n3 _ x=>hs3.extBut _ _ n1 (hs2 _ _ n3 (k1 c o n1 x))) ⟨oe,hs3.extBut _ _ hez hoe,hce⟩
 ·refine Yc (N1.item _ _ _ _ (N1.keep _ _ h1 fun b hb o e=>k1 b o (fun q=>D.b1 (q ▸ hb)) e) fun x g2 tk2 rx h1' hs2=>Yk ?_)
  have k2:∀c o,c≠z->c≠i1->s.heap.get? c=some o->g2.get? c=some o:=fun c o n1 n2 e=>hs2.extBut _ _ n2 (k1 c o n1 e)
  have hTO2:IsPair g2 TO a b:=k2 _ _ D.a2 D.a8 hTO
  refine Yc (XS hTO2 rfl ?_);refine Yc (Ve hTO2 fun g3 hTO3 hs3=>?_);replace hTO3:IsPair g3 TO x b:=hTO3
  have k3:∀c o,c≠z->c≠i1->c≠TO->s.heap.get? c=some o->g3.get? c=some o:=fun c o n1 n2 n3 e=>hs3.extBut _ _ n3 (k2 c o n1 n2 e)
  refine Yc (wpAny_letGo (Yk ?_));refine Yc (Yc (VD ?_));show wpAny _ _ (YN (.ref i2) >>= _) _ _ _
  refine Yc (N2.done _ _ _ _ hh (N2.keep _ _ h2 fun b hb o e=>k3 b o (fun q=>D.c1 (q ▸ hb)) (fun q=>D.c3 (q ▸ hb)) (fun q=>D.c2 (q ▸ hb)) e) fun g4 e hs4 he=>?_)
  obtain ⟨oe,hoe,hce⟩:=he
  have hz4:IsZip g4 z TI TO .ellipsis:=hs4 _ _ D.a4.symm (hs3.extBut _ _ D.a2.symm (hs2.extBut _ _ D.a3.symm hz1))
  have hez:e≠z:=fun x=>by subst x;rw[hz4] at hoe;cases hoe;simp at hce
  refine XN hz4 (by simp) fun g5 _ hs5=>hE g5 e tk2 (fun c o n1 n2 n3 n4 x=>hs5.extBut _ _ n1 (hs4 _ _ n4 (k3 c o n1 n3 n2 x))) ⟨oe,hs5.extBut _ _ hez hoe,hce⟩
theorem zip_next {a b:Value}{Q:Option Value->Shared->Prop}(D:ZApart z TI TO i1 i2 us1 us2)(N1:NextAt P w i1 us1 R1 st1 st1')(N2:NextAt P w i2 us2 R2 st2 st2')
  (hz:IsZip s.heap z TI TO .none) (hTI:IsPair s.heap TI (.ref i1) (.ref i2)) (hTO:IsPair s.heap TO a b) (h1:st1 s.heap) (h2:st2 s.heap)
  (hQ:∀x y h' tk,R1 x->R2 y->IsZip h' z TI TO (rawInt s.heap.objs.size)->IsPair h' TO x y->st1' h'->st2' h'->IsPair h' s.heap.objs.size x y->h'.objs.size=s.heap.objs.size + 1->
   (∀c o,c≠z->c≠TO->c≠i1->c≠i2->s.heap.get? c=some o->h'.get? c=some o)->Q (some (.ref s.heap.objs.size)) { s with heap:=h',toks:=tk }):
  wpAny (model P w) A (pyNext (.ref z)) Q E s:=by
 have hT:s.TypeIs (.ref z) "zip":=⟨_,hz,rfl⟩
 unfold pyNext
 exact Yc (wpAny_attempt (Xa (name:=X1 "__next__") hT Ww (Xh Ww hT PySem.F.entry_zip_next
   (zip_item D N1 N2 hz hTI hTO h1 h2 fun x y h' tk a1 a2 a3 a4 a5 a6 a7 a8 a9=>Yk (hQ x y h' tk a1 a2 a3 a4 a5 a6 a7 a8 a9)) (PySem.F.args_zip_next_1 _))))
theorem zip_done {a b:Value}{Q:Option Value->Shared->Prop}(hh:A.handled=none)(D:ZApart z TI TO i1 i2 us1 us2)
  (N:EndAt P w i1 us1 st1\/∃R1 st1',NextAt P w i1 us1 R1 st1 st1'/\EndAt P w i2 us2 st2)
  (hz:IsZip s.heap z TI TO .none) (hTI:IsPair s.heap TI (.ref i1) (.ref i2)) (hTO:IsPair s.heap TO a b) (h1:st1 s.heap) (h2:st2 s.heap)
  (hQ:∀h' tk,(∀c o,c≠z->c≠TO->c≠i1->c≠i2->s.heap.get? c=some o->h'.get? c=some o)->Q none { s with heap:=h',toks:=tk }):wpAny (model P w) A (pyNext (.ref z)) Q E s:=by
 have hT:s.TypeIs (.ref z) "zip":=⟨_,hz,rfl⟩
 unfold pyNext
 refine Yc (wpAny_attempt (Xa (name:=X1 "__next__") hT Ww (Xh Ww hT PySem.F.entry_zip_next (zip_end hh D N hz hTI hTO h1 h2 fun h' e tk hk he=>?_) (PySem.F.args_zip_next_1 _))))
 obtain ⟨o,ho,hc⟩:=he
 exact Yc (wpAny_isInstance (T:="StopIteration") (b:=true) ⟨o,ho,hc⟩ isSubtype_stop (Yk (hQ _ _ hk)))
theorem tup_nextOf {it t:Addr}{i:Nat}{items:Array Value}{x:Value}{Q:Value->Shared->Prop}(hit:s.heap.IsTupleIter it t i)(ht:s.heap.IsTuple t items)(hx:items[i]? = some x)
  (hQ:∀h',h'.IsTupleIter it t (i + 1)->Wr it s.heap h'->Q x { s with heap:=h' }):wpAny (model P w) A (YN (.ref it)) Q E s:=by
 obtain ⟨o,ho,hc,hd⟩:=id hit;obtain ⟨ol,hol,_,nl,hdl⟩:=ht
 unfold YN
 refine Yc (Xa (name:=X1 "__next__") hit.typeIs Xp (Xh Xp hit.typeIs WQ ?_ (WG _)))
 show wpAny _ _ (field (.ref it) 0 >>= _) _ _ s;refine Yc (Xn ho hd (x:=.ref t) rfl ?_)
 show wpAny _ _ (if (YY t==Xk)=true then _ else _) _ _ s;rw[if_neg (show ¬((YY t==Xk)=true) from Yi)]
 show wpAny _ _ (field (.ref it) 1 >>= _) _ _ s;refine Yc (Xn ho hd (x:=.int i 0) rfl ?_)
 show wpAny _ _ (seqItems? (.ref t) >>= _) _ _ s;refine Yc (XS hol hdl ?_);simp only[W6,hx]
 refine Yc (Vy ho hd (by simp) (Yk ⟨x,rfl,Yk (hQ _ ?_ (Wb ..))⟩));exact ⟨_,Vb _ ho (Obj.isFreed_of_fields (WR hd _)),(Obj.cls_mapFields ..).trans hc,by rw[WR hd];simp[rawInt]⟩
theorem tup_nextEnd {it t:Addr}{i:Nat}{items:Array Value}{Q:Value->Shared->Prop}(hh:A.handled=none)(hit:s.heap.IsTupleIter it t i)(ht:s.heap.IsTuple t items)(hx:items[i]? = none)
  (hE:∀h' e,W5 it s.heap h'->(∃o,h'.get? e=some o/\o.cls=.type "StopIteration")->E (.ref e) { s with heap:=h' }):wpAny (model P w) A (YN (.ref it)) Q E s:=by
 obtain ⟨o,ho,hc,hd⟩:=id hit;obtain ⟨ol,hol,_,nl,hdl⟩:=ht
 unfold YN
 refine Yc (Xa (name:=X1 "__next__") hit.typeIs Xp (Xh Xp hit.typeIs WQ ?_ (WG _)))
 show wpAny _ _ (field (.ref it) 0 >>= _) _ _ s;refine Yc (Xn ho hd (x:=.ref t) rfl ?_)
 show wpAny _ _ (if (YY t==Xk)=true then _ else _) _ _ s;rw[if_neg (show ¬((YY t==Xk)=true) from Yi)]
 show wpAny _ _ (field (.ref it) 1 >>= _) _ _ s;refine Yc (Xn ho hd (x:=.int i 0) rfl ?_)
 show wpAny _ _ (seqItems? (.ref t) >>= _) _ _ s;refine Yc (XS hol hdl ?_);simp only[W6,hx]
 refine Yc (wpAny_rule (Yc (Vy ho hd (by simp) ?_)));show wpAny _ _ (newExc (.type "StopIteration") [] >>= _) _ _ _
 refine Yc ?_;simp only[newExc,newTuple];refine Yc (Xr ?_ (by size_fits))
 refine Yc (m:=firstArgMember _ _) (wpAny_of_eq (a:=Xk) (by first | rfl | (simp only[firstArgMember];rfl)) ?_);refine Xr ?_ (by size_fits)
 simp only[raiseNew];refine Yc (wpAny_handled ?_);first | rw[show A.in1.handled=none from hh] | rw[hh]
 refine Yc (Yk (wpAny_throw ?_));exact hE _ _ (((Wb ..).extBut.push _).push _) ⟨_,Yh _ rfl,rfl⟩
end
inductive ZS where
 | l (a:Addr) | t (a:Addr) | s (z:Str) (tk:Tok) (wd:Bool)
def ZS.at' (S:ZS)(it:Addr)(i:Nat)(h:Heap):Prop:=match S with
 | .l a=>h.IsListIter it a i
 | .t a=>h.IsTupleIter it a i
 | .s z tk wd=>h.IsStrIter it (if wd then "str_iterator" else "str_ascii_iterator") z tk i
def ZS.has (K:W.Frag)(H:Hp)(S:ZS)(i:Nat)(v:V):Prop:=match S with
 | .l a=>∃xs,SqL K H a xs/\xs[i]? = some v
 | .t a=>∃xs,SqT K H a xs/\xs[i]? = some v
 | .s z _ _=>∃c,z.cps[i]? = some c/\v=.str ⟨#[c]⟩
def ZS.ends (K:W.Frag)(H:Hp)(S:ZS)(i:Nat):Prop:=match S with
 | .l a=>∃xs,SqL K H a xs/\xs.length<=i
 | .t a=>∃xs,SqT K H a xs/\xs.length<=i
 | .s z _ _=>z.cps.size<=i
def ZS.us (S:ZS)(it:Addr):List Addr:=match S with
 | .l a=>[it,a]
 | .t a=>[it,a]
 | .s _ _ _=>[it]
theorem ZS.keepAt {S:ZS}{it:Addr}{i:Nat}{h h':Heap}(x:S.at' it i h)(k:∀o,h.get? it=some o->h'.get? it=some o):S.at' it i h':=by
 cases S with
 | l a=>exact Heap.IsListIter.at x k
 | t a=>exact Heap.IsTupleIter.at x k
 | s z tk wd=>obtain ⟨o,e,r⟩:=x;exact ⟨o,k o e,r⟩
section
variable {X:Cx}{pins:List (Addr×Obj)}{σ:St}{H:Hp}{s:Shared}
theorem next_of {S:ZS}{it:Addr}{i:Nat}{v:V}(I:Inv X pins σ H s)(hs:S.has X.K H i v)(ne:∀b∈S.us it,b=it\/b≠it)(hne:∀a,(S=.l a\/S=.t a)->a≠it):
  ∃st:Heap->Prop,(S.at' it i s.heap->st s.heap)/\NextAt X.prog X.w it (S.us it) (fun u=>RelV v u) st (fun h=>S.at' it (i + 1) h):=by
 cases S with
 | l a=>
  obtain ⟨xs,hq,hx⟩:=hs
  obtain ⟨its,rv,p,hz⟩:=I.list hq
  obtain ⟨u,hu,ru⟩:=rv.get hx
  refine ⟨fun h=>h.IsListIter it a i/\h.IsList a its.toArray,fun x=>⟨x,p.isList⟩,⟨fun A E s Q st hQ=>?_,fun h h' st k=>⟨st.1.at fun o e=>k it (by simp[ZS.us]) o e,st.2.at fun o e=>k a (by simp[ZS.us]) o e⟩,fun h h' st k=>Heap.IsListIter.at st fun o e=>k it (by simp[ZS.us]) o e⟩⟩
  exact wpAny_nextOf_list_item st.1 st.2 (x:=u) (by simpa using hu) fun h' a1 a2=>hQ u h' s.toks ru a1 a2
 | t a=>
  obtain ⟨xs,hq,hx⟩:=hs
  obtain ⟨its,rv,p,hz⟩:=I.tuple hq
  obtain ⟨u,hu,ru⟩:=rv.get hx
  refine ⟨fun h=>h.IsTupleIter it a i/\h.IsTuple a its.toArray,fun x=>⟨x,p⟩,⟨fun A E s Q st hQ=>?_,fun h h' st k=>⟨st.1.at fun o e=>k it (by simp[ZS.us]) o e,st.2.at fun o e=>k a (by simp[ZS.us]) o e⟩,fun h h' st k=>Heap.IsTupleIter.at st fun o e=>k it (by simp[ZS.us]) o e⟩⟩
  exact tup_nextOf st.1 st.2 (x:=u) (by simpa using hu) fun h' a1 a2=>hQ u h' s.toks ru a1 a2
 | s z tk wd=>
  obtain ⟨c,hc,rfl⟩:=hs
  refine ⟨fun h=>ZS.at' (.s z tk wd) it i h,fun x=>x,⟨fun A E s Q st hQ=>?_,fun h h' st k=>ZS.keepAt st fun o e=>k it (by simp[ZS.us]) o e,fun h h' st k=>ZS.keepAt (S:=.s z tk wd) st fun o e=>k it (by simp[ZS.us]) o e⟩⟩
  cases wd with
  | true=>exact wpAny_nextOf_wide_item st hc fun h' a1 a2=>hQ _ h' _ ⟨_,rfl⟩ a1 a2
  | false=>exact wpAny_nextOf_ascii_item st hc fun h' a1 a2=>hQ _ h' _ ⟨_,rfl⟩ a1 a2
theorem end_of {S:ZS}{it:Addr}{i:Nat}(I:Inv X pins σ H s)(hs:S.ends X.K H i):∃st:Heap->Prop,(S.at' it i s.heap->st s.heap)/\EndAt X.prog X.w it (S.us it) st:=by
 cases S with
 | l a=>
  obtain ⟨xs,hq,hx⟩:=hs
  obtain ⟨its,rv,p,hz⟩:=I.list hq
  have hl:=rv.length
  exact ⟨fun h=>h.IsListIter it a i/\h.IsList a its.toArray,fun x=>⟨x,p.isList⟩,⟨fun A E s Q hh st hE=>wpAny_nextOf_list_end hh st.1 st.2 (by simp;lia) hE,fun h h' st k=>⟨st.1.at fun o e=>k it (by simp[ZS.us]) o e,st.2.at fun o e=>k a (by simp[ZS.us]) o e⟩⟩⟩
 | t a=>
  obtain ⟨xs,hq,hx⟩:=hs
  obtain ⟨its,rv,p,hz⟩:=I.tuple hq
  have hl:=rv.length
  exact ⟨fun h=>h.IsTupleIter it a i/\h.IsTuple a its.toArray,fun x=>⟨x,p⟩,⟨fun A E s Q hh st hE=>tup_nextEnd hh st.1 st.2 (by simp;lia) hE,fun h h' st k=>⟨st.1.at fun o e=>k it (by simp[ZS.us]) o e,st.2.at fun o e=>k a (by simp[ZS.us]) o e⟩⟩⟩
 | s z tk wd=>
  refine ⟨fun h=>ZS.at' (.s z tk wd) it i h,fun x=>x,⟨fun A E s Q hh st hE=>?_,fun h h' st k=>ZS.keepAt st fun o e=>k it (by simp[ZS.us]) o e⟩⟩
  have hx:z.cps[i]? = none:=XF hs
  cases wd with
  | true=>exact wpAny_nextOf_wide_end hh st hx hE
  | false=>exact wpAny_nextOf_ascii_end hh st hx hE
end
def ZS.val:ZS->Value
 | .l a=>.ref a
 | .t a=>.ref a
 | .s z tk _=>.str z tk
def ZS.obj:ZS->Obj
 | .l a=>{ cls:=.type "list_iterator",data:=.fields #[.ref a,.int 0 0] }
 | .t a=>{ cls:=.type "tuple_iterator",data:=.fields #[.ref a,.int 0 0] }
 | .s z tk wd=>{ cls:=.type (if wd then "str_iterator" else "str_ascii_iterator"),data:=.fields #[.str z tk,.int 0 0] }
def ZS.src (S:ZS)(h:Heap):Prop:=match S with
 | .l a=>∃its,h.IsList a its
 | .t a=>∃its,h.IsTuple a its
 | .s z _ wd=>wd=!(z.cps.all (· < 128))
theorem ZS.src_push {S:ZS}{h:Heap}(x:S.src h)(o:Obj):S.src (h.push o):=by
 cases S with
 | l a=>obtain ⟨its,e⟩:=x;exact ⟨its,Heap.IsList.push e _⟩
 | t a=>obtain ⟨its,e⟩:=x;exact ⟨its,Heap.IsTuple.at e fun o e=>Yb _ e⟩
 | s z tk wd=>exact x
theorem ZS.iter {S:ZS}{P:Yo}{w:World}{A:Around}{E:Value->Shared->Prop}{s:Shared}{Q:Value->Shared->Prop}(x:S.src s.heap)(hQ:Q (.ref s.heap.objs.size) { s with heap:=s.heap.push S.obj }):
  wpAny (model P w) A (pyIter S.val) Q E s:=by
 cases S with
 | l a=>obtain ⟨its,e⟩:=x;exact W4 e hQ
 | t a=>obtain ⟨its,e⟩:=x;exact wpAny_pyIter_tuple e hQ
 | s z tk wd=>
  cases ha:z.cps.all (· < 128) with
  | true=>
   have:wd=false:=by rw[show wd=!(z.cps.all (· < 128)) from x,ha];rfl
   subst this
   exact wpAny_pyIter_ascii ha hQ
  | false=>
   have:wd=true:=by rw[show wd=!(z.cps.all (· < 128)) from x,ha];rfl
   subst this
   exact wpAny_pyIter_wide ha hQ
abbrev zH3 (h:Heap)(S1 S2:ZS):Heap:=((h.push S1.obj).push S2.obj).push { cls:=.type "tuple",data:=.seq #[.ref h.objs.size,.ref (h.push S1.obj).objs.size] }
abbrev zH4 (h:Heap)(S1 S2:ZS):Heap:=(zH3 h S1 S2).push { cls:=.type "tuple",data:=.seq #[.none,.none] }
abbrev zH5 (h:Heap)(S1 S2:ZS):Heap:=(zH4 h S1 S2).push { cls:=.type "zip",data:=.fields #[.none,.bool false,.bool false,.ref ((h.push S1.obj).push S2.obj).objs.size,.ref (zH3 h S1 S2).objs.size] }
theorem zip_new (S1 S2:ZS):Meets (VC.«zip.__new__» ⟨[.type "zip",S1.val,S2.val],[]⟩) (fun _ R s=>S1.src s.heap/\S2.src s.heap/\R (.ok (.ret (.ref (zH4 s.heap S1 S2).objs.size))) { s with heap:=zH5 s.heap S1 S2 }):=
 .of_wp fun prog w A R ⟨hp,g,d,tk,os⟩ ⟨hl1,hl2,h⟩=>by
  have below:=sub_zip
  have hL1:S1.src (Shared.heap ⟨hp,g,d,tk,os⟩):=hl1
  have hL2:S2.src (Shared.heap ⟨hp.push S1.obj,g,d,tk,os⟩):=ZS.src_push hl2 _
  wp_walk using ZS.iter hL1,ZS.iter hL2
  exact ⟨_,rfl,h⟩
section
variable {X:Cx}{pins:List (Addr×Obj)}{σ:St}{H:Hp}{s:Shared}
theorem turnedL {t':Nat}{h':Heap}{ch:List Addr}(I:Inv X pins σ H s)(k:∀b o,b∉ch->s.heap.get? b=some o->h'.get? b=some o)(hf:∀b∈ch,FpOk X pins H b):Inv X pins σ H { s with heap:=h',toks:=t' }:=by
 have nit:∀b u,H b=some u->b∉ch:=fun b u e z=>by rw[(hf b z).1] at e;cases e
 refine I.step (g':=s.gens) (d':=s.drawn) (ch:=ch) (fun b hb=>⟨(hf b hb).2.2.2.1,(hf b hb).2.1,(hf b hb).2.2.2.2.1,(hf b hb).2.2.2.2.2⟩) (fun b o _ _ hc e _=>k b o hc e) (fun b o _ _ hc e _=>⟨o.slots,k b o hc e⟩) (fun _ _ _ _ n=>n)
  (fun b o hc e=>⟨o,k b o hc e⟩) (fun _ _ e=>e) (fun _ _ _ e=>e) (fun b ps e=>⟨#[],by rw[e];simp⟩) (fun m hm=>?_) (fun b u e=>?_) I.bare
 ·obtain ⟨o,es,ep,ho,r⟩:=hm
  exact ⟨o,es,ep,k _ o (fun z=>(hf _ z).2.1 rfl) ho,r⟩
 ·refine (I.hok b u e).stay (fun c v hc q=>k c v ?_ q) (fun _ q=>q) fun _ _ q=>q
  rcases hc with z | z
  ·rw[z];exact nit b u e
  ·exact nit c _ z
theorem ZcC {a b:Addr}{xs:List V}(I:Inv X pins σ H s)(h:SqL X.K H a xs)(f:FpOk X pins H b):a≠b:=by
 rintro rfl
 rcases h with (h | ⟨o,h⟩) | ⟨o,its,n,hk,_⟩
 ·rw[f.1] at h;cases h
 ·rw[f.1] at h;cases h
 ·have hb:=I.ok.mod.kin _ _ hk
  rcases f.2.2.2.1 with z | z
  ·exact I.ok.noex _ _ hb z
  ·exact absurd (Yv (Yq hb) (YB I.ok.bsz z)) (Xs _)
theorem ZcB {a b:Addr}{xs:List V}(I:Inv X pins σ H s)(h:SqT X.K H a xs)(f:FpOk X pins H b):a≠b:=by
 rintro rfl
 rcases h with (h | ⟨o,h⟩) | ⟨o,its,n,hk,_⟩
 ·rw[f.1] at h;cases h
 ·rw[f.1] at h;cases h
 ·have hb:=I.ok.mod.kin _ _ hk
  rcases f.2.2.2.1 with z | z
  ·exact I.ok.noex _ _ hb z
  ·exact absurd (Yv (Yq hb) (YB I.ok.bsz z)) (Xs _)
def ZS.rd (S:ZS)(K:W.Frag)(H:Hp):Prop:=match S with
 | .l a=>∃xs,SqL K H a xs
 | .t a=>∃xs,SqT K H a xs
 | .s _ _ _=>True
theorem Zct {S:ZS}{it b:Addr}(I:Inv X pins σ H s)(r:S.rd X.K H)(f:FpOk X pins H b)(hb:it≠b):b∉S.us it:=by
 cases S with
 | l a=>
  obtain ⟨xs,h⟩:=r
  intro z
  rcases Ye.mp z with z | z
  ·exact hb z.symm
  ·exact ZcC I h f (Xe.mp z).symm
 | t a=>
  obtain ⟨xs,h⟩:=r
  intro z
  rcases Ye.mp z with z | z
  ·exact hb z.symm
  ·exact ZcB I h f (Xe.mp z).symm
 | s z tk wd=>
  intro q
  exact hb (Xe.mp q).symm
theorem has_inj {S:ZS}{i:Nat}{u v:V}(I:Inv X pins σ H s)(h:S.has X.K H i u)(h':S.has X.K H i v):u=v:=by
 cases S with
 | l a=>
  obtain ⟨xs,h1,h2⟩:=h
  obtain ⟨ys,h3,h4⟩:=h'
  rw[I.list_inj h1 h3,h4] at h2
  exact (Yz h2).symm
 | t a=>
  obtain ⟨xs,h1,h2⟩:=h
  obtain ⟨ys,h3,h4⟩:=h'
  rw[I.tuple_inj h1 h3,h4] at h2
  exact (Yz h2).symm
 | s z tk wd=>
  obtain ⟨c,h1,rfl⟩:=h
  obtain ⟨d,h2,rfl⟩:=h'
  rw[h1] at h2
  cases h2;rfl
theorem ZS.has_rd {S:ZS}{K:W.Frag}{i:Nat}{v:V}(h:S.has K H i v):S.rd K H:=by
 cases S with
 | l a=>obtain ⟨xs,h,_⟩:=h;exact ⟨xs,h⟩
 | t a=>obtain ⟨xs,h,_⟩:=h;exact ⟨xs,h⟩
 | s z tk wd=>trivial
end
structure ZNe (z TI TO i1 i2:Addr):Prop where
 a1:TI≠z
 a2:TO≠z
 a3:i1≠z
 a4:i2≠z
 a5:TI≠TO
 a6:TI≠i1
 a7:TI≠i2
 a8:TO≠i1
 a9:TO≠i2
 a10:i1≠i2
theorem zne (n:Nat):ZNe (n + 4) (n + 2) (n + 3) n (n + 1):=by
 have h:∀a b:Nat,a≠b->n + a≠n + b:=fun a b h e=>h (Nat.add_left_cancel e)
 exact ⟨h 2 4 (by decide),h 3 4 (by decide),h 0 4 (by decide),h 1 4 (by decide),h 2 3 (by decide),h 2 0 (by decide),h 2 1 (by decide),h 3 0 (by decide),h 3 1 (by decide),h 0 1 (by decide)⟩
def Jz (K:W.Frag)(S1 S2:ZS):It:=⟨fun i H=>(∃v,S1.has K H i v)/\∃v,S2.has K H i v,fun i H x H'=>∃a u v,H a=none/\x=.ref a/\H'=upd H a (.tup [u,v])/\(∀u',S1.has K H i u'->u'=u)/\∀v',S2.has K H i v'->v'=v,
 fun i H=>S1.rd K H/\S2.rd K H/\(S1.ends K H i\/((∃v,S1.has K H i v)/\S2.ends K H i))⟩
theorem turn_zip {P:Yo}{w:World}{K:W.Frag}{elts:List Expr}{x1:Nat}{pos:Pos}{S1 S2:ZS}{z TI TO i1 i2:Addr}(N:ZNe z TI TO i1 i2):Turn P w K (.Tuple elts x1 pos) (Jz K S1 S2) [z,TI,TO,i1,i2] z
  (fun i h=>IsZip h z TI TO .none/\IsPair h TI (.ref i1) (.ref i2)/\(∃a b,IsPair h TO a b)/\S1.at' i1 i h/\S2.at' i2 i h) where
 mem:=by simp
 obj:=fun i h st b hb=>by
  obtain ⟨hz,hTI,⟨a,c,hTO⟩,h1,h2⟩:=st
  have it:∀{S:ZS} {it:Addr},S.at' it i h->∃o,h.get? it=some o/\∀v,o.data≠.cell v:=fun {S it} x=>by
   cases S with
   | l a=>obtain ⟨o,e,_,d⟩:=x;exact ⟨o,e,fun v q=>by rw[d] at q;cases q⟩
   | t a=>obtain ⟨o,e,_,d⟩:=x;exact ⟨o,e,fun v q=>by rw[d] at q;cases q⟩
   | s z tk wd=>obtain ⟨o,e,_,d⟩:=x;exact ⟨o,e,fun v q=>by rw[d] at q;cases q⟩
  simp only[Ye,Yt,or_false] at hb
  rcases hb with rfl | rfl | rfl | rfl | rfl
  ·exact ⟨_,hz,fun v q=>by cases q⟩
  ·exact ⟨_,hTI,fun v q=>by cases q⟩
  ·exact ⟨_,hTO,fun v q=>by cases q⟩
  ·exact it h1
  ·exact it h2
 keep:=fun i h h' st k=>by
  obtain ⟨hz,hTI,⟨a,c,hTO⟩,h1,h2⟩:=st
  exact ⟨k z (by simp) _ hz,k TI (by simp) _ hTI,⟨a,c,k TO (by simp) _ hTO⟩,ZS.keepAt h1 fun o e=>k i1 (by simp) o e,ZS.keepAt h2 fun o e=>k i2 (by simp) o e⟩
 item:=by
  intro X hP hw hK hc i pins s σ H E I hf st hg
  subst hP hw hK
  obtain ⟨hz,hTI,⟨a,c,hTO⟩,h1,h2⟩:=st
  obtain ⟨⟨v1,g1⟩,⟨v2,g2⟩⟩:=hg
  have f:=fun b hb=>hf b hb
  obtain ⟨st1,e1,N1⟩:=next_of (it:=i1) I g1 (fun b _=>Classical.em _) (fun a ha=>by rcases ha with rfl | rfl;exact ZcC I g1.choose_spec.1 (f i1 (by simp));exact ZcB I g1.choose_spec.1 (f i1 (by simp)))
  obtain ⟨st2,e2,N2⟩:=next_of (it:=i2) I g2 (fun b _=>Classical.em _) (fun a ha=>by rcases ha with rfl | rfl;exact ZcC I g2.choose_spec.1 (f i2 (by simp));exact ZcB I g2.choose_spec.1 (f i2 (by simp)))
  have D:ZApart z TI TO i1 i2 (S1.us i1) (S2.us i2):=⟨N.a1,N.a2,N.a3,N.a4,N.a5,N.a6,N.a7,N.a8,N.a9,Zct I (ZS.has_rd g1) (f z (by simp)) N.a3,Zct I (ZS.has_rd g1) (f TO (by simp)) N.a8.symm,Zct I (ZS.has_rd g1) (f i2 (by simp)) N.a10,
   Zct I (ZS.has_rd g2) (f z (by simp)) N.a4,Zct I (ZS.has_rd g2) (f TO (by simp)) N.a9.symm,Zct I (ZS.has_rd g2) (f i1 (by simp)) N.a10.symm⟩
  refine zip_next D N1 N2 hz hTI hTO (e1 h1) (e2 h2) fun x y h' tk rx ry a1 a2 a3 a4 a5 a6 a7=>⟨_,rfl,?_⟩
  refine wpAny_letOwnedTupleGo_zip (s:={ s with heap:=h',toks:=tk }) a1 fun h3 hz3 sb=>?_
  have hlt:∀{b o},s.heap.get? b=some o->b≠s.heap.objs.size:=fun e=>YH (Yq e)
  have J1:Inv X pins σ H { s with heap:=h3,toks:=tk }:=turnedL (ch:=[z,TI,TO,i1,i2]) I (fun b o hb e=>by
   simp only[Ye,Yt,or_false,not_or] at hb
   exact sb.extBut _ _ hb.1 (a7 b o hb.1 hb.2.2.1 hb.2.2.2.1 hb.2.2.2.2 e)) hf
  have hn:H s.heap.objs.size=none:=I.hok.fresh (Yx _)
  have ltz:=hlt hz
  have hT:IsPair h3 s.heap.objs.size x y:=sb.extBut _ _ ltz.symm a5
  have J2:=track (ob:=.tup [v1,v2]) J1 hn I.sz (Ws I.lt) (fun x c e=>by obtain ⟨v,q⟩:=I.cell x c e;exact YH q.lt) (fun p hp=>hlt (I.pin p hp).1)
   ⟨by show 2<=Yn;rw[YE];decide,[x,y],.cons rx (.cons ry .nil),⟨_,hT,rfl,_,rfl⟩⟩
  refine ⟨.ref s.heap.objs.size,_,J2,rfl,⟨_,v1,v2,hn,rfl,rfl,fun u' q=>has_inj I q g1,fun u' q=>has_inj I q g2⟩,⟨hz3,sb.extBut _ _ N.a1 (a7 TI _ N.a1 N.a5 N.a6 N.a7 hTI),⟨_,_,sb.extBut _ _ N.a2 a2⟩,ZS.keepAt a3 fun o e=>sb.extBut _ _ N.a3 e,ZS.keepAt a4 fun o e=>sb.extBut _ _ N.a4 e⟩,fun b hb=>?_⟩
  have hb':b≠s.heap.objs.size:=by
   simp only[Ye,Yt,or_false] at hb
   have it:∀{S:ZS} {it:Addr},S.at' it i s.heap->it≠s.heap.objs.size:=fun {S it} x=>by
    cases S with
    | l a=>obtain ⟨o,e,_⟩:=x;exact hlt e
    | t a=>obtain ⟨o,e,_⟩:=x;exact hlt e
    | s z tk wd=>obtain ⟨o,e,_⟩:=x;exact hlt e
   rcases hb with rfl | rfl | rfl | rfl | rfl
   ·exact hlt hz
   ·exact hlt hTI
   ·exact hlt hTO
   ·exact it h1
   ·exact it h2
  rw[Zas hb'];exact (hf b hb).1
 done:=by
  intro X hP hw hK hc i pins s σ H E I hf st hg
  subst hP hw hK
  obtain ⟨hz,hTI,⟨a,c,hTO⟩,h1,h2⟩:=st
  obtain ⟨r1,r2,hg⟩:=hg
  have f:=fun b hb=>hf b hb
  have D:ZApart z TI TO i1 i2 (S1.us i1) (S2.us i2):=⟨N.a1,N.a2,N.a3,N.a4,N.a5,N.a6,N.a7,N.a8,N.a9,Zct I r1 (f z (by simp)) N.a3,Zct I r1 (f TO (by simp)) N.a8.symm,Zct I r1 (f i2 (by simp)) N.a10,
   Zct I r2 (f z (by simp)) N.a4,Zct I r2 (f TO (by simp)) N.a9.symm,Zct I r2 (f i1 (by simp)) N.a10.symm⟩
  have fin:∀h' tk,(∀c o,c≠z->c≠TO->c≠i1->c≠i2->s.heap.get? c=some o->h'.get? c=some o)->(none:Option Value)=none/\Inv X pins σ H { s with heap:=h',toks:=tk }:=fun h' tk k=>⟨rfl,turnedL (ch:=[z,TI,TO,i1,i2]) I (fun b o hb e=>by
   simp only[Ye,Yt,or_false,not_or] at hb
   exact k b o hb.1 hb.2.2.1 hb.2.2.2.1 hb.2.2.2.2 e) hf⟩
  rcases hg with g1 | ⟨⟨v1,g1⟩,g2⟩
  ·obtain ⟨st1,e1,N1⟩:=end_of (it:=i1) I g1
   exact zip_done (st2:=fun _=>True) (I.ok.hd hc) D (.inl N1) hz hTI hTO (e1 h1) trivial fin
  ·obtain ⟨st1,e1,N1⟩:=next_of (it:=i1) I g1 (fun b _=>Classical.em _) (fun a ha=>by rcases ha with rfl | rfl;exact ZcC I g1.choose_spec.1 (f i1 (by simp));exact ZcB I g1.choose_spec.1 (f i1 (by simp)))
   obtain ⟨st2,e2,N2⟩:=end_of (it:=i2) I g2
   exact zip_done (I.ok.hd hc) D (.inr ⟨_,_,N1,N2⟩) hz hTI hTO (e1 h1) (e2 h2) fin
 self:=fun _ _ _ _ _ st h=>VJ st.1 h
structure ZSrc (K:W.Frag)(ι:List Addr)(H:Hp)(S:ZS)(ps:List PV):Prop where
 rd:∀ι2 H2,Ex ι ι2 H H2->S.rd K H2
 has:∀ι2 H2,Ex ι ι2 H H2->∀i p,ps[i]? = some p->∃v,S.has K H2 i v/\Rep K (ι++ι2) H2 p v
 ends:∀ι2 H2,Ex ι ι2 H H2->∀i,ps.length<=i->S.ends K H2 i
section
variable {X:Cx}{pins:List (Addr×Obj)}{σ:St}{H:Hp}{s:Shared}
theorem src_of {ι:List Addr}{C:Cs}{x:SV}{ps:List PV}{v:V}{u:Value}(I:Inv X pins σ H s)(cr:CR X.K ι H C)(r:RepS X.K ι H x v)(e:itemsP x=some ps)(ru:RelV v u):∃S:ZS,u=S.val/\S.src s.heap/\ZSrc X.K ι H S ps:=by
 unfold itemsP at e
 split at e
 ·cases e
  replace r:Rep X.K ι H (.lst _) v:=r
  unfold Rep at r
  obtain ⟨a,vs,rfl,hq,rv⟩:=r
  obtain ⟨its,_,p,_⟩:=I.list hq.sq
  have keep:∀ι2 H2,Ex ι ι2 H H2->SqL X.K H2 a vs:=fun ι2 H2 x=>by
   rcases hq with ⟨n,q | ⟨o,q⟩⟩ | q
   ·exact .inl (.inl (x.out _ _ n q).2)
   ·exact .inl (.inr ⟨o,(x.out _ _ n q).2⟩)
   ·exact .inr q
  refine ⟨.l a,ru,⟨_,p.isList⟩,fun ι2 H2 x=>⟨vs,keep ι2 H2 x⟩,fun ι2 H2 x i p hp=>?_,fun ι2 H2 x i hi=>⟨vs,keep ι2 H2 x,by rw[←rv.length];exact hi⟩⟩
  obtain ⟨w,e1,r1⟩:=rv.get hp
  exact ⟨w,⟨vs,keep ι2 H2 x,e1⟩,Rep.tr cr x.out p w r1⟩
 ·cases e
  replace r:Rep X.K ι H (.tup _) v:=r
  unfold Rep at r
  obtain ⟨a,vs,rfl,hq,rv⟩:=r
  obtain ⟨its,_,p,_⟩:=I.tuple hq.sq
  have keep:∀ι2 H2,Ex ι ι2 H H2->SqT X.K H2 a vs:=fun ι2 H2 x=>by
   rcases hq.sq (K:=X.K) with (q | ⟨o,q⟩) | q
   ·exact .inl (.inl (x.out _ _ (cr.notup q (fun _ e=>nomatch e) fun _ e=>nomatch e) q).2)
   ·exact .inl (.inr ⟨o,(x.out _ _ (cr.notup q (fun _ e=>nomatch e) fun _ e=>nomatch e) q).2⟩)
   ·exact .inr q
  refine ⟨.t a,ru,⟨_,p⟩,fun ι2 H2 x=>⟨vs,keep ι2 H2 x⟩,fun ι2 H2 x i p hp=>?_,fun ι2 H2 x i hi=>⟨vs,keep ι2 H2 x,by rw[←rv.length];exact hi⟩⟩
  obtain ⟨w,e1,r1⟩:=rv.get hp
  exact ⟨w,⟨vs,keep ι2 H2 x,e1⟩,Rep.tr cr x.out p w r1⟩
 ·cases e
  rename Str=>z
  replace r:Rep X.K ι H (.str z) v:=r
  unfold Rep at r
  obtain ⟨rfl,hz⟩:=r
  obtain ⟨t,rfl⟩:=ru
  refine ⟨.s z t (!(z.cps.all (· < 128))),rfl,rfl,fun _ _ _=>trivial,fun ι2 H2 x i p hp=>?_,fun ι2 H2 x i hi=>by show z.cps.size<=i;simpa using hi⟩
  rw[YK] at hp
  cases hc:z.cps.toList[i]? with
  | none=>rw[hc] at hp;cases hp
  | some d=>
   rw[hc] at hp;cases hp
   exact ⟨.str ⟨#[d]⟩,⟨d,by simpa using hc,rfl⟩,repS (by show 1<=Yn;rw[YE];decide)⟩
 ·cases e
theorem iter_zip {K:W.Frag}{ι:List Addr}{S1 S2:ZS}{ps qs:List PV}(Z1:ZSrc K ι H S1 ps)(Z2:ZSrc K ι H S2 qs):Iter K ι H (Xo (fun a b=>.tup [a,b]) ps qs) (Jz K S1 S2):=by
 have hl:(Xo (fun a b=>PV.tup [a,b]) ps qs).length=min ps.length qs.length:=by simp
 refine ⟨fun ι2 H2 C2 x c i hi=>?_,fun ι2 H2 C2 x c i v H3 hi y=>?_,fun ι2 H2 C2 x c=>?_⟩
 ·rw[hl] at hi
  have h1:i < ps.length:=by lia
  have h2:i < qs.length:=by lia
  obtain ⟨v,g1,_⟩:=Z1.has ι2 H2 x i _ (Yd h1)
  obtain ⟨u,g2,_⟩:=Z2.has ι2 H2 x i _ (Yd h2)
  exact ⟨⟨v,g1⟩,⟨u,g2⟩⟩
 ·rw[hl] at hi
  have h1:i < ps.length:=by lia
  have h2:i < qs.length:=by lia
  obtain ⟨v1,g1,r1⟩:=Z1.has ι2 H2 x i _ (Yd h1)
  obtain ⟨v2,g2,r2⟩:=Z2.has ι2 H2 x i _ (Yd h2)
  obtain ⟨a,u,w,hn,rfl,rfl,e1,e2⟩:=y
  rw[←e1 v1 g1,←e2 v2 g2]
  refine ⟨fun b o e=>by rw[Zas (Zao e hn)];exact e,.tup [ps[i],qs[i]],?_,Zck hn (.cons r1 (.cons r2 .nil))⟩
  rw[List.getElem?_zipWith,Yd h1,Yd h2]
 ·refine ⟨Z1.rd ι2 H2 x,Z2.rd ι2 H2 x,?_⟩
  rw[hl]
  rcases Nat.le_total ps.length qs.length with h | h
  ·exact .inl (Z1.ends ι2 H2 x _ (by lia))
  ·by_cases he:ps.length<=qs.length
   ·exact .inl (Z1.ends ι2 H2 x _ (by lia))
   ·right
    have h1:min ps.length qs.length < ps.length:=by lia
    obtain ⟨v,g1,_⟩:=Z1.has ι2 H2 x _ _ (Yd h1)
    exact ⟨⟨v,g1⟩,Z2.ends ι2 H2 x _ (by lia)⟩
end
def zipP:List SV->Option (List PV)
 | [x,y]=>match itemsP x,itemsP y with
  | some ps,some qs=>some (Xo (fun a b=>.tup [a,b]) ps qs)
  | _,_=>none
 | _=>none
theorem zipP_some {xs:List SV}{ys:List PV}(h:zipP xs=some ys):∃x y ps qs,xs=[x,y]/\itemsP x=some ps/\itemsP y=some qs/\ys=Xo (fun a b=>.tup [a,b]) ps qs:=by
 unfold zipP at h
 split at h
 ·split at h
  ·cases h;exact ⟨_,_,_,_,rfl,by assumption,by assumption,rfl⟩
  ·cases h
 ·cases h
def mZip (fs:PSt->M (List SV)):PSt->M (List PV):=fun ρ=>bnd (fs ρ) fun xs=>opM fun _=>zipP xs
mutual
def HRep (h:Heap):PV->Value->Prop
 | .non,u=>u=.none
 | .bl b,u=>u=.bool b
 | .int i,u=>∃t,u=.int i t
 | .str x,u=>∃t,u=.str x t
 | .tup ps,u=>∃(a:Addr) (us:List Value),u=.ref a/\h.IsTuple a us.toArray/\HReps h ps us
 | .lst ps,u=>∃(a:Addr) (us:List Value),u=.ref a/\h.IsList a us.toArray/\HReps h ps us
 | _,_=>False
def HReps (h:Heap):List PV->List Value->Prop
 | [],us=>us=[]
 | p::ps,us=>∃v r,us=v::r/\HRep h p v/\HReps h ps r
end
mutual
def dat:PV->Bool
 | .tup ps=>dats ps
 | .lst ps=>dats ps
 | .dct _ _=>false
 | .dtt _ _=>false
 | .fn _=>false
 | .ty _=>false
 | _=>true
def dats:List PV->Bool
 | []=>true
 | p::ps=>dat p&&dats ps
end
mutual
def dep:PV->Nat
 | .tup ps=>deps ps + 1
 | .lst ps=>deps ps + 1
 | _=>0
def deps:List PV->Nat
 | []=>0
 | p::ps=>max (dep p) (deps ps)
end
mutual
theorem Rep.heap {X:Cx}{pins:List (Addr×Obj)}{σ:St}{H:Hp}{s:Shared}{ι:List Addr}(I:Inv X pins σ H s):∀(p:PV) {v:V} {u:Value},Rep X.K ι H p v->RelV v u->dat p=true->HRep s.heap p u
 | .non,v,u,h,r,_=>by unfold Rep at h;subst h;unfold HRep;exact r
 | .bl b,v,u,h,r,_=>by unfold Rep at h;subst h;unfold HRep;exact r
 | .int i,v,u,h,r,_=>by unfold Rep at h;subst h;unfold HRep;exact r
 | .str x,v,u,h,r,_=>by unfold Rep at h;obtain ⟨rfl,h⟩:=h;unfold HRep;exact r
 | .tup ps,v,u,h,r,d=>by
  unfold Rep at h;obtain ⟨a,vs,rfl,h,rs⟩:=h
  cases r
  obtain ⟨its,r',pl,hz⟩:=I.tuple h.sq
  unfold HRep
  unfold dat at d
  exact ⟨a,its,rfl,pl,Reps.heap I ps rs r' d⟩
 | .lst ps,v,u,h,r,d=>by
  unfold Rep at h;obtain ⟨a,vs,rfl,h,rs⟩:=h
  cases r
  obtain ⟨its,r',pl,hz⟩:=I.list h.sq
  unfold HRep
  unfold dat at d
  exact ⟨a,its,rfl,pl.isList,Reps.heap I ps rs r' d⟩
 | .dct ks ps,v,u,h,r,d=>by unfold dat at d;cases d
 | .dtt ks ps,v,u,h,r,d=>by unfold dat at d;cases d
 | .fn a,v,u,h,r,d=>by unfold dat at d;cases d
 | .ty n,v,u,h,r,d=>by unfold dat at d;cases d
theorem Reps.heap {X:Cx}{pins:List (Addr×Obj)}{σ:St}{H:Hp}{s:Shared}{ι:List Addr}(I:Inv X pins σ H s):∀(ps:List PV) {vs:List V} {us:List Value},Reps X.K ι H ps vs->Vals vs us->dats ps=true->HReps s.heap ps us
 | [],vs,us,h,r,_=>by unfold Reps at h;subst h;cases r;unfold HReps;rfl
 | p::ps,vs,us,h,r,d=>by
  unfold Reps at h;obtain ⟨v,w,rfl,h1,h2⟩:=h
  cases r with
  | cons r1 r2=>
   unfold dats at d
   rw[Yp] at d
   unfold HReps
   exact ⟨_,_,rfl,Rep.heap I p h1 r1 d.1,Reps.heap I ps h2 r2 d.2⟩
end
theorem Lies.heap {X:Cx}{pins:List (Addr×Obj)}{σ:St}{H:Hp}{s:Shared}{ι:List Addr}(I:Inv X pins σ H s){p:PV}{v:V}{u:Value}(l:Lies X.K ι H p v)(r:RelV v u)(d:dat p=true):HRep s.heap p u:=by
 cases l with
 | non=>unfold HRep;exact r
 | bl b=>unfold HRep;exact r
 | int i=>unfold HRep;exact r
 | str x h=>unfold HRep;exact r
 | tup h rs=>
  cases r
  obtain ⟨its,r',pl,hz⟩:=I.tuple h.sq
  unfold HRep
  unfold dat at d
  exact ⟨_,its,rfl,pl,Reps.heap I _ rs r' d⟩
 | lst h rs=>
  cases r
  obtain ⟨its,r',pl,hz⟩:=I.list h
  unfold HRep
  unfold dat at d
  exact ⟨_,its,rfl,pl.isList,Reps.heap I _ rs r' d⟩
 | dct h hl rs=>unfold dat at d;cases d
 | dtt h hl rs=>unfold dat at d;cases d
 | fn a=>unfold dat at d;cases d
 | ty n=>unfold dat at d;cases d
mutual
def eqD:PV->PV->Bool
 | .non,.non=>true
 | .bl a,.bl b=>a==b
 | .bl a,.int b=>(if a then 1 else 0)==b
 | .int a,.bl b=>a==(if b then 1 else 0)
 | .int a,.int b=>a==b
 | .str a,.str b=>a==b
 | .tup xs,.tup ys=>eqDs xs ys
 | .lst xs,.lst ys=>eqDs xs ys
 | _,_=>false
def eqDs:List PV->List PV->Bool
 | [],[]=>true
 | x::xs,y::ys=>eqD x y&&eqDs xs ys
 | _,_=>false
end
theorem isTuple_inj {h:Heap}{a:Addr}{us vs:List Value}(h1:h.IsTuple a us.toArray)(h2:h.IsTuple a vs.toArray):us=vs:=by
 obtain ⟨o,e,_,n,d⟩:=h1
 obtain ⟨o',e',_,n',d'⟩:=h2
 rw[e] at e';cases e'
 rw[d] at d';injection d' with d1 _
 simpa using d1
theorem isList_inj {h:Heap}{a:Addr}{us vs:List Value}(h1:h.IsList a us.toArray)(h2:h.IsList a vs.toArray):us=vs:=by
 obtain ⟨o,e,_,n,d⟩:=h1
 obtain ⟨o',e',_,n',d'⟩:=h2
 rw[e] at e';cases e'
 rw[d] at d';injection d' with d1 _
 simpa using d1
theorem not_both {h:Heap}{a:Addr}{us vs:List Value}(h1:h.IsTuple a us.toArray)(h2:h.IsList a vs.toArray):False:=by
 obtain ⟨o,e,c,_⟩:=h1
 obtain ⟨o',e',c',_⟩:=h2
 rw[e] at e';cases e'
 rw[c] at c';injection c' with c';exact absurd c' (by decide)
mutual
theorem HRep.same {h:Heap}:∀(p:PV) {q:PV} {u:Value},HRep h p u->HRep h q u->eqD p q=true
 | .non,q,u,a,b=>by
  unfold HRep at a;subst a
  cases q<;>unfold HRep at b<;>first | rfl | (cases b;done) | (obtain ⟨_,e⟩:=b;cases e;done) | (obtain ⟨_,_,e,_⟩:=b;cases e;done) | exact b.elim
 | .bl x,q,u,a,b=>by
  unfold HRep at a;subst a
  cases q<;>unfold HRep at b<;>first | (cases b;done) | (cases b;unfold eqD;exact beq_self_eq_true _) | (obtain ⟨_,e⟩:=b;cases e;done) | (obtain ⟨_,_,e,_⟩:=b;cases e;done) | exact b.elim
 | .int x,q,u,a,b=>by
  unfold HRep at a;obtain ⟨t,rfl⟩:=a
  cases q<;>unfold HRep at b<;>first | (cases b;done) | (obtain ⟨_,e⟩:=b;cases e;done) | (obtain ⟨_,e⟩:=b;cases e;unfold eqD;exact beq_self_eq_true _) | (obtain ⟨_,_,e,_⟩:=b;cases e;done) | exact b.elim
 | .str x,q,u,a,b=>by
  unfold HRep at a;obtain ⟨t,rfl⟩:=a
  cases q<;>unfold HRep at b<;>first | (cases b;done) | (obtain ⟨_,e⟩:=b;cases e;done) | (obtain ⟨_,e⟩:=b;cases e;unfold eqD;exact beq_self_eq_true _) | (obtain ⟨_,_,e,_⟩:=b;cases e;done) | exact b.elim
 | .tup ps,q,u,a,b=>by
  unfold HRep at a;obtain ⟨l,us,rfl,h1,r1⟩:=a
  cases q with
  | tup qs=>
   unfold HRep at b;obtain ⟨l',vs,e,h2,r2⟩:=b
   cases e
   cases isTuple_inj h1 h2
   unfold eqD
   exact HReps.same ps r1 r2
  | lst qs=>unfold HRep at b;obtain ⟨l',vs,e,h2,r2⟩:=b;cases e;exact (not_both h1 h2).elim
  | _=>unfold HRep at b;first | (cases b;done) | (obtain ⟨_,e⟩:=b;cases e;done) | exact b.elim
 | .lst ps,q,u,a,b=>by
  unfold HRep at a;obtain ⟨l,us,rfl,h1,r1⟩:=a
  cases q with
  | lst qs=>
   unfold HRep at b;obtain ⟨l',vs,e,h2,r2⟩:=b
   cases e
   cases isList_inj h1 h2
   unfold eqD
   exact HReps.same ps r1 r2
  | tup qs=>unfold HRep at b;obtain ⟨l',vs,e,h2,r2⟩:=b;cases e;exact (not_both h2 h1).elim
  | _=>unfold HRep at b;first | (cases b;done) | (obtain ⟨_,e⟩:=b;cases e;done) | exact b.elim
 | .dct _ _,q,u,a,b=>by unfold HRep at a;exact a.elim
 | .dtt _ _,q,u,a,b=>by unfold HRep at a;exact a.elim
 | .fn _,q,u,a,b=>by unfold HRep at a;exact a.elim
 | .ty _,q,u,a,b=>by unfold HRep at a;exact a.elim
theorem HReps.same {h:Heap}:∀(ps:List PV) {qs:List PV} {us:List Value},HReps h ps us->HReps h qs us->eqDs ps qs=true
 | [],qs,us,a,b=>by
  unfold HReps at a;subst a
  cases qs with
  | nil=>rfl
  | cons q qs=>unfold HReps at b;obtain ⟨_,_,e,_⟩:=b;cases e
 | p::ps,qs,us,a,b=>by
  unfold HReps at a;obtain ⟨v,r,rfl,a1,a2⟩:=a
  cases qs with
  | nil=>unfold HReps at b;cases b
  | cons q qs=>
   unfold HReps at b;obtain ⟨v',r',e,b1,b2⟩:=b
   cases e
   unfold eqDs
   rw[HRep.same p a1 b1,HReps.same ps a2 b2];rfl
end
end Pu
namespace Pu
open PySem PySem.Spec L2 PySem.SeqAt
open PyProof.Rows hiding St Fr
theorem HReps.length {h:Heap}:∀{ps:List PV} {us:List Value},HReps h ps us->ps.length=us.length
 | [],us,a=>by unfold HReps at a;subst a;rfl
 | p::ps,us,a=>by unfold HReps at a;obtain ⟨v,r,rfl,_,b⟩:=a;rw[Ys,Ys,b.length]
theorem ZbN:∀(ps qs:List PV),(((YT (min ps.length qs.length)).all fun j=>eqD (ps.getD j .non) (qs.getD j .non))&&ps.length==qs.length)=eqDs ps qs
 | [],[]=>rfl
 | [],_::_=>by unfold eqDs;simp
 | _::_,[]=>by unfold eqDs;simp
 | p::ps,q::qs=>by
  rw[eqDs,←ZbN ps qs,Ys,Ys,Nat.succ_min_succ,List.range_succ_eq_map,XB,List.all_map]
  rw[show (ps.length + 1==qs.length + 1)=(ps.length==qs.length) by simp[BEq.beq]]
  rw[Bool.and_assoc]
  rfl
theorem Zc6 {ps qs:List PV}(e:ps.length=qs.length):((YT ps.length).all fun j=>eqD (ps.getD j .non) (qs.getD j .non))=eqDs ps qs:=by
 have:=ZbN ps qs
 rw[←e,Nat.min_self,beq_self_eq_true,Bool.and_true] at this
 exact this
theorem eqDs_len:∀{ps qs:List PV},ps.length≠qs.length->eqDs ps qs=false
 | [],[],h=>absurd rfl h
 | [],_::_,_=>by unfold eqDs;rfl
 | _::_,[],_=>by unfold eqDs;rfl
 | p::ps,q::qs,h=>by unfold eqDs;rw[eqDs_len fun z=>h (by rw[Ys,Ys,z]),Bool.and_false]
section
variable {s:Shared}
theorem RcAt.tupD {A:Around}{a b:Addr}{us vs:List Value}{ps qs:List PV}(h1:s.heap.IsTuple a us.toArray)(h2:s.heap.IsTuple b vs.toArray)(l1:ps.length=us.length)(l2:qs.length=vs.length)(hu:A.units < cLine)
  (he:∀j (h1:j < us.length) (h2:j < vs.length),EqAt A.in1 s us[j] vs[j] (eqD (ps.getD j .non) (qs.getD j .non))):RcAt A s (.ref a) (.ref b) (eqDs ps qs):=by
 have:=RcAt.tuples h1 h2 hu (e:=fun j=>eqD (ps.getD j .non) (qs.getD j .non)) (fun j z1 z2=>by simpa using he j (by simpa using z1) (by simpa using z2))
 simp only[Yl,←l1,←l2] at this
 rw[ZbN] at this;exact this
theorem RcAt.lstD {A:Around}{a b:Addr}{us vs:List Value}{ps qs:List PV}(h1:s.heap.IsList a us.toArray)(h2:s.heap.IsList b vs.toArray)(l1:ps.length=us.length)(l2:qs.length=vs.length)(hu:A.units < cLine)
  (he:∀j (h1:j < us.length) (h2:j < vs.length),EqAt A.in1 s us[j] vs[j] (eqD (ps.getD j .non) (qs.getD j .non))):RcAt A s (.ref a) (.ref b) (eqDs ps qs):=by
 by_cases e:us.length=vs.length
 ·have:=RcAt.lists h1 h2 (by simpa using e) hu (e:=fun j=>eqD (ps.getD j .non) (qs.getD j .non)) (fun j z1 z2=>by simpa using he j (by simpa using z1) (by simpa using z2))
  simp only[Yl,←l1] at this
  rw[Zc6 (by lia)] at this;exact this
 ·have:=RcAt.lists_lengths h1 h2 (by simpa using e) hu
  rw[eqDs_len (by lia)];exact this
theorem RcNeAt.tupD {A:Around}{a b:Addr}{us vs:List Value}{ps qs:List PV}(h1:s.heap.IsTuple a us.toArray)(h2:s.heap.IsTuple b vs.toArray)(l1:ps.length=us.length)(l2:qs.length=vs.length)(hu:A.units < cLine)
  (he:∀j (h1:j < us.length) (h2:j < vs.length),EqAt A.in1 s us[j] vs[j] (eqD (ps.getD j .non) (qs.getD j .non))):RcNeAt A s (.ref a) (.ref b) (!eqDs ps qs):=by
 have:=RcNeAt.tuples h1 h2 hu (e:=fun j=>eqD (ps.getD j .non) (qs.getD j .non)) (fun j z1 z2=>by simpa using he j (by simpa using z1) (by simpa using z2))
 simp only[Yl,←l1,←l2] at this
 rw[ZbN] at this;exact this
theorem RcNeAt.lstD {A:Around}{a b:Addr}{us vs:List Value}{ps qs:List PV}(h1:s.heap.IsList a us.toArray)(h2:s.heap.IsList b vs.toArray)(l1:ps.length=us.length)(l2:qs.length=vs.length)(hu:A.units < cLine)
  (he:∀j (h1:j < us.length) (h2:j < vs.length),EqAt A.in1 s us[j] vs[j] (eqD (ps.getD j .non) (qs.getD j .non))):RcNeAt A s (.ref a) (.ref b) (!eqDs ps qs):=by
 by_cases e:us.length=vs.length
 ·have:=RcNeAt.lists h1 h2 (by simpa using e) hu (e:=fun j=>eqD (ps.getD j .non) (qs.getD j .non)) (fun j z1 z2=>by simpa using he j (by simpa using z1) (by simpa using z2))
  simp only[Yl,←l1] at this
  rw[Zc6 (by lia)] at this;exact this
 ·have:=RcNeAt.lists_lengths h1 h2 (by simpa using e) hu
  rw[eqDs_len (by lia)];exact this
end
section
variable {s:Shared}
theorem EqAt.x_non {q:PV}{u v:Value}{A:Around}(a:HRep s.heap .non u)(b:HRep s.heap q v)(hu':A.units < cLine):EqAt A s u v (eqD .non q):=by
 unfold HRep at a;subst a
 cases q<;>unfold HRep at b
 ·unfold eqD;subst b;exact EqAt.same _
 ·unfold eqD;subst b;exact EqAt.none_bool _
 ·unfold eqD;obtain ⟨_,rfl⟩:=b;exact EqAt.none_int _ _
 ·unfold eqD;obtain ⟨_,rfl⟩:=b;exact EqAt.none_str _ _
 ·unfold eqD;obtain ⟨_,_,rfl,h_b,_⟩:=b;exact EqAt.none_tuple h_b hu'
 ·unfold eqD;obtain ⟨_,_,rfl,h_b,_⟩:=b;exact EqAt.none_list h_b hu'
 ·exact b.elim
 ·exact b.elim
 ·exact b.elim
 ·exact b.elim
theorem EqAt.x_bl {x:Bool}{q:PV}{u v:Value}{A:Around}(a:HRep s.heap (.bl x) u)(b:HRep s.heap q v)(hu':A.units < cLine):EqAt A s u v (eqD (.bl x) q):=by
 unfold HRep at a;subst a
 cases q<;>unfold HRep at b
 ·unfold eqD;subst b;exact EqAt.bool_none _
 ·unfold eqD;subst b;exact EqAt.bool_bool _ _
 ·unfold eqD;obtain ⟨_,rfl⟩:=b;exact EqAt.bool_int _ _ _
 ·unfold eqD;obtain ⟨_,rfl⟩:=b;exact EqAt.bool_str _ _ _
 ·unfold eqD;obtain ⟨_,_,rfl,h_b,_⟩:=b;exact EqAt.bool_tuple _ h_b hu'
 ·unfold eqD;obtain ⟨_,_,rfl,h_b,_⟩:=b;exact EqAt.bool_list _ h_b hu'
 ·exact b.elim
 ·exact b.elim
 ·exact b.elim
 ·exact b.elim
theorem EqAt.x_int {x:Int}{q:PV}{u v:Value}{A:Around}(a:HRep s.heap (.int x) u)(b:HRep s.heap q v)(hu':A.units < cLine):EqAt A s u v (eqD (.int x) q):=by
 unfold HRep at a;obtain ⟨_,rfl⟩:=a
 cases q<;>unfold HRep at b
 ·unfold eqD;subst b;exact EqAt.int_none _ _
 ·unfold eqD;subst b;exact EqAt.int_bool _ _ _
 ·unfold eqD;obtain ⟨_,rfl⟩:=b;exact EqAt.int_int _ _ _ _
 ·unfold eqD;obtain ⟨_,rfl⟩:=b;exact EqAt.int_str _ _ _ _
 ·unfold eqD;obtain ⟨_,_,rfl,h_b,_⟩:=b;exact EqAt.int_tuple _ _ h_b hu'
 ·unfold eqD;obtain ⟨_,_,rfl,h_b,_⟩:=b;exact EqAt.int_list _ _ h_b hu'
 ·exact b.elim
 ·exact b.elim
 ·exact b.elim
 ·exact b.elim
theorem EqAt.x_str {x:Str}{q:PV}{u v:Value}{A:Around}(a:HRep s.heap (.str x) u)(b:HRep s.heap q v)(hu':A.units < cLine):EqAt A s u v (eqD (.str x) q):=by
 unfold HRep at a;obtain ⟨_,rfl⟩:=a
 cases q<;>unfold HRep at b
 ·unfold eqD;subst b;exact EqAt.str_none _ _
 ·unfold eqD;subst b;exact EqAt.str_bool _ _ _
 ·unfold eqD;obtain ⟨_,rfl⟩:=b;exact EqAt.str_int _ _ _ _
 ·unfold eqD;obtain ⟨_,rfl⟩:=b;exact EqAt.str_str _ _ _ _
 ·unfold eqD;obtain ⟨_,_,rfl,h_b,_⟩:=b;exact EqAt.str_tuple _ _ h_b hu'
 ·unfold eqD;obtain ⟨_,_,rfl,h_b,_⟩:=b;exact EqAt.str_list _ _ h_b hu'
 ·exact b.elim
 ·exact b.elim
 ·exact b.elim
 ·exact b.elim
theorem EqAt.x_tup_non {ps:List PV}{u v:Value}{A:Around}(a:HRep s.heap (.tup ps) u)(b:HRep s.heap .non v)(hu':A.units < cLine):EqAt A s u v (eqD (.tup ps) .non):=by
 unfold HRep at a b;unfold eqD;obtain ⟨_,_,rfl,h_a,_⟩:=a;subst b;exact EqAt.tuple_none h_a hu'
theorem EqAt.x_tup_bl {x:Bool}{ps:List PV}{u v:Value}{A:Around}(a:HRep s.heap (.tup ps) u)(b:HRep s.heap (.bl x) v)(hu':A.units < cLine):EqAt A s u v (eqD (.tup ps) (.bl x)):=by
 unfold HRep at a b;unfold eqD;obtain ⟨_,_,rfl,h_a,_⟩:=a;subst b;exact EqAt.tuple_bool _ h_a hu'
theorem EqAt.x_tup_int {x:Int}{ps:List PV}{u v:Value}{A:Around}(a:HRep s.heap (.tup ps) u)(b:HRep s.heap (.int x) v)(hu':A.units < cLine):EqAt A s u v (eqD (.tup ps) (.int x)):=by
 unfold HRep at a b;unfold eqD;obtain ⟨_,_,rfl,h_a,_⟩:=a;obtain ⟨_,rfl⟩:=b;exact EqAt.tuple_int _ _ h_a hu'
theorem EqAt.x_tup_str {x:Str}{ps:List PV}{u v:Value}{A:Around}(a:HRep s.heap (.tup ps) u)(b:HRep s.heap (.str x) v)(hu':A.units < cLine):EqAt A s u v (eqD (.tup ps) (.str x)):=by
 unfold HRep at a b;unfold eqD;obtain ⟨_,_,rfl,h_a,_⟩:=a;obtain ⟨_,rfl⟩:=b;exact EqAt.tuple_str _ _ h_a hu'
theorem EqAt.x_tup_lst {x:List PV}{ps:List PV}{u v:Value}{A:Around}(a:HRep s.heap (.tup ps) u)(b:HRep s.heap (.lst x) v)(hu':A.units < cLine):EqAt A s u v (eqD (.tup ps) (.lst x)):=by
 unfold HRep at a b;unfold eqD;obtain ⟨_,_,rfl,h_a,_⟩:=a;obtain ⟨_,_,rfl,h_b,_⟩:=b;exact EqAt.tuple_list h_a h_b hu'
theorem EqAt.x_lst_non {ps:List PV}{u v:Value}{A:Around}(a:HRep s.heap (.lst ps) u)(b:HRep s.heap .non v)(hu':A.units < cLine):EqAt A s u v (eqD (.lst ps) .non):=by
 unfold HRep at a b;unfold eqD;obtain ⟨_,_,rfl,h_a,_⟩:=a;subst b;exact EqAt.list_none h_a hu'
theorem EqAt.x_lst_bl {x:Bool}{ps:List PV}{u v:Value}{A:Around}(a:HRep s.heap (.lst ps) u)(b:HRep s.heap (.bl x) v)(hu':A.units < cLine):EqAt A s u v (eqD (.lst ps) (.bl x)):=by
 unfold HRep at a b;unfold eqD;obtain ⟨_,_,rfl,h_a,_⟩:=a;subst b;exact EqAt.list_bool _ h_a hu'
theorem EqAt.x_lst_int {x:Int}{ps:List PV}{u v:Value}{A:Around}(a:HRep s.heap (.lst ps) u)(b:HRep s.heap (.int x) v)(hu':A.units < cLine):EqAt A s u v (eqD (.lst ps) (.int x)):=by
 unfold HRep at a b;unfold eqD;obtain ⟨_,_,rfl,h_a,_⟩:=a;obtain ⟨_,rfl⟩:=b;exact EqAt.list_int _ _ h_a hu'
theorem EqAt.x_lst_str {x:Str}{ps:List PV}{u v:Value}{A:Around}(a:HRep s.heap (.lst ps) u)(b:HRep s.heap (.str x) v)(hu':A.units < cLine):EqAt A s u v (eqD (.lst ps) (.str x)):=by
 unfold HRep at a b;unfold eqD;obtain ⟨_,_,rfl,h_a,_⟩:=a;obtain ⟨_,rfl⟩:=b;exact EqAt.list_str _ _ h_a hu'
theorem EqAt.x_lst_tup {x:List PV}{ps:List PV}{u v:Value}{A:Around}(a:HRep s.heap (.lst ps) u)(b:HRep s.heap (.tup x) v)(hu':A.units < cLine):EqAt A s u v (eqD (.lst ps) (.tup x)):=by
 unfold HRep at a b;unfold eqD;obtain ⟨_,_,rfl,h_a,_⟩:=a;obtain ⟨_,_,rfl,h_b,_⟩:=b;exact EqAt.list_tuple h_a h_b hu'
theorem RcAt.x_non {q:PV}{u v:Value}{A:Around}(a:HRep s.heap .non u)(b:HRep s.heap q v)(hu':A.units < cLine):RcAt A s u v (eqD .non q):=by
 unfold HRep at a;subst a
 cases q<;>unfold HRep at b
 ·unfold eqD;subst b;exact RcAt.none_none
 ·unfold eqD;subst b;exact RcAt.none_bool _
 ·unfold eqD;obtain ⟨_,rfl⟩:=b;exact RcAt.none_int _ _
 ·unfold eqD;obtain ⟨_,rfl⟩:=b;exact RcAt.none_str _ _
 ·unfold eqD;obtain ⟨_,_,rfl,h_b,_⟩:=b;exact RcAt.none_tuple h_b hu'
 ·unfold eqD;obtain ⟨_,_,rfl,h_b,_⟩:=b;exact RcAt.none_list h_b hu'
 ·exact b.elim
 ·exact b.elim
 ·exact b.elim
 ·exact b.elim
theorem RcAt.x_bl {x:Bool}{q:PV}{u v:Value}{A:Around}(a:HRep s.heap (.bl x) u)(b:HRep s.heap q v)(hu':A.units < cLine):RcAt A s u v (eqD (.bl x) q):=by
 unfold HRep at a;subst a
 cases q<;>unfold HRep at b
 ·unfold eqD;subst b;exact RcAt.bool_none _
 ·unfold eqD;subst b;exact RcAt.bool_bool _ _
 ·unfold eqD;obtain ⟨_,rfl⟩:=b;exact RcAt.bool_int _ _ _
 ·unfold eqD;obtain ⟨_,rfl⟩:=b;exact RcAt.bool_str _ _ _
 ·unfold eqD;obtain ⟨_,_,rfl,h_b,_⟩:=b;exact RcAt.bool_tuple _ h_b hu'
 ·unfold eqD;obtain ⟨_,_,rfl,h_b,_⟩:=b;exact RcAt.bool_list _ h_b hu'
 ·exact b.elim
 ·exact b.elim
 ·exact b.elim
 ·exact b.elim
theorem RcAt.x_int {x:Int}{q:PV}{u v:Value}{A:Around}(a:HRep s.heap (.int x) u)(b:HRep s.heap q v)(hu':A.units < cLine):RcAt A s u v (eqD (.int x) q):=by
 unfold HRep at a;obtain ⟨_,rfl⟩:=a
 cases q<;>unfold HRep at b
 ·unfold eqD;subst b;exact RcAt.int_none _ _
 ·unfold eqD;subst b;exact RcAt.int_bool _ _ _
 ·unfold eqD;obtain ⟨_,rfl⟩:=b;exact RcAt.int_int _ _ _ _
 ·unfold eqD;obtain ⟨_,rfl⟩:=b;exact RcAt.int_str _ _ _ _
 ·unfold eqD;obtain ⟨_,_,rfl,h_b,_⟩:=b;exact RcAt.int_tuple _ _ h_b hu'
 ·unfold eqD;obtain ⟨_,_,rfl,h_b,_⟩:=b;exact RcAt.int_list _ _ h_b hu'
 ·exact b.elim
 ·exact b.elim
 ·exact b.elim
 ·exact b.elim
theorem RcAt.x_str {x:Str}{q:PV}{u v:Value}{A:Around}(a:HRep s.heap (.str x) u)(b:HRep s.heap q v)(hu':A.units < cLine):RcAt A s u v (eqD (.str x) q):=by
 unfold HRep at a;obtain ⟨_,rfl⟩:=a
 cases q<;>unfold HRep at b
 ·unfold eqD;subst b;exact RcAt.str_none _ _
 ·unfold eqD;subst b;exact RcAt.str_bool _ _ _
 ·unfold eqD;obtain ⟨_,rfl⟩:=b;exact RcAt.str_int _ _ _ _
 ·unfold eqD;obtain ⟨_,rfl⟩:=b;exact RcAt.str_str _ _ _ _
 ·unfold eqD;obtain ⟨_,_,rfl,h_b,_⟩:=b;exact RcAt.str_tuple _ _ h_b hu'
 ·unfold eqD;obtain ⟨_,_,rfl,h_b,_⟩:=b;exact RcAt.str_list _ _ h_b hu'
 ·exact b.elim
 ·exact b.elim
 ·exact b.elim
 ·exact b.elim
theorem RcAt.x_tup_non {ps:List PV}{u v:Value}{A:Around}(a:HRep s.heap (.tup ps) u)(b:HRep s.heap .non v)(hu':A.units < cLine):RcAt A s u v (eqD (.tup ps) .non):=by
 unfold HRep at a b;unfold eqD;obtain ⟨_,_,rfl,h_a,_⟩:=a;subst b;exact RcAt.tuple_none h_a hu'
theorem RcAt.x_tup_bl {x:Bool}{ps:List PV}{u v:Value}{A:Around}(a:HRep s.heap (.tup ps) u)(b:HRep s.heap (.bl x) v)(hu':A.units < cLine):RcAt A s u v (eqD (.tup ps) (.bl x)):=by
 unfold HRep at a b;unfold eqD;obtain ⟨_,_,rfl,h_a,_⟩:=a;subst b;exact RcAt.tuple_bool _ h_a hu'
theorem RcAt.x_tup_int {x:Int}{ps:List PV}{u v:Value}{A:Around}(a:HRep s.heap (.tup ps) u)(b:HRep s.heap (.int x) v)(hu':A.units < cLine):RcAt A s u v (eqD (.tup ps) (.int x)):=by
 unfold HRep at a b;unfold eqD;obtain ⟨_,_,rfl,h_a,_⟩:=a;obtain ⟨_,rfl⟩:=b;exact RcAt.tuple_int _ _ h_a hu'
theorem RcAt.x_tup_str {x:Str}{ps:List PV}{u v:Value}{A:Around}(a:HRep s.heap (.tup ps) u)(b:HRep s.heap (.str x) v)(hu':A.units < cLine):RcAt A s u v (eqD (.tup ps) (.str x)):=by
 unfold HRep at a b;unfold eqD;obtain ⟨_,_,rfl,h_a,_⟩:=a;obtain ⟨_,rfl⟩:=b;exact RcAt.tuple_str _ _ h_a hu'
theorem RcAt.x_tup_lst {x:List PV}{ps:List PV}{u v:Value}{A:Around}(a:HRep s.heap (.tup ps) u)(b:HRep s.heap (.lst x) v)(hu':A.units < cLine):RcAt A s u v (eqD (.tup ps) (.lst x)):=by
 unfold HRep at a b;unfold eqD;obtain ⟨_,_,rfl,h_a,_⟩:=a;obtain ⟨_,_,rfl,h_b,_⟩:=b;exact RcAt.tuple_list h_a h_b hu'
theorem RcAt.x_lst_non {ps:List PV}{u v:Value}{A:Around}(a:HRep s.heap (.lst ps) u)(b:HRep s.heap .non v)(hu':A.units < cLine):RcAt A s u v (eqD (.lst ps) .non):=by
 unfold HRep at a b;unfold eqD;obtain ⟨_,_,rfl,h_a,_⟩:=a;subst b;exact RcAt.list_none h_a hu'
theorem RcAt.x_lst_bl {x:Bool}{ps:List PV}{u v:Value}{A:Around}(a:HRep s.heap (.lst ps) u)(b:HRep s.heap (.bl x) v)(hu':A.units < cLine):RcAt A s u v (eqD (.lst ps) (.bl x)):=by
 unfold HRep at a b;unfold eqD;obtain ⟨_,_,rfl,h_a,_⟩:=a;subst b;exact RcAt.list_bool _ h_a hu'
theorem RcAt.x_lst_int {x:Int}{ps:List PV}{u v:Value}{A:Around}(a:HRep s.heap (.lst ps) u)(b:HRep s.heap (.int x) v)(hu':A.units < cLine):RcAt A s u v (eqD (.lst ps) (.int x)):=by
 unfold HRep at a b;unfold eqD;obtain ⟨_,_,rfl,h_a,_⟩:=a;obtain ⟨_,rfl⟩:=b;exact RcAt.list_int _ _ h_a hu'
theorem RcAt.x_lst_str {x:Str}{ps:List PV}{u v:Value}{A:Around}(a:HRep s.heap (.lst ps) u)(b:HRep s.heap (.str x) v)(hu':A.units < cLine):RcAt A s u v (eqD (.lst ps) (.str x)):=by
 unfold HRep at a b;unfold eqD;obtain ⟨_,_,rfl,h_a,_⟩:=a;obtain ⟨_,rfl⟩:=b;exact RcAt.list_str _ _ h_a hu'
theorem RcAt.x_lst_tup {x:List PV}{ps:List PV}{u v:Value}{A:Around}(a:HRep s.heap (.lst ps) u)(b:HRep s.heap (.tup x) v)(hu':A.units < cLine):RcAt A s u v (eqD (.lst ps) (.tup x)):=by
 unfold HRep at a b;unfold eqD;obtain ⟨_,_,rfl,h_a,_⟩:=a;obtain ⟨_,_,rfl,h_b,_⟩:=b;exact RcAt.list_tuple h_a h_b hu'
theorem RcNeAt.x_non {q:PV}{u v:Value}{A:Around}(a:HRep s.heap .non u)(b:HRep s.heap q v)(hu':A.units < cLine):RcNeAt A s u v (!eqD .non q):=by
 unfold HRep at a;subst a
 cases q<;>unfold HRep at b
 ·unfold eqD;subst b;exact RcNeAt.none_none
 ·unfold eqD;subst b;exact RcNeAt.none_bool _
 ·unfold eqD;obtain ⟨_,rfl⟩:=b;exact RcNeAt.none_int _ _
 ·unfold eqD;obtain ⟨_,rfl⟩:=b;exact RcNeAt.none_str _ _
 ·unfold eqD;obtain ⟨_,_,rfl,h_b,_⟩:=b;exact RcNeAt.none_tuple h_b hu'
 ·unfold eqD;obtain ⟨_,_,rfl,h_b,_⟩:=b;exact RcNeAt.none_list h_b hu'
 ·exact b.elim
 ·exact b.elim
 ·exact b.elim
 ·exact b.elim
theorem RcNeAt.x_bl {x:Bool}{q:PV}{u v:Value}{A:Around}(a:HRep s.heap (.bl x) u)(b:HRep s.heap q v)(hu':A.units < cLine):RcNeAt A s u v (!eqD (.bl x) q):=by
 unfold HRep at a;subst a
 cases q<;>unfold HRep at b
 ·unfold eqD;subst b;exact RcNeAt.bool_none _
 ·unfold eqD;subst b;exact RcNeAt.bool_bool _ _
 ·unfold eqD;obtain ⟨_,rfl⟩:=b;exact RcNeAt.bool_int _ _ _
 ·unfold eqD;obtain ⟨_,rfl⟩:=b;exact RcNeAt.bool_str _ _ _
 ·unfold eqD;obtain ⟨_,_,rfl,h_b,_⟩:=b;exact RcNeAt.bool_tuple _ h_b hu'
 ·unfold eqD;obtain ⟨_,_,rfl,h_b,_⟩:=b;exact RcNeAt.bool_list _ h_b hu'
 ·exact b.elim
 ·exact b.elim
 ·exact b.elim
 ·exact b.elim
theorem RcNeAt.x_int {x:Int}{q:PV}{u v:Value}{A:Around}(a:HRep s.heap (.int x) u)(b:HRep s.heap q v)(hu':A.units < cLine):RcNeAt A s u v (!eqD (.int x) q):=by
 unfold HRep at a;obtain ⟨_,rfl⟩:=a
 cases q<;>unfold HRep at b
 ·unfold eqD;subst b;exact RcNeAt.int_none _ _
 ·unfold eqD;subst b;exact RcNeAt.int_bool _ _ _
 ·unfold eqD;obtain ⟨_,rfl⟩:=b;exact RcNeAt.int_int _ _ _ _
 ·unfold eqD;obtain ⟨_,rfl⟩:=b;exact RcNeAt.int_str _ _ _ _
 ·unfold eqD;obtain ⟨_,_,rfl,h_b,_⟩:=b;exact RcNeAt.int_tuple _ _ h_b hu'
 ·unfold eqD;obtain ⟨_,_,rfl,h_b,_⟩:=b;exact RcNeAt.int_list _ _ h_b hu'
 ·exact b.elim
 ·exact b.elim
 ·exact b.elim
 ·exact b.elim
theorem RcNeAt.x_str {x:Str}{q:PV}{u v:Value}{A:Around}(a:HRep s.heap (.str x) u)(b:HRep s.heap q v)(hu':A.units < cLine):RcNeAt A s u v (!eqD (.str x) q):=by
 unfold HRep at a;obtain ⟨_,rfl⟩:=a
 cases q<;>unfold HRep at b
 ·unfold eqD;subst b;exact RcNeAt.str_none _ _
 ·unfold eqD;subst b;exact RcNeAt.str_bool _ _ _
 ·unfold eqD;obtain ⟨_,rfl⟩:=b;exact RcNeAt.str_int _ _ _ _
 ·unfold eqD;obtain ⟨_,rfl⟩:=b;exact RcNeAt.str_str _ _ _ _
 ·unfold eqD;obtain ⟨_,_,rfl,h_b,_⟩:=b;exact RcNeAt.str_tuple _ _ h_b hu'
 ·unfold eqD;obtain ⟨_,_,rfl,h_b,_⟩:=b;exact RcNeAt.str_list _ _ h_b hu'
 ·exact b.elim
 ·exact b.elim
 ·exact b.elim
 ·exact b.elim
theorem RcNeAt.x_tup_non {ps:List PV}{u v:Value}{A:Around}(a:HRep s.heap (.tup ps) u)(b:HRep s.heap .non v)(hu':A.units < cLine):RcNeAt A s u v (!eqD (.tup ps) .non):=by
 unfold HRep at a b;unfold eqD;obtain ⟨_,_,rfl,h_a,_⟩:=a;subst b;exact RcNeAt.tuple_none h_a hu'
theorem RcNeAt.x_tup_bl {x:Bool}{ps:List PV}{u v:Value}{A:Around}(a:HRep s.heap (.tup ps) u)(b:HRep s.heap (.bl x) v)(hu':A.units < cLine):RcNeAt A s u v (!eqD (.tup ps) (.bl x)):=by
 unfold HRep at a b;unfold eqD;obtain ⟨_,_,rfl,h_a,_⟩:=a;subst b;exact RcNeAt.tuple_bool _ h_a hu'
theorem RcNeAt.x_tup_int {x:Int}{ps:List PV}{u v:Value}{A:Around}(a:HRep s.heap (.tup ps) u)(b:HRep s.heap (.int x) v)(hu':A.units < cLine):RcNeAt A s u v (!eqD (.tup ps) (.int x)):=by
 unfold HRep at a b;unfold eqD;obtain ⟨_,_,rfl,h_a,_⟩:=a;obtain ⟨_,rfl⟩:=b;exact RcNeAt.tuple_int _ _ h_a hu'
theorem RcNeAt.x_tup_str {x:Str}{ps:List PV}{u v:Value}{A:Around}(a:HRep s.heap (.tup ps) u)(b:HRep s.heap (.str x) v)(hu':A.units < cLine):RcNeAt A s u v (!eqD (.tup ps) (.str x)):=by
 unfold HRep at a b;unfold eqD;obtain ⟨_,_,rfl,h_a,_⟩:=a;obtain ⟨_,rfl⟩:=b;exact RcNeAt.tuple_str _ _ h_a hu'
theorem RcNeAt.x_tup_lst {x:List PV}{ps:List PV}{u v:Value}{A:Around}(a:HRep s.heap (.tup ps) u)(b:HRep s.heap (.lst x) v)(hu':A.units < cLine):RcNeAt A s u v (!eqD (.tup ps) (.lst x)):=by
 unfold HRep at a b;unfold eqD;obtain ⟨_,_,rfl,h_a,_⟩:=a;obtain ⟨_,_,rfl,h_b,_⟩:=b;exact RcNeAt.tuple_list h_a h_b hu'
theorem RcNeAt.x_lst_non {ps:List PV}{u v:Value}{A:Around}(a:HRep s.heap (.lst ps) u)(b:HRep s.heap .non v)(hu':A.units < cLine):RcNeAt A s u v (!eqD (.lst ps) .non):=by
 unfold HRep at a b;unfold eqD;obtain ⟨_,_,rfl,h_a,_⟩:=a;subst b;exact RcNeAt.list_none h_a hu'
theorem RcNeAt.x_lst_bl {x:Bool}{ps:List PV}{u v:Value}{A:Around}(a:HRep s.heap (.lst ps) u)(b:HRep s.heap (.bl x) v)(hu':A.units < cLine):RcNeAt A s u v (!eqD (.lst ps) (.bl x)):=by
 unfold HRep at a b;unfold eqD;obtain ⟨_,_,rfl,h_a,_⟩:=a;subst b;exact RcNeAt.list_bool _ h_a hu'
theorem RcNeAt.x_lst_int {x:Int}{ps:List PV}{u v:Value}{A:Around}(a:HRep s.heap (.lst ps) u)(b:HRep s.heap (.int x) v)(hu':A.units < cLine):RcNeAt A s u v (!eqD (.lst ps) (.int x)):=by
 unfold HRep at a b;unfold eqD;obtain ⟨_,_,rfl,h_a,_⟩:=a;obtain ⟨_,rfl⟩:=b;exact RcNeAt.list_int _ _ h_a hu'
theorem RcNeAt.x_lst_str {x:Str}{ps:List PV}{u v:Value}{A:Around}(a:HRep s.heap (.lst ps) u)(b:HRep s.heap (.str x) v)(hu':A.units < cLine):RcNeAt A s u v (!eqD (.lst ps) (.str x)):=by
 unfold HRep at a b;unfold eqD;obtain ⟨_,_,rfl,h_a,_⟩:=a;obtain ⟨_,rfl⟩:=b;exact RcNeAt.list_str _ _ h_a hu'
theorem RcNeAt.x_lst_tup {x:List PV}{ps:List PV}{u v:Value}{A:Around}(a:HRep s.heap (.lst ps) u)(b:HRep s.heap (.tup x) v)(hu':A.units < cLine):RcNeAt A s u v (!eqD (.lst ps) (.tup x)):=by
 unfold HRep at a b;unfold eqD;obtain ⟨_,_,rfl,h_a,_⟩:=a;obtain ⟨_,_,rfl,h_b,_⟩:=b;exact RcNeAt.list_tuple h_a h_b hu'
mutual
theorem HRep.eqAt:∀(p:PV) {q:PV} {u v:Value} {A:Around},HRep s.heap p u->HRep s.heap q v->A.units + dep p < cLine->EqAt A s u v (eqD p q)
 | .non,q,u,v,A,a,b,hu=>EqAt.x_non a b (by lia)
 | .bl x,q,u,v,A,a,b,hu=>EqAt.x_bl a b (by lia)
 | .int x,q,u,v,A,a,b,hu=>EqAt.x_int a b (by lia)
 | .str x,q,u,v,A,a,b,hu=>EqAt.x_str a b (by lia)
 | .tup ps,q,u,v,A,a,b,hu=>by
  have hu':A.units < cLine:=by lia
  cases q with
  | non=>exact EqAt.x_tup_non a b hu'
  | bl x=>exact EqAt.x_tup_bl a b hu'
  | int x=>exact EqAt.x_tup_int a b hu'
  | str x=>exact EqAt.x_tup_str a b hu'
  | lst x=>exact EqAt.x_tup_lst a b hu'
  | tup qs=>
   have a0:=a;have b0:=b
   unfold HRep at a b;obtain ⟨l,us,rfl,h1,r1⟩:=a;obtain ⟨l',vs,rfl,h2,r2⟩:=b
   unfold dep at hu
   by_cases e:l=l'
   ·subst e
    rw[HRep.same _ a0 b0]
    exact EqAt.same _
   ·unfold eqD
    exact .of_refs e (RcAt.tupD h1 h2 r1.length r2.length hu' (HReps.eqAt ps r1 r2 (by rw[YQ];lia)))
  | dct _ _=>unfold HRep at b;exact b.elim
  | dtt _ _=>unfold HRep at b;exact b.elim
  | fn _=>unfold HRep at b;exact b.elim
  | ty _=>unfold HRep at b;exact b.elim
 | .lst ps,q,u,v,A,a,b,hu=>by
  have hu':A.units < cLine:=by lia
  cases q with
  | non=>exact EqAt.x_lst_non a b hu'
  | bl x=>exact EqAt.x_lst_bl a b hu'
  | int x=>exact EqAt.x_lst_int a b hu'
  | str x=>exact EqAt.x_lst_str a b hu'
  | tup x=>exact EqAt.x_lst_tup a b hu'
  | lst qs=>
   have a0:=a;have b0:=b
   unfold HRep at a b;obtain ⟨l,us,rfl,h1,r1⟩:=a;obtain ⟨l',vs,rfl,h2,r2⟩:=b
   unfold dep at hu
   by_cases e:l=l'
   ·subst e
    rw[HRep.same _ a0 b0]
    exact EqAt.same _
   ·unfold eqD
    exact .of_refs e (RcAt.lstD h1 h2 r1.length r2.length hu' (HReps.eqAt ps r1 r2 (by rw[YQ];lia)))
  | dct _ _=>unfold HRep at b;exact b.elim
  | dtt _ _=>unfold HRep at b;exact b.elim
  | fn _=>unfold HRep at b;exact b.elim
  | ty _=>unfold HRep at b;exact b.elim
 | .dct _ _,q,u,v,A,a,b,hu=>by unfold HRep at a;exact a.elim
 | .dtt _ _,q,u,v,A,a,b,hu=>by unfold HRep at a;exact a.elim
 | .fn _,q,u,v,A,a,b,hu=>by unfold HRep at a;exact a.elim
 | .ty _,q,u,v,A,a,b,hu=>by unfold HRep at a;exact a.elim
theorem HReps.eqAt:∀(ps:List PV) {qs:List PV} {us vs:List Value} {A:Around},HReps s.heap ps us->HReps s.heap qs vs->A.units + deps ps < cLine->
  ∀j (h1:j < us.length) (h2:j < vs.length),EqAt A s us[j] vs[j] (eqD (ps.getD j .non) (qs.getD j .non))
 | [],qs,us,vs,A,a,b,hu=>fun j h1 _=>by unfold HReps at a;subst a;cases h1
 | p::ps,qs,us,vs,A,a,b,hu=>fun j h1 h2=>by
  unfold HReps at a;obtain ⟨v,r,rfl,a1,a2⟩:=a
  unfold deps at hu
  cases qs with
  | nil=>unfold HReps at b;subst b;cases h2
  | cons q qs=>
   unfold HReps at b;obtain ⟨v',r',rfl,b1,b2⟩:=b
   cases j with
   | zero=>exact HRep.eqAt p a1 b1 (by lia)
   | succ j=>simpa using HReps.eqAt ps a2 b2 (by lia) j (by simpa using h1) (by simpa using h2)
end
theorem HRep.rcAt:∀(p:PV) {q:PV} {u v:Value} {A:Around},HRep s.heap p u->HRep s.heap q v->A.units + dep p < cLine->RcAt A s u v (eqD p q)
 | .non,q,u,v,A,a,b,hu=>RcAt.x_non a b (by lia)
 | .bl x,q,u,v,A,a,b,hu=>RcAt.x_bl a b (by lia)
 | .int x,q,u,v,A,a,b,hu=>RcAt.x_int a b (by lia)
 | .str x,q,u,v,A,a,b,hu=>RcAt.x_str a b (by lia)
 | .tup ps,q,u,v,A,a,b,hu=>by
  have hu':A.units < cLine:=by lia
  cases q with
  | non=>exact RcAt.x_tup_non a b hu'
  | bl x=>exact RcAt.x_tup_bl a b hu'
  | int x=>exact RcAt.x_tup_int a b hu'
  | str x=>exact RcAt.x_tup_str a b hu'
  | lst x=>exact RcAt.x_tup_lst a b hu'
  | tup qs=>
   have a0:=a;have b0:=b
   unfold HRep at a b;obtain ⟨l,us,rfl,h1,r1⟩:=a;obtain ⟨l',vs,rfl,h2,r2⟩:=b
   unfold dep at hu
   unfold eqD
   exact RcAt.tupD h1 h2 r1.length r2.length hu' (HReps.eqAt ps r1 r2 (by rw[YQ];lia))
  | dct _ _=>unfold HRep at b;exact b.elim
  | dtt _ _=>unfold HRep at b;exact b.elim
  | fn _=>unfold HRep at b;exact b.elim
  | ty _=>unfold HRep at b;exact b.elim
 | .lst ps,q,u,v,A,a,b,hu=>by
  have hu':A.units < cLine:=by lia
  cases q with
  | non=>exact RcAt.x_lst_non a b hu'
  | bl x=>exact RcAt.x_lst_bl a b hu'
  | int x=>exact RcAt.x_lst_int a b hu'
  | str x=>exact RcAt.x_lst_str a b hu'
  | tup x=>exact RcAt.x_lst_tup a b hu'
  | lst qs=>
   have a0:=a;have b0:=b
   unfold HRep at a b;obtain ⟨l,us,rfl,h1,r1⟩:=a;obtain ⟨l',vs,rfl,h2,r2⟩:=b
   unfold dep at hu
   unfold eqD
   exact RcAt.lstD h1 h2 r1.length r2.length hu' (HReps.eqAt ps r1 r2 (by rw[YQ];lia))
  | dct _ _=>unfold HRep at b;exact b.elim
  | dtt _ _=>unfold HRep at b;exact b.elim
  | fn _=>unfold HRep at b;exact b.elim
  | ty _=>unfold HRep at b;exact b.elim
 | .dct _ _,q,u,v,A,a,b,hu=>by unfold HRep at a;exact a.elim
 | .dtt _ _,q,u,v,A,a,b,hu=>by unfold HRep at a;exact a.elim
 | .fn _,q,u,v,A,a,b,hu=>by unfold HRep at a;exact a.elim
 | .ty _,q,u,v,A,a,b,hu=>by unfold HRep at a;exact a.elim
theorem HRep.rcNeAt:∀(p:PV) {q:PV} {u v:Value} {A:Around},HRep s.heap p u->HRep s.heap q v->A.units + dep p < cLine->RcNeAt A s u v (!eqD p q)
 | .non,q,u,v,A,a,b,hu=>RcNeAt.x_non a b (by lia)
 | .bl x,q,u,v,A,a,b,hu=>RcNeAt.x_bl a b (by lia)
 | .int x,q,u,v,A,a,b,hu=>RcNeAt.x_int a b (by lia)
 | .str x,q,u,v,A,a,b,hu=>RcNeAt.x_str a b (by lia)
 | .tup ps,q,u,v,A,a,b,hu=>by
  have hu':A.units < cLine:=by lia
  cases q with
  | non=>exact RcNeAt.x_tup_non a b hu'
  | bl x=>exact RcNeAt.x_tup_bl a b hu'
  | int x=>exact RcNeAt.x_tup_int a b hu'
  | str x=>exact RcNeAt.x_tup_str a b hu'
  | lst x=>exact RcNeAt.x_tup_lst a b hu'
  | tup qs=>
   have a0:=a;have b0:=b
   unfold HRep at a b;obtain ⟨l,us,rfl,h1,r1⟩:=a;obtain ⟨l',vs,rfl,h2,r2⟩:=b
   unfold dep at hu
   unfold eqD
   exact RcNeAt.tupD h1 h2 r1.length r2.length hu' (HReps.eqAt ps r1 r2 (by rw[YQ];lia))
  | dct _ _=>unfold HRep at b;exact b.elim
  | dtt _ _=>unfold HRep at b;exact b.elim
  | fn _=>unfold HRep at b;exact b.elim
  | ty _=>unfold HRep at b;exact b.elim
 | .lst ps,q,u,v,A,a,b,hu=>by
  have hu':A.units < cLine:=by lia
  cases q with
  | non=>exact RcNeAt.x_lst_non a b hu'
  | bl x=>exact RcNeAt.x_lst_bl a b hu'
  | int x=>exact RcNeAt.x_lst_int a b hu'
  | str x=>exact RcNeAt.x_lst_str a b hu'
  | tup x=>exact RcNeAt.x_lst_tup a b hu'
  | lst qs=>
   have a0:=a;have b0:=b
   unfold HRep at a b;obtain ⟨l,us,rfl,h1,r1⟩:=a;obtain ⟨l',vs,rfl,h2,r2⟩:=b
   unfold dep at hu
   unfold eqD
   exact RcNeAt.lstD h1 h2 r1.length r2.length hu' (HReps.eqAt ps r1 r2 (by rw[YQ];lia))
  | dct _ _=>unfold HRep at b;exact b.elim
  | dtt _ _=>unfold HRep at b;exact b.elim
  | fn _=>unfold HRep at b;exact b.elim
  | ty _=>unfold HRep at b;exact b.elim
 | .dct _ _,q,u,v,A,a,b,hu=>by unfold HRep at a;exact a.elim
 | .dtt _ _,q,u,v,A,a,b,hu=>by unfold HRep at a;exact a.elim
 | .fn _,q,u,v,A,a,b,hu=>by unfold HRep at a;exact a.elim
 | .ty _,q,u,v,A,a,b,hu=>by unfold HRep at a;exact a.elim
end
section
variable {X:Cx}
abbrev rDeep (K:W.Frag)(g:PV->PV->Bool):R2:=fun x y H Q=>∃ι p q,Lies K ι H p x/\Lies K ι H q y/\dat p=true/\dat q=true/\dep p<=60/\Q (.bl (g p q)) H
theorem op_eqD (hu:X.A.units + 64 < cLine):OpR X (YZ .Eq) (rDeep X.K eqD):=by
 intro pins s σ H x y v u Q I rx ry h
 obtain ⟨ι,p,q,lx,ly,dp,dq,de,k⟩:=h
 exact HRep.rcAt p (lx.heap I rx dp) (ly.heap I ry dq) (by lia) X.prog X.w X.xe _ ⟨.bl _,H,I,rfl,k⟩
theorem op_neD (hu:X.A.units + 64 < cLine):OpR X (YZ .NotEq) (rDeep X.K fun p q=>!eqD p q):=by
 intro pins s σ H x y v u Q I rx ry h
 obtain ⟨ι,p,q,lx,ly,dp,dq,de,k⟩:=h
 exact HRep.rcNeAt p (lx.heap I rx dp) (ly.heap I ry dq) (by lia) X.prog X.w X.xe _ ⟨.bl _,H,I,rfl,k⟩
def deepP (g:PV->PV->Bool)(p q:PV):Option PV:=if dat p&&dat q&&decide (dep p<=60) then some (.bl (g p q)) else none
theorem Zda {g:PV->PV->Bool}:L2ok X.K (rDeep X.K g) (deepP g):=by
 intro ι H C p q vx vy z Q cr lx ly e k
 unfold deepP at e
 split at e
 ·rename_i h
  cases e
  simp only[Yp,decide_eq_true_eq] at h
  exact ⟨ι,p,q,lx,ly,h.1.1,h.1.2,h.2,k _ H .refl cr repBl⟩
 ·cases e
theorem hu64 {A:Around}{k:Nat}(hr:Room k A):A.units + 64 < cLine:=hr.units
end
mutual
def ltD:PV->PV->Option Bool
 | .int a,.int b=>some (decide (a < b))
 | .str a,.str b=>some (decide (a.cps.toList < b.cps.toList))
 | .tup xs,.tup ys=>lexD xs ys
 | _,_=>none
def lexD:List PV->List PV->Option Bool
 | [],[]=>some false
 | [],_::_=>some true
 | _::_,[]=>some false
 | x::xs,y::ys=>if eqD x y then lexD xs ys else ltD x y
end
def RcLtAt (A:Around)(s:Shared)(y x:Value)(b:Bool):Prop:=
 ∀(prog:Yo) (w:World) (E:Value->Shared->Prop) (Q:Value->Shared->Prop),Q (.bool b) s->wpAny (model prog w) A (richCompare .Lt y x) Q E s
inductive PairsOk (A:Around)(s:Shared):List PV->List PV->List Value->List Value->Prop
 | nil1 {qs:List PV} {vs:List Value} (h:qs.length=vs.length):PairsOk A s [] qs [] vs
 | nil2 {ps:List PV} {us:List Value} (h:ps.length=us.length):PairsOk A s ps [] us []
 | cons {p q:PV} {u v:Value} {ps qs:List PV} {us vs:List Value} (e:EqAt A s u v (eqD p q)) (l:∀c,ltD p q=some c->RcLtAt A s u v c) (t:PairsOk A s ps qs us vs):PairsOk A s (p::ps) (q::qs) (u::us) (v::vs)
section
open PySem.AutoSeq1 (wpAny_loadPart')
open PySem.MeetsSeq PySem.MeetsSeq2 PySem.MeetsSeq3
theorem lexD_cons (x y:PV)(xs ys:List PV):lexD (x::xs) (y::ys)=if eqD x y then lexD xs ys else ltD x y:=by rw[lexD]
theorem Zbh:lexD [] []=some false:=by rw[lexD]
theorem Zb8 (y:PV)(ys:List PV):lexD [] (y::ys)=some true:=by rw[lexD]
theorem Zb9 (x:PV)(xs:List PV):lexD (x::xs) []=some false:=by rw[lexD]
theorem tuple_ltD (l b:Addr)(items items2:Array Value)(n n2:Nat)(dd dd2:Option Addr)(sl sl2:Array (Option Value))(ps qs:List PV)(c:Bool)(hc:lexD ps qs=some c):
  Meets (VC.«tuple.__lt__» ⟨[.ref l,.ref b],[]⟩)
   (fun A R s=>s.heap.get? l=some { cls:=.type "tuple",dict:=dd,data:=.seq items n,slots:=sl }/\s.heap.get? b=some { cls:=.type "tuple",dict:=dd2,data:=.seq items2 n2,slots:=sl2 }/\
    PairsOk A.in1 s ps qs items.toList items2.toList/\R (.ok (.ret (.bool c))) s):=
 .of_wp fun prog w A R s h=>by
  obtain ⟨hp,g,d,tk,os⟩:=s;obtain ⟨hl,hb,hpr,h⟩:=h
  have f2:=AutoSeq1.sub_tuple_tuple
  wp_walk using VW hl,VW hb,wpAny_forIn_list _ (fun rest b s'=>b.1=none/\s'=⟨hp,g,d,tk,os⟩/\∃(vs ws:List Value) (ps' qs':List PV),rest=vs.zip ws/\
   PairsOk A.in1 ⟨hp,g,d,tk,os⟩ ps' qs' vs ws/\vs.length + items2.size=ws.length + items.size/\lexD ps' qs'=some c) _
  case turn=>
   rintro ⟨y,x⟩ rest b s' ⟨hb',rfl,vs,ws,ps',qs',hz,hpr',hlen,hR⟩
   cases hpr' with
   | nil1 hh=>rw[List.zip_nil_left] at hz;cases hz
   | nil2 hh=>rw[List.zip_nil_right] at hz;cases hz
   | @cons p q u v ps2 qs2 us2 vs2 e lt t=>
    rw[Xf] at hz
    injection hz with hyx hrest
    injection hyx with hy hx
    subst hy hx
    rw[lexD_cons] at hR
    simp only[Ys] at hlen
    refine Yc (e prog w _ _ ?_)
    cases ee:eqD p q with
    | true=>
     rw[ee,if_pos rfl] at hR
     wp_walk
     exact ⟨rfl,rfl,_,_,_,_,hrest,t,by lia,hR⟩
    | false=>
     rw[ee,if_neg Yi] at hR
     have hri:=lt c hR prog w
     wp_walk using hri
     exact ⟨_,rfl,by simpa using h⟩
  case fin=>
   rintro ⟨b1,b2⟩ s' ⟨hb',rfl,vs,ws,ps',qs',hz,hpr',hlen,hR⟩
   simp only at hb'
   subst hb'
   have hv:c=decide (items.size < items2.size):=by
    cases hpr' with
    | nil1 hh=>
     cases qs' with
     | nil=>
      rw[Zbh] at hR;cases hR
      simp only[XD] at hlen hh
      exact (decide_eq_false (by lia)).symm
     | cons q qs2=>
      rw[Zb8] at hR;cases hR
      simp only[XD,Ys] at hlen hh
      exact (decide_eq_true (by lia)).symm
    | nil2 hh=>
     cases ps' with
     | nil=>
      rw[Zbh] at hR;cases hR
      simp only[XD] at hlen hh
      exact (decide_eq_false (by lia)).symm
     | cons q qs2=>
      rw[Zb9] at hR;cases hR
      simp only[XD,Ys] at hlen hh
      exact (decide_eq_false (by lia)).symm
    | cons e lt t=>rw[Xf] at hz;cases hz
   rw[hv] at h
   wp_walk
   exact ⟨_,rfl,by simpa[Builtin.Tuple.tupleCompareSizes] using h⟩
  case h=>
   exact ⟨rfl,rfl,items.toList,items2.toList,ps,qs,rfl,hpr,by simp;lia,hc⟩
end
section
variable {s:Shared}
theorem RcLtAt.int (a:Int)(t:Tok)(c:Int)(u:Tok)(A:Around):RcLtAt A s (.int a t) (.int c u) (decide (a < c)):=fun prog w E Q h=>
 (PyProof.Rows.lt_int h:wpAny (model prog w) A (YZ .Lt (.int a t) (.int c u)) Q E s)
theorem RcLtAt.str (a:Str)(t:Tok)(c:Str)(u:Tok)(A:Around):RcLtAt A s (.str a t) (.str c u) (decide (a.cps.toList < c.cps.toList)):=fun prog w E Q h=>
 (PyProof.Rows.lt_str h:wpAny (model prog w) A (YZ .Lt (.str a t) (.str c u)) Q E s)
theorem RcLtAt.tup {A:Around}{l b:Addr}{us vs:List Value}{ps qs:List PV}{c:Bool}(hl:s.heap.IsTuple l us.toArray)(hb:s.heap.IsTuple b vs.toArray)(hu:A.units < cLine)(hp:PairsOk A.in1 s ps qs us vs)(hc:lexD ps qs=some c):
  RcLtAt A s (.ref l) (.ref b) c:=fun prog w E Q h=>by
 obtain ⟨⟨cls,dd,data,sl⟩,ho,hcl,n,hd⟩:=id hl
 obtain ⟨⟨cls2,dd2,data2,sl2⟩,ho2,hcl2,n2,hd2⟩:=id hb
 simp only at hcl hd hcl2 hd2
 subst hcl hd hcl2 hd2
 exact richCompare_meets_room (op:=.Lt) ⟨_,ho,rfl⟩ ⟨_,ho2,rfl⟩ PySem.F.slot_tuple_lt PySem.F.entry_tuple_lt (PySem.F.args_tuple_lt_2 _ _) (tuple_ltD l b us.toArray vs.toArray n n2 dd dd2 sl sl2 ps qs c hc)
  ⟨ho,ho2,hp,show Vh c≠Value.notImplemented/\Q (.bool c) s from ⟨(fun x=>nomatch x),h⟩⟩ hu
mutual
theorem HRep.rcLt:∀(p:PV) {q:PV} {u v:Value} {A:Around} {c:Bool},HRep s.heap p u->HRep s.heap q v->A.units + dep p < cLine->ltD p q=some c->RcLtAt A s u v c
 | .int x,q,u,v,A,c,a,b,hu,e=>by
  cases q with
  | int y=>
   unfold HRep at a b;obtain ⟨t,rfl⟩:=a;obtain ⟨t',rfl⟩:=b
   unfold ltD at e;cases e;exact .int _ _ _ _ _
  | _=>unfold ltD at e;cases e
 | .str x,q,u,v,A,c,a,b,hu,e=>by
  cases q with
  | str y=>
   unfold HRep at a b;obtain ⟨t,rfl⟩:=a;obtain ⟨t',rfl⟩:=b
   unfold ltD at e;cases e;exact .str _ _ _ _ _
  | _=>unfold ltD at e;cases e
 | .tup ps,q,u,v,A,c,a,b,hu,e=>by
  cases q with
  | tup qs=>
   unfold HRep at a b;obtain ⟨l,us,rfl,h1,r1⟩:=a;obtain ⟨l',vs,rfl,h2,r2⟩:=b
   unfold ltD at e
   unfold dep at hu
   exact .tup h1 h2 (by lia) (HReps.pairs ps r1 r2 (by rw[YQ];lia)) e
  | _=>unfold ltD at e;cases e
 | .non,q,u,v,A,c,a,b,hu,e=>by unfold ltD at e;cases e
 | .bl _,q,u,v,A,c,a,b,hu,e=>by unfold ltD at e;cases e
 | .lst _,q,u,v,A,c,a,b,hu,e=>by unfold ltD at e;cases e
 | .dct _ _,q,u,v,A,c,a,b,hu,e=>by unfold ltD at e;cases e
 | .dtt _ _,q,u,v,A,c,a,b,hu,e=>by unfold ltD at e;cases e
 | .fn _,q,u,v,A,c,a,b,hu,e=>by unfold ltD at e;cases e
 | .ty _,q,u,v,A,c,a,b,hu,e=>by unfold ltD at e;cases e
theorem HReps.pairs:∀(ps:List PV) {qs:List PV} {us vs:List Value} {A:Around},HReps s.heap ps us->HReps s.heap qs vs->A.units + deps ps < cLine->PairsOk A s ps qs us vs
 | [],qs,us,vs,A,a,b,hu=>by
  have:=b.length
  unfold HReps at a;subst a
  exact .nil1 this
 | p::ps,qs,us,vs,A,a,b,hu=>by
  cases qs with
  | nil=>
   have:=a.length
   unfold HReps at b;subst b
   exact .nil2 this
  | cons q qs=>
   unfold HReps at a b;obtain ⟨x,r,rfl,a1,a2⟩:=a;obtain ⟨y,r',rfl,b1,b2⟩:=b
   unfold deps at hu
   exact .cons (HRep.eqAt p a1 b1 (by lia)) (fun c e=>HRep.rcLt p a1 b1 (by lia) e) (HReps.pairs ps a2 b2 (by lia))
end
end
section
variable {X:Cx}
def rLtD (K:W.Frag):R2:=fun x y H Q=>∃ι p q c,Lies K ι H p x/\Lies K ι H q y/\dat p=true/\dat q=true/\dep p<=60/\ltD p q=some c/\Q (.bl c) H
theorem op_ltD (hu:X.A.units + 64 < cLine):OpR X (YZ .Lt) (rLtD X.K):=by
 intro pins s σ H x y v u Q I rx ry h
 obtain ⟨ι,p,q,c,lx,ly,dp,dq,de,e,k⟩:=h
 exact HRep.rcLt p (lx.heap I rx dp) (ly.heap I ry dq) (by lia) e X.prog X.w X.xe _ ⟨.bl _,H,I,rfl,k⟩
def ltDP (p q:PV):Option PV:=if dat p&&dat q&&decide (dep p<=60) then (ltD p q).map .bl else none
theorem ltD_ok:L2ok X.K (rLtD X.K) ltDP:=by
 intro ι H C p q vx vy z Q cr lx ly e k
 unfold ltDP at e
 split at e
 ·rename_i h
  simp only[Yp,decide_eq_true_eq] at h
  cases hc:ltD p q with
  | none=>rw[hc] at e;cases e
  | some c=>rw[hc] at e;cases e;exact ⟨ι,p,q,c,lx,ly,h.1.1,h.1.2,h.2,hc,k _ H .refl cr repBl⟩
 ·cases e
end
end Pu
namespace Pu
open PySem PySem.W
open PyProof.Rows hiding St Fr
def runT {α:Type}(o:Nat->Nat->Bool):KasT α->α
 | .ret a=>a
 | .ask i j k=>runT o (k (o i j))
theorem Zbn {α β:Type}(o:Nat->Nat->Bool)(f:α->KasT β):∀t:KasT α,runT o (t.bind f)=runT o (f (runT o t))
 | .ret _=>rfl
 | .ask i j k=>Zbn o f (k (o i j))
structure Wk (lt:Nat->Nat->Bool):Prop where
 irr:∀a,lt a a=false
 asy:∀a b,lt a b=true->lt b a=false
 tr:∀a b c,lt b a=false->lt c b=false->lt c a=false
section
variable {lt:Nat->Nat->Bool}
def Srt (lt:Nat->Nat->Bool)(p:Array Nat)(k:Nat):Prop:=∀i j,i<=j->j < k->lt (p.getD j 0) (p.getD i 0)=false
def Non (lt:Nat->Nat->Bool)(p:Array Nat)(k:Nat):Prop:=∀i j,i<=j->j < k->lt (p.getD i 0) (p.getD j 0)=false
def Eqv (lt:Nat->Nat->Bool)(p:Array Nat)(a b:Nat):Prop:=∀i j,a<=i->i < b->a<=j->j < b->lt (p.getD i 0) (p.getD j 0)=false
theorem ZcK {p:Array Nat}{i j:Nat}(hj:j<=p.size)(k:Nat):(Wn p i j).getD k 0=if i<=k/\k < j then p.getD (i + j - 1 - k) 0 else p.getD k 0:=by
 unfold Wn
 rw[YR,getElem?_mirror_all hj]
 split<;>rw[YR]
theorem getD_bub {p:Array Nat}{k l:Nat}(hk:k < p.size)(hl:l<=k)(i:Nat):(bubble p k (k - l)).getD i 0=if i=l then p.getD k 0 else if l < i/\i<=k then p.getD (i - 1) 0 else p.getD i 0:=by
 rw[YR,getElem?_bubble hk _ (by lia),show k - (k - l)=l by lia]
 by_cases h:i=l
 ·rw[if_pos h,if_pos h,YR]
 ·rw[if_neg h,if_neg h]
  by_cases h2:l < i/\i<=k
  ·rw[if_pos h2,if_pos h2,YR]
  ·rw[if_neg h2,if_neg h2,YR]
theorem Srt.step (W:Wk lt){p:Array Nat}{k:Nat}(h:Srt lt p k)(h1:1<=k)(e:lt (p.getD k 0) (p.getD (k - 1) 0)=false):Srt lt p (k + 1):=by
 intro i j hij hj
 by_cases hjk:j < k
 ·exact h i j hij hjk
 ·have:j=k:=by lia
  subst this
  by_cases hi:i=j
  ·subst hi;exact W.irr _
  ·exact W.tr _ _ _ (h i (j - 1) (by lia) (by lia)) e
theorem Non.step (W:Wk lt){p:Array Nat}{k:Nat}(h:Non lt p k)(h1:1<=k)(e:lt (p.getD (k - 1) 0) (p.getD k 0)=false):Non lt p (k + 1):=by
 intro i j hij hj
 by_cases hjk:j < k
 ·exact h i j hij hjk
 ·have:j=k:=by lia
  subst this
  by_cases hi:i=j
  ·subst hi;exact W.irr _
  ·exact W.tr _ _ _ e (h i (j - 1) (by lia) (by lia))
theorem Non.rev (W:Wk lt){p:Array Nat}{m a b:Nat}(h:Non lt p m)(hab:a<=b)(hb:b<=m)(hm:m<=p.size)(e:Eqv lt p a b):Non lt (Wn p a b) m:=by
 intro i j hij hj
 rw[ZcK (by lia),ZcK (by lia)]
 by_cases hi:a<=i/\i < b
 ·by_cases hj2:a<=j/\j < b
  ·rw[if_pos hi,if_pos hj2];exact e _ _ (by lia) (by lia) (by lia) (by lia)
  ·rw[if_pos hi,if_neg hj2];exact h _ _ (by lia) (by lia)
 ·by_cases hj2:a<=j/\j < b
  ·rw[if_neg hi,if_pos hj2];exact h _ _ (by lia) (by lia)
  ·rw[if_neg hi,if_neg hj2];exact h _ _ hij hj
theorem Non.srt {p:Array Nat}{n:Nat}(h:Non lt p n)(hn:n<=p.size):Srt lt (Wn p 0 n) n:=by
 intro i j hij hj
 rw[ZcK hn,ZcK hn,if_pos (by lia),if_pos (by lia)]
 exact h _ _ (by lia) (by lia)
theorem asc_ok (W:Wk lt)(p:Array Nat):∀(f n:Nat),1<=n->Srt lt p n->
  n<=runT lt (WD p f n)/\runT lt (WD p f n)<=n + f/\Srt lt p (runT lt (WD p f n))/\(runT lt (WD p f n) < n + f->lt (p.getD (runT lt (WD p f n)) 0) (p.getD (runT lt (WD p f n) - 1) 0)=true)
 | 0,n,h1,h=>⟨Yx _,Yx _,h,fun z=>absurd z (Xs _)⟩
 | f + 1,n,h1,h=>by
  show n<=runT lt (if lt (p.getD n 0) (p.getD (n - 1) 0)=true then V5 n else WD p f (n + 1))/\runT lt (if lt (p.getD n 0) (p.getD (n - 1) 0)=true then V5 n else WD p f (n + 1))<=n + (f + 1)/\
   Srt lt p (runT lt (if lt (p.getD n 0) (p.getD (n - 1) 0)=true then V5 n else WD p f (n + 1)))/\(runT lt (if lt (p.getD n 0) (p.getD (n - 1) 0)=true then V5 n else WD p f (n + 1)) < n + (f + 1)->
    lt (p.getD (runT lt (if lt (p.getD n 0) (p.getD (n - 1) 0)=true then V5 n else WD p f (n + 1))) 0) (p.getD (runT lt (if lt (p.getD n 0) (p.getD (n - 1) 0)=true then V5 n else WD p f (n + 1)) - 1) 0)=true)
  by_cases c:lt (p.getD n 0) (p.getD (n - 1) 0)=true
  ·rw[if_pos c];exact ⟨Yx _,Nat.le_add_right _ _,h,fun _=>c⟩
  ·rw[if_neg c]
   obtain ⟨a1,a2,a3,a4⟩:=asc_ok W p f (n + 1) (by lia) (h.step W h1 (by simpa using c))
   exact ⟨by lia,by lia,a3,fun z=>a4 (by lia)⟩
structure DS (lt:Nat->Nat->Bool)(N:Nat)(p0 p:Array Nat)(n q:Nat):Prop where
 sz:p.size=p0.size
 pm:p.Perm p0
 n1:1<=n
 nN:n<=N
 q1:q + 1<=n
 non:Non lt p n
 eqv:Eqv lt p (n - (q + 1)) n
theorem desc_ok (W:Wk lt){p0:Array Nat}{N:Nat}(hN:N<=p0.size):∀(f:Nat) (p:Array Nat) (n q:Nat),DS lt N p0 p n q->n + f=N->
  DS lt N p0 (runT lt (XG f p n q)).1 (runT lt (XG f p n q)).2.1 (runT lt (XG f p n q)).2.2
 | 0,p,n,q,D,_=>D
 | f + 1,p,n,q,D,hf=>by
  show DS lt N p0 (runT lt (if lt (p.getD n 0) (p.getD (n - 1) 0)=true then (if q > 0 then XG f (Wn p (n - (q + 1)) n) (n + 1) 0 else XG f p (n + 1) 0) else .ask (p.getD (n - 1) 0) (p.getD n 0) fun d=>if d=true then .ret (p,n,q) else XG f p (n + 1) (q + 1))).1
   (runT lt (if lt (p.getD n 0) (p.getD (n - 1) 0)=true then (if q > 0 then XG f (Wn p (n - (q + 1)) n) (n + 1) 0 else XG f p (n + 1) 0) else .ask (p.getD (n - 1) 0) (p.getD n 0) fun d=>if d=true then .ret (p,n,q) else XG f p (n + 1) (q + 1))).2.1
   (runT lt (if lt (p.getD n 0) (p.getD (n - 1) 0)=true then (if q > 0 then XG f (Wn p (n - (q + 1)) n) (n + 1) 0 else XG f p (n + 1) 0) else .ask (p.getD (n - 1) 0) (p.getD n 0) fun d=>if d=true then .ret (p,n,q) else XG f p (n + 1) (q + 1))).2.2
  have hsz:=D.sz
  have hq1:=D.q1
  have hn1:=D.n1
  have one:∀p':Array Nat,Eqv lt p' (n + 1 - (0 + 1)) (n + 1):=fun p' i j a b c d=>by
   have:i=j:=by lia
   subst this;exact W.irr _
  by_cases c:lt (p.getD n 0) (p.getD (n - 1) 0)=true
  ·rw[if_pos c]
   have hn:=D.non.step W D.n1 (W.asy _ _ c)
   by_cases hq:q > 0
   ·rw[if_pos hq]
    exact desc_ok W hN f _ _ _ ⟨by unfold Wn;rw[V3];exact hsz,(VE _ _ _ _).trans D.pm,by lia,by lia,by lia,hn.rev W (by lia) (by lia) (by lia) D.eqv,one _⟩ (by lia)
   ·rw[if_neg hq]
    exact desc_ok W hN f _ _ _ ⟨hsz,D.pm,by lia,by lia,by lia,hn,one _⟩ (by lia)
  ·rw[if_neg c]
   show DS lt N p0 (runT lt (if lt (p.getD (n - 1) 0) (p.getD n 0)=true then .ret (p,n,q) else XG f p (n + 1) (q + 1))).1 (runT lt (if lt (p.getD (n - 1) 0) (p.getD n 0)=true then .ret (p,n,q) else XG f p (n + 1) (q + 1))).2.1 (runT lt (if lt (p.getD (n - 1) 0) (p.getD n 0)=true then .ret (p,n,q) else XG f p (n + 1) (q + 1))).2.2
   by_cases d:lt (p.getD (n - 1) 0) (p.getD n 0)=true
   ·rw[if_pos d];exact D
   ·rw[if_neg d]
    have c':lt (p.getD n 0) (p.getD (n - 1) 0)=false:=by simpa using c
    have d':lt (p.getD (n - 1) 0) (p.getD n 0)=false:=by simpa using d
    refine desc_ok W hN f _ _ _ ⟨hsz,D.pm,by lia,by lia,by lia,D.non.step W D.n1 d',?_⟩ (by lia)
    intro i j a1 a2 b1 b2
    by_cases hi:i=n
    ·by_cases hj:j=n
     ·subst hi;subst hj;exact W.irr _
     ·subst hi;exact W.tr _ _ _ (D.eqv _ _ (by lia) (by lia) (by lia) (by lia)) c'
    ·by_cases hj:j=n
     ·subst hj;exact W.tr _ _ _ d' (D.eqv _ _ (by lia) (by lia) (by lia) (by lia))
     ·exact D.eqv _ _ (by lia) (by lia) (by lia) (by lia)
structure CS (lt:Nat->Nat->Bool)(N:Nat)(p0:Array Nat)(r:Nat×Array Nat):Prop where
 sz:r.2.size=p0.size
 pm:r.2.Perm p0
 n1:1<=r.1
 nN:r.1<=N
 srt:Srt lt r.2 r.1
theorem tail3_ok (W:Wk lt){p0 p:Array Nat}{N n:Nat}(hN:N<=p0.size)(hs:p.size=p0.size)(hp:p.Perm p0)(h1:1<=n)(hn:n<=N)(h:Non lt p n):CS lt N p0 (runT lt (kas_tail3 n N p)):=by
 unfold kas_tail3
 rw[Zbn]
 obtain ⟨a1,a2,a3,_⟩:=asc_ok W (Wn p 0 n) (N - n) n h1 (h.srt (by lia))
 exact ⟨by show (Wn p 0 n).size=_;unfold Wn;rw[V3];exact hs,(VE _ _ _ _).trans hp,by show 1<=runT lt (WD (Wn p 0 n) (N - n) n);lia,by show runT lt (WD (Wn p 0 n) (N - n) n)<=N;lia,a3⟩
theorem Zc8 (W:Wk lt){p0 p:Array Nat}{N n:Nat}(hN:N<=p0.size)(hs:p.size=p0.size)(hp:p.Perm p0)(h1:1<=n)(hn:n + 1<=N)(h:Non lt p (n + 1)):CS lt N p0 (runT lt (VX n N p)):=by
 unfold VX
 rw[Zbn]
 have D:=desc_ok W hN (N - (n + 1)) p (n + 1) 0 ⟨hs,hp,by lia,hn,by lia,h,fun i j a b c d=>(show i=j by lia) ▸ W.irr _⟩ (by lia)
 generalize runT lt (XG (N - (n + 1)) p (n + 1) 0)=r at D ⊢
 have hsz:=D.sz
 have hnN:=D.nN
 by_cases hq:r.2.2 > 0
 ·rw[if_pos hq]
  exact tail3_ok W hN (by unfold Wn;rw[V3];exact hsz) ((VE _ _ _ _).trans D.pm) D.n1 D.nN (D.non.rev W (by lia) (by lia) (by lia) D.eqv)
 ·rw[if_neg hq]
  exact tail3_ok W hN hsz D.pm D.n1 D.nN D.non
theorem count_ok (W:Wk lt){p:Array Nat}{N:Nat}(hN:N<=p.size)(h1:1<=N):CS lt N p (runT lt (kas_count N p)):=by
 unfold kas_count
 rw[Zbn]
 have s1:Srt lt p 1:=fun i j a b=>(show i=j by lia) ▸ W.irr _
 obtain ⟨a1,a2,a3,a4⟩:=asc_ok W p (N - 1) 1 (by lia) s1
 generalize runT lt (WD p (N - 1) 1)=n at a1 a2 a3 a4 ⊢
 by_cases e:(n==N)=true
 ·rw[if_pos e];exact ⟨rfl,Vn _,a1,by show n<=N;lia,a3⟩
 ·rw[if_neg e]
  have e':n≠N:=by simpa using e
  have st:=a4 (by lia)
  by_cases hn:n > 1
  ·rw[if_pos hn]
   show CS lt N p (runT lt (if lt (p.getD 0 0) (p.getD (n - 1) 0)=true then .ret (n,p) else VX n N (Wn p 0 n)))
   by_cases c:lt (p.getD 0 0) (p.getD (n - 1) 0)=true
   ·rw[if_pos c];exact ⟨rfl,Vn _,a1,by show n<=N;lia,a3⟩
   ·rw[if_neg c]
    have c':lt (p.getD 0 0) (p.getD (n - 1) 0)=false:=by simpa using c
    have eq:Eqv lt p 0 n:=fun i j _ hi _ hj=>
     W.tr _ _ _ (W.tr _ _ _ (a3 j (n - 1) (by lia) (by lia)) c') (a3 0 i (by lia) hi)
    have non:Non lt p n:=fun i j _ hj=>eq i j (by lia) (by lia) (by lia) hj
    have non1:=non.step W a1 (W.asy _ _ st)
    exact Zc8 W hN (by unfold Wn;rw[V3]) (VE _ _ _ _) a1 (by lia) (non1.rev W (by lia) (by lia) (by lia) eq)
  ·rw[if_neg hn]
   have:n=1:=by lia
   subst this
   have non:Non lt p 1:=fun i j a b=>(show i=j by lia) ▸ W.irr _
   exact Zc8 W hN rfl (Vn _) (by lia) (by lia) (non.step W (by lia) (W.asy _ _ st))
theorem place_ok (W:Wk lt){p:Array Nat}{k:Nat}(hs:Srt lt p k):∀(f l r:Nat),r - l<=f->l<=r->r<=k->(∀i,i < l->lt (p.getD k 0) (p.getD i 0)=false)->(∀i,r<=i->i < k->lt (p.getD k 0) (p.getD i 0)=true)->
  runT lt (Wh p k f l r)<=k/\(∀i,i < runT lt (Wh p k f l r)->lt (p.getD k 0) (p.getD i 0)=false)/\(∀i,runT lt (Wh p k f l r)<=i->i < k->lt (p.getD k 0) (p.getD i 0)=true)
 | 0,l,r,hf,hlr,hr,hl,hg=>⟨by show l<=k;lia,hl,fun i a b=>hg i (YB (by lia:r<=l) a) b⟩
 | f + 1,l,r,hf,hlr,hr,hl,hg=>by
  unfold Wh
  by_cases c:l ≥ r
  ·rw[if_pos c];exact ⟨by show l<=k;lia,hl,fun i a b=>hg i (YB (by lia:r<=l) a) b⟩
  ·rw[if_neg c]
   generalize hm:(l + r) / 2=m
   show runT lt (if lt (p.getD k 0) (p.getD m 0)=true then Wh p k f l m else Wh p k f (m + 1) r)<=k/\(∀i,i < runT lt (if lt (p.getD k 0) (p.getD m 0)=true then Wh p k f l m else Wh p k f (m + 1) r)->lt (p.getD k 0) (p.getD i 0)=false)/\
    (∀i,runT lt (if lt (p.getD k 0) (p.getD m 0)=true then Wh p k f l m else Wh p k f (m + 1) r)<=i->i < k->lt (p.getD k 0) (p.getD i 0)=true)
   by_cases d:lt (p.getD k 0) (p.getD m 0)=true
   ·rw[if_pos d]
    refine place_ok W hs f l m (by lia) (by lia) (by lia) hl fun i a b=>?_
    cases z:lt (p.getD k 0) (p.getD i 0) with
    | true=>rfl
    | false=>rw[W.tr _ _ _ (hs m i a b) z] at d;cases d
   ·rw[if_neg d]
    refine place_ok W hs f (m + 1) r (by lia) (by lia) (by lia) (fun i a=>?_) hg
    exact W.tr _ _ _ (hs i m (by lia) (by lia)) (by simpa using d)
theorem bub_ok (W:Wk lt){p:Array Nat}{k l:Nat}(hs:Srt lt p k)(hk:k < p.size)(hl:l<=k)(h1:∀i,i < l->lt (p.getD k 0) (p.getD i 0)=false)(h2:∀i,l<=i->i < k->lt (p.getD k 0) (p.getD i 0)=true):Srt lt (bubble p k (k - l)) (k + 1):=by
 intro i j hij hj
 rw[getD_bub hk hl,getD_bub hk hl]
 by_cases hjl:j=l
 ·rw[if_pos hjl]
  by_cases hil:i=l
  ·rw[if_pos hil];exact W.irr _
  ·rw[if_neg hil,if_neg (by lia)];exact h1 i (by lia)
 ·rw[if_neg hjl]
  by_cases hil:i=l
  ·rw[if_pos hil,if_pos (by lia)];exact W.asy _ _ (h2 _ (by lia) (by lia))
  ·rw[if_neg hil]
   by_cases hj2:l < j/\j<=k
   ·rw[if_pos hj2]
    by_cases hi2:l < i/\i<=k
    ·rw[if_pos hi2];exact hs _ _ (by lia) (by lia)
    ·rw[if_neg hi2];exact hs _ _ (by lia) (by lia)
   ·rw[if_neg hj2,if_neg (by lia)];exact hs _ _ hij (by lia)
theorem bin_ok (W:Wk lt):∀(f:Nat) (p:Array Nat) (k:Nat),Srt lt p k->k + f<=p.size->(runT lt (kas_bin f p k)).Perm p/\Srt lt (runT lt (kas_bin f p k)) (k + f)
 | 0,p,k,h,_=>⟨Vn _,h⟩
 | f + 1,p,k,h,hs=>by
  unfold kas_bin
  rw[Zbn]
  obtain ⟨a1,a2,a3⟩:=place_ok W h k 0 k (by lia) (by lia) (by lia) (fun i z=>absurd z (by lia)) (fun i z y=>absurd z (by lia))
  generalize runT lt (Wh p k k 0 k)=l at a1 a2 a3 ⊢
  obtain ⟨b1,b2⟩:=bin_ok W f (bubble p k (k - l)) (k + 1) (bub_ok W h (by lia) a1 a2 a3) (by rw[bubble_size];lia)
  exact ⟨b1.trans (bubble_perm _ _ _),by rw[show k + (f + 1)=k + 1 + f by lia];exact b2⟩
theorem sort_ok (W:Wk lt){n:Nat}(h1:1<=n):(runT lt (Xi n)).Perm (X2 (YT n))/\Srt lt (runT lt (Xi n)) n:=by
 unfold Xi
 rw[Zbn]
 have C:=count_ok W (p:=X2 (YT n)) (N:=n) (by simp) h1
 generalize runT lt (kas_count n (X2 (YT n)))=r at C ⊢
 have hsz:r.2.size=n:=by rw[C.sz];simp
 have hn:=C.nN
 have hn1:=C.n1
 by_cases c:r.1 < n
 ·rw[if_pos c]
  have e:max r.1 1=r.1:=by lia
  rw[e]
  obtain ⟨b1,b2⟩:=bin_ok W (n - r.1) r.2 r.1 C.srt (by lia)
  exact ⟨b1.trans C.pm,by rw[show r.1 + (n - r.1)=n by lia] at b2;exact b2⟩
 ·rw[if_neg c]
  exact ⟨C.pm,fun i j a b=>C.srt i j a (by lia)⟩
end
def InR {α:Type}(n:Nat)(P:α->Prop):KasT α->Prop
 | .ret a=>P a
 | .ask i j k=>i < n/\j < n/\∀b,InR n P (k b)
theorem InR.bind {α β:Type}{n:Nat}{P:α->Prop}{Q:β->Prop}{f:α->KasT β}(hf:∀a,P a->InR n Q (f a)):∀{t:KasT α},InR n P t->InR n Q (t.bind f)
 | .ret a,h=>hf a h
 | .ask i j k,h=>⟨h.1,h.2.1,fun b=>InR.bind hf (h.2.2 b)⟩
def AllIn (n:Nat)(p:Array Nat):Prop:=0 < n/\p.size=n/\∀x,x∈p.toList->x < n
theorem AllIn.at {n:Nat}{p:Array Nat}(h:AllIn n p)(i:Nat):p.getD i 0 < n:=by
 rw[YR]
 cases e:p[i]? with
 | none=>exact h.1
 | some x=>
  refine h.2.2 x ?_
  rw[Array.mem_toList_iff]
  exact Array.mem_of_getElem? e
theorem AllIn.perm {n:Nat}{p q:Array Nat}(h:AllIn n p)(e:q.Perm p):AllIn n q:=⟨h.1,by rw[←h.2.1,←Yy,←Yy];exact (Wz.mp e).length_eq,fun x hx=>h.2.2 x ((Wz.mp e).mem_iff.mp hx)⟩
theorem AllIn.rev {n:Nat}{p:Array Nat}(h:AllIn n p)(i j:Nat):AllIn n (Wn p i j):=h.perm (VE _ _ _ _)
theorem asc_in {n:Nat}{p:Array Nat}(h:AllIn n p):∀(f m:Nat),InR n (fun _=>True) (WD p f m)
 | 0,m=>trivial
 | f + 1,m=>⟨h.at _,h.at _,fun b=>by cases b<;>first | exact asc_in h f (m + 1) | trivial⟩
theorem desc_in {n:Nat}:∀(f:Nat) (p:Array Nat) (m q:Nat),AllIn n p->InR n (fun r=>AllIn n r.1) (XG f p m q)
 | 0,p,m,q,h=>h
 | f + 1,p,m,q,h=>⟨h.at _,h.at _,fun b=>by
  cases b with
  | true=>
   show InR n _ (if q > 0 then XG f (Wn p (m - (q + 1)) m) (m + 1) 0 else XG f p (m + 1) 0)
   split
   ·exact desc_in f _ _ _ (h.rev _ _)
   ·exact desc_in f _ _ _ h
  | false=>
   exact ⟨h.at _,h.at _,fun d=>by cases d<;>first | exact desc_in f _ _ _ h | exact h⟩⟩
theorem tail3_in {n m nrem:Nat}{p:Array Nat}(h:AllIn n p):InR n (fun r=>AllIn n r.2) (kas_tail3 m nrem p):=by
 unfold kas_tail3
 refine InR.bind (P:=fun _=>True) (fun k _=>?_) (asc_in (h.rev _ _) _ _)
 show AllIn n (Wn p 0 m)
 exact h.rev 0 m
theorem Zc9 {n m nrem:Nat}{p:Array Nat}(h:AllIn n p):InR n (fun r=>AllIn n r.2) (VX m nrem p):=InR.bind (fun r hr=>by
 split
 ·exact tail3_in (hr.rev _ _)
 ·exact tail3_in hr) (desc_in _ _ _ _ h)
theorem count_in {n nrem:Nat}{p:Array Nat}(h:AllIn n p):InR n (fun r=>AllIn n r.2) (kas_count nrem p):=InR.bind (fun m _=>by
 split
 ·exact h
 ·split
  ·exact ⟨h.at _,h.at _,fun b=>by cases b<;>first | exact Zc9 (h.rev _ _) | exact h⟩
  ·exact Zc9 h) (asc_in h _ _)
theorem place_in {n k:Nat}{p:Array Nat}(h:AllIn n p):∀(f l r:Nat),InR n (fun _=>True) (Wh p k f l r)
 | 0,l,r=>trivial
 | f + 1,l,r=>by
  unfold Wh
  split
  ·trivial
  ·exact ⟨h.at _,h.at _,fun b=>by cases b<;>exact place_in h f _ _⟩
theorem bin_in {n:Nat}:∀(f:Nat) (p:Array Nat) (k:Nat),AllIn n p->InR n (AllIn n) (kas_bin f p k)
 | 0,p,k,h=>h
 | f + 1,p,k,h=>InR.bind (fun l _=>bin_in f _ _ (h.perm (bubble_perm _ _ _))) (place_in h _ _ _)
theorem ZbU {n:Nat}(h1:1<=n):InR n (AllIn n) (Xi n):=by
 have h:AllIn n (X2 (YT n)):=⟨h1,by simp,fun x hx=>by simpa using hx⟩
 refine InR.bind (fun r hr=>?_) (count_in h)
 split
 ·exact bin_in _ _ _ hr
 ·exact hr
theorem wp_run {α:Type}{n:Nat}{P:α->Prop}{o:Nat->Nat->Bool}{cmp:Nat->Nat->(Bool->Shared->Prop)->Shared->Prop}{Q:α->Shared->Prop}{s:Shared}
  (hc:∀i j (C:Bool->Shared->Prop),i < n->j < n->C (o i j) s->cmp i j C s):∀(t:KasT α),InR n P t->Q (runT o t) s->t.kasWp cmp Q s
 | .ret a,_,h=>h
 | .ask i j k,hi,h=>hc i j _ hi.1 hi.2.1 (wp_run hc (k (o i j)) (hi.2.2 _) h)
theorem ZcT {α:Type}{n:Nat}{P:α->Prop}{o:Nat->Nat->Bool}:∀(t:KasT α),InR n P t->P (runT o t)
 | .ret a,h=>h
 | .ask i j k,h=>ZcT (k (o i j)) (h.2.2 _)
end Pu
namespace Pu
open PySem PySem.W PySem.Calls
open PyProof.Rows hiding St Fr
section
variable {prog:Yo}{w:World}{A:Around}{E:Value->Shared->Prop}{s:Shared}{a l:Addr}{vs:List Value}{κ:VF}{o:Nat->Nat->Bool}
def KeepBut (a:Addr)(h h':Heap):Prop:=∀b u,b≠a->h.get? b=some u->h'.get? b=some u
def outs (o:Nat->Nat->Bool)(vs:List Value):List Value:=(runT o (Xi vs.length)).toList.map fun i=>vs.getD i Xk
theorem lsort_at {n:Nat}{P:PySem.Fin->Shared->Prop}(ho:s.heap.get? a=some (seqObj "list" vs.toArray n))(h2:2<=vs.length)(h64:vs.length < 64)
  (hk:∀h',KeepBut a s.heap h'->∀Q:VF->Shared->Prop,Q κ { s with heap:=h' }->wpAny (model prog w) A (keyKind' vs.toArray) Q (fun _ _=>False) { s with heap:=h' })
  (hc:∀h',KeepBut a s.heap h'->∀i j (C:Bool->Shared->Prop),i < vs.length->j < vs.length->C (o i j) { s with heap:=h' }->kas_ask prog w A κ vs i j C { s with heap:=h' })
  (h:∀h' c,KeepBut a s.heap h'->h'.get? a=some (seqObj "list" (outs o vs).toArray c)->P (.done (.ret .none)) { s with heap:=h' }):
  wpAny (model prog w) A (VC.«list.sort» ⟨[.ref a],[]⟩) P E s:=by
 have s1:=Wb s.heap a (Xx fun _=>(#[]:Array Value))
 obtain ⟨c1,ho1⟩:∃c1,(s.heap.update a (Xx fun _=>(#[]:Array Value))).get? a=some (seqObj "list" #[] c1):=⟨_,WT ho fun _=>#[]⟩
 have hlt:a < s.heap.objs.size:=Yq ho
 generalize hg:((s.heap.update a (Xx fun _=>(#[]:Array Value))).push (seqObj "tuple" vs.toArray 0)).push (seqObj "list" #[] 0)=g3
 have kb:KeepBut a s.heap g3:=fun b u nb e=>by
  rw[←hg]
  refine Yb _ (Yb _ ?_)
  rw[XE _ _ _ _ nb];exact e
 have g3a:g3.get? a=some (seqObj "list" #[] c1):=by rw[←hg];exact Yb _ (Yb _ ho1)
 rw[list_sort_plain]
 refine Yc (VY ho rfl ?_);refine Yc (Vg ho rfl ?_ (by rw[Yl,YE];lia) (X9 _))
 refine Yc (V4 ho1 rfl ?_);refine Yc (wpAny_newTuple ?_ (by show vs.length<=_;rw[YE];lia))
 refine Yc (WU ?_ (X9 _));refine Y6 ?_
 show wpAny (model prog w) A _ P E { s with heap:=((s.heap.update a (Xx fun _=>(#[]:Array Value))).push (seqObj "tuple" vs.toArray 0)).push (seqObj "list" #[] 0) }
 rw[hg]
 dsimp only
 have n2:¬vs.toArray.size < 2:=by rw[Yl];lia
 rw[if_neg n2,if_neg n2]
 refine Yc (XV (hk g3 kb (fun k s'=>k=κ/\s'={ s with heap:=g3 }) ⟨rfl,rfl⟩) (fun k s' e=>?_) fun _ _ x=>x.elim)
 obtain ⟨rfl,rfl⟩:=e
 refine Yc (XV (kat_run (ks:=vs) (vs:=vs) (Q:=fun st' s'=>∃p:Array Nat,p.size=vs.length/\arrOf st'=p.map (kas_item (vs.toArray.zip vs.toArray))/\failedOf st'=none/\p=runT o (Xi vs.length)/\s'={ s with heap:=g3 })
  (G:=fun p s'=>p=runT o (Xi vs.length)/\s'={ s with heap:=g3 }) rfl h2 h64 (fun p st' s' a1 a2 a3 a4=>⟨p,a1,a2,a3,a4.1,a4.2⟩)
  (wp_run (o:=o) (hc g3 kb) _ (ZbU (by lia)) ⟨rfl,rfl⟩)) ?_ fun _ _ e=>e)
 rintro ⟨⟨⟩,st'⟩ s' ⟨p,hp,har,hf,ep,rfl⟩
 dsimp only
 have ho2:=kat_snds (ks:=vs) (vs:=vs) rfl har
 rw[ho2,ep]
 have hz:(X2 ((runT o (Xi vs.length)).toList.map fun i=>vs.getD i Xk)).size=vs.length:=by rw[Yl,Yu,Yy,←ep,hp]
 obtain ⟨c2,hc2⟩:∃c2,(g3.update a (Xx fun _=>X2 ((runT o (Xi vs.length)).toList.map fun i=>vs.getD i Xk))).get? a=some (seqObj "list" (X2 ((runT o (Xi vs.length)).toList.map fun i=>vs.getD i Xk)) c2):=⟨_,WT g3a fun _=>_⟩
 refine Yc (V4 g3a rfl ?_)
 refine Yc (Vg g3a rfl ?_ (X9 _) (YB (Nat.le_of_eq hz) (by rw[YE];lia)))
 rw[hf]
 simp only[bne_self_eq_false,Xy,if_false]
 exact Yk (h _ c2 (fun b u nb e=>by rw[XE _ _ _ _ nb];exact kb b u nb e) hc2)
end
section
variable {prog:Yo}{w:World}{A:Around}{E:Value->Shared->Prop}{s:Shared}{a l:Addr}{vs:List Value}{κ:VF}{o:Nat->Nat->Bool}
theorem lsort_few {n:Nat}{P:PySem.Fin->Shared->Prop}(ho:s.heap.get? a=some (seqObj "list" vs.toArray n))(h2:vs.length < 2)
  (h:∀h' c,KeepBut a s.heap h'->h'.get? a=some (seqObj "list" vs.toArray c)->P (.done (.ret .none)) { s with heap:=h' }):
  wpAny (model prog w) A (VC.«list.sort» ⟨[.ref a],[]⟩) P E s:=by
 obtain ⟨c1,ho1⟩:∃c1,(s.heap.update a (Xx fun _=>(#[]:Array Value))).get? a=some (seqObj "list" #[] c1):=⟨_,WT ho fun _=>#[]⟩
 generalize hg:((s.heap.update a (Xx fun _=>(#[]:Array Value))).push (seqObj "tuple" vs.toArray 0)).push (seqObj "list" #[] 0)=g3
 have kb:KeepBut a s.heap g3:=fun b u nb e=>by
  rw[←hg]
  refine Yb _ (Yb _ ?_)
  rw[XE _ _ _ _ nb];exact e
 have g3a:g3.get? a=some (seqObj "list" #[] c1):=by rw[←hg];exact Yb _ (Yb _ ho1)
 rw[list_sort_plain]
 refine Yc (VY ho rfl ?_);refine Yc (Vg ho rfl ?_ (by rw[Yl,YE];lia) (X9 _))
 refine Yc (V4 ho1 rfl ?_);refine Yc (wpAny_newTuple ?_ (by show vs.length<=_;rw[YE];lia))
 refine Yc (WU ?_ (X9 _));refine Y6 ?_
 show wpAny (model prog w) A _ P E { s with heap:=((s.heap.update a (Xx fun _=>(#[]:Array Value))).push (seqObj "tuple" vs.toArray 0)).push (seqObj "list" #[] 0) }
 rw[hg]
 dsimp only
 have n2:vs.toArray.size < 2:=by rw[Yl];lia
 simp only[if_pos n2]
 apply Yc
 apply Yk
 simp only[StateT.run_pure]
 apply Yc
 apply Yk
 dsimp only
 have ez:(arrOf (SortSt.mk' general' (vs.toArray.zip vs.toArray) #[] 7 none)).map (·.2)=vs.toArray:=by
  show (vs.toArray.zip vs.toArray).map (·.2)=vs.toArray
  apply VL.mp
  rw[Array.toList_map,Array.toList_zip,List.map_snd_zip (by simp)]
 rw[ez]
 obtain ⟨c2,hc2⟩:∃c2,(g3.update a (Xx fun _=>vs.toArray)).get? a=some (seqObj "list" vs.toArray c2):=⟨_,WT g3a fun _=>_⟩
 refine Yc (V4 g3a rfl ?_)
 refine Yc (Vg g3a rfl ?_ (X9 _) (by rw[Yl,YE];lia))
 simp only[bne_self_eq_false,Xy,if_false]
 exact Yk (h _ c2 (fun b u nb e=>by rw[XE _ _ _ _ nb];exact kb b u nb e) hc2)
def outs2 (o:Nat->Nat->Bool)(vs:List Value):List Value:=if vs.length < 2 then vs else outs o vs
theorem sorted_at {v:Value}{Q:Value->Shared->Prop}{h1:Heap}(hcol:∀(Q':List Value->Shared->Prop),Q' vs { s with heap:=h1 }->wpAny (model prog w) A.in1 (collect v) Q' E s)(kp:∀b u,s.heap.get? b=some u->h1.get? b=some u)(hle:s.heap.objs.size<=h1.objs.size)(h64:vs.length < 64)
  (hk:2<=vs.length->∀h',(∀b u,s.heap.get? b=some u->h'.get? b=some u)->∀Q:VF->Shared->Prop,Q κ { s with heap:=h' }->wpAny (model prog w) A.in1.in1 (keyKind' vs.toArray) Q (fun _ _=>False) { s with heap:=h' })
  (hc:2<=vs.length->∀h',(∀b u,s.heap.get? b=some u->h'.get? b=some u)->∀i j (C:Bool->Shared->Prop),i < vs.length->j < vs.length->C (o i j) { s with heap:=h' }->kas_ask prog w A.in1.in1 κ vs i j C { s with heap:=h' })
  (h:∀D h' c,s.heap.objs.size<=D->(∀b u,s.heap.get? b=some u->h'.get? b=some u)->h'.get? D=some (seqObj "list" (outs2 o vs).toArray c)->Q (.ref D) { s with heap:=h' }):
  wpAny (model prog w) A (call (.builtin "sorted") [v]) Q E s:=by
 refine Calls.call_function_entry kind_sorted plain_sorted entry_sorted (args_sorted1 _) ?_
 unfold VC.«sorted»
 refine Yc (m:=checkCount "sorted" 1 1 _) (Yk ?_);refine Yc (hcol _ ?_)
 refine Yc (WU ?_ (by rw[YE];lia))
 have hoL:(h1.push (seqObj "list" vs.toArray 0)).get? h1.objs.size=some (seqObj "list" vs.toArray 0):=Yh _ rfl
 have keep:∀b u,s.heap.get? b=some u->(h1.push (seqObj "list" vs.toArray 0)).get? b=some u:=fun b u e=>Yb _ (kp b u e)
 have kb:∀h',KeepBut h1.objs.size (h1.push (seqObj "list" vs.toArray 0)) h'->∀b u,s.heap.get? b=some u->h'.get? b=some u:=fun h' k b u e=>
  k b u (YH (Yv (Yq e) hle)) (keep b u e)
 show wpAny _ _ _ _ _ { s with heap:=h1.push (seqObj "list" vs.toArray 0) }
 refine Yc (Y6 (Xh slot_list_sort ⟨_,hoL,rfl⟩ entry_list_sort ?body (args_list_sort _)))
 case body=>
  by_cases h2:vs.length < 2
  ·refine lsort_few (s:={ s with heap:=h1.push (seqObj "list" vs.toArray 0) }) hoL h2 fun h' c k e=>⟨_,rfl,Yk ⟨_,rfl,h _ h' c hle (kb h' k) ?_⟩⟩
   unfold outs2;rw[if_pos h2];exact e
  ·refine lsort_at (s:={ s with heap:=h1.push (seqObj "list" vs.toArray 0) }) (κ:=κ) (o:=o) hoL (by lia) h64 (fun h' k=>hk (by lia) h' (kb h' k)) (fun h' k=>hc (by lia) h' (kb h' k)) fun h' c k e=>⟨_,rfl,Yk ⟨_,rfl,h _ h' c hle (kb h' k) ?_⟩⟩
   unfold outs2;rw[if_neg h2];exact e
end
end Pu
namespace Pu
open PySem PySem.Spec PySem.W PySem.Calls L2 PySem.SeqAt
open PyProof.Rows hiding St Fr
def fstK:PV->Nat
 | .int _=>1
 | .str _=>2
 | .tup (.int _::_)=>3
 | .tup (.str _::_)=>4
 | _=>0
def oP (ps:List PV)(i j:Nat):Bool:=(ltD (ps.getD (min i (ps.length - 1)) .non) (ps.getD (min j (ps.length - 1)) .non)).getD false
def perm (ps:List PV):List Nat:=if ps.length < 2 then YT ps.length else (runT (oP ps) (Xi ps.length)).toList
def sortL (ps:List PV):List PV:=(perm ps).map fun i=>ps.getD i .non
def sortable (ps:List PV):Bool:=(ps.all fun p=>fstK p==1)||(ps.all fun p=>fstK p==2)||(ps.all fun p=>fstK p==3)||(ps.all fun p=>fstK p==4)
def cmpAll (ps:List PV):Bool:=ps.all fun p=>ps.all fun q=>(ltD p q).isSome
def sortP (ps:List PV):Option (List PV):=if dats ps&&decide (deps ps<=40)&&decide (ps.length < 64)&&sortable ps&&cmpAll ps then some (sortL ps) else none
mutual
theorem HRep.keep {h h':Heap}(k:∀b u,h.get? b=some u->h'.get? b=some u):∀(p:PV) {u:Value},HRep h p u->HRep h' p u
 | .non,u,a=>by unfold HRep at a ⊢;exact a
 | .bl x,u,a=>by unfold HRep at a ⊢;exact a
 | .int x,u,a=>by unfold HRep at a ⊢;exact a
 | .str x,u,a=>by unfold HRep at a ⊢;exact a
 | .tup ps,u,a=>by
  unfold HRep at a ⊢;obtain ⟨l,us,rfl,⟨o,e,c⟩,r⟩:=a
  exact ⟨l,us,rfl,⟨o,k _ _ e,c⟩,HReps.keep k ps r⟩
 | .lst ps,u,a=>by
  unfold HRep at a ⊢;obtain ⟨l,us,rfl,⟨o,e,c⟩,r⟩:=a
  exact ⟨l,us,rfl,⟨o,k _ _ e,c⟩,HReps.keep k ps r⟩
 | .dct _ _,u,a=>by unfold HRep at a;exact a.elim
 | .dtt _ _,u,a=>by unfold HRep at a;exact a.elim
 | .fn _,u,a=>by unfold HRep at a;exact a.elim
 | .ty _,u,a=>by unfold HRep at a;exact a.elim
theorem HReps.keep {h h':Heap}(k:∀b u,h.get? b=some u->h'.get? b=some u):∀(ps:List PV) {us:List Value},HReps h ps us->HReps h' ps us
 | [],us,a=>by unfold HReps at a ⊢;exact a
 | p::ps,us,a=>by
  unfold HReps at a ⊢;obtain ⟨v,r,rfl,a1,a2⟩:=a
  exact ⟨v,r,rfl,HRep.keep k p a1,HReps.keep k ps a2⟩
end
theorem HReps.get {h:Heap}:∀{ps:List PV} {us:List Value} {i:Nat},HReps h ps us->i < us.length->HRep h (ps.getD i .non) (us.getD i Xk)
 | [],us,i,a,hi=>by unfold HReps at a;subst a;cases hi
 | p::ps,us,i,a,hi=>by
  unfold HReps at a;obtain ⟨v,r,rfl,a1,a2⟩:=a
  cases i with
  | zero=>exact a1
  | succ i=>simpa using HReps.get a2 (by simpa using hi)
theorem Zb7 {ps:List PV}{i:Nat}(hi:i < ps.length):ps.getD i .non∈ps:=by
 rw[XH,Yd hi];exact Wg hi
section
variable {prog:Yo}{w:World}{A:Around}{s:Shared}
theorem katLex_of {b fin:Bool}{Q:Bool->Shared->Prop}{c:Bool}:∀{ps qs:List PV} {us vs:List Value} (i:Nat),PairsOk A s ps qs us vs->lexD ps qs=some c->fin=decide (us.length < vs.length)->
  ((b&&i==0)=true->∀p ps' q qs' u us' v vs',ps=p::ps'->qs=q::qs'->us=u::us'->vs=v::vs'->∀c,ltD p q=some c->∀Q:Bool->Shared->Prop,Q c s->wpAny (model prog w) A (oneLt' true u v) Q (fun _ _=>False) s)->
  Q c s->KatLex prog w A b fin Q (us.zip vs) i s
  :=by
 intro ps qs us vs i pk
 induction pk generalizing i with
 | @nil1 qs _ hh=>
  intro e hf hz q
  rw[List.zip_nil_left]
  refine kat_nil ?_
  cases qs with
  | nil=>rw[Zbh] at e;cases e;rw[hf,←hh];exact q
  | cons y ys=>rw[Zb8] at e;cases e;rw[hf,←hh];simpa using q
 | @nil2 ps _ hh=>
  intro e hf hz q
  rw[List.zip_nil_right]
  refine kat_nil ?_
  cases ps with
  | nil=>rw[Zbh] at e;cases e;rw[hf,←hh];exact q
  | cons y ys=>rw[Zb9] at e;cases e;rw[hf];simpa using q
 | @cons p q' u v ps qs us vs ee lt t ih=>
  intro e hf hz q
  rw[Xf]
  refine kat_cons (ee prog w _ _ ?_)
  rw[lexD_cons] at e
  cases he:eqD p q' with
  | true=>
   rw[he,if_pos rfl] at e
   exact kat_yes (ih (i + 1) e (by rw[hf];simp) (fun z=>by simp at z) q)
  | false=>
   rw[he,if_neg Yi] at e
   refine kat_no ?_
   cases hb:(b&&i==0) with
   | true=>exact hz hb _ _ _ _ _ _ _ _ rfl rfl rfl rfl c e _ q
   | false=>exact kat_one _ _ (lt c e prog w _ _ q)
theorem one_int {a c:Int}{t u:Tok}{E:Value->Shared->Prop}{Q:Bool->Shared->Prop}(h:Q (decide (a < c)) s):wpAny (model prog w) A (oneLt' true (.int a t) (.int c u)) Q E s:=by
 rw[←keyLt'_oneType];exact kat_lt_int h
theorem one_str {a c:Str}{t u:Tok}{E:Value->Shared->Prop}{Q:Bool->Shared->Prop}(h:Q (decide (a.cps.toList < c.cps.toList)) s):wpAny (model prog w) A (oneLt' true (.str a t) (.str c u)) Q E s:=by
 rw[←keyLt'_oneType];exact kas_lt_str h
theorem ask_one {p q:PV}{u v:Value}{c:Bool}{Q:Bool->Shared->Prop}(a:HRep s.heap p u)(b:HRep s.heap q v)(hk:fstK p=1/\fstK q=1\/fstK p=2/\fstK q=2)(e:ltD p q=some c)(h:Q c s):wpAny (model prog w) A (keyLt' oneType' u v) Q (fun _ _=>False) s:=by
 rw[keyLt'_oneType]
 cases p with
 | int x=>
  cases q with
  | int y=>unfold HRep at a b;obtain ⟨t,rfl⟩:=a;obtain ⟨t',rfl⟩:=b;unfold ltD at e;cases e;exact one_int h
  | _=>unfold ltD at e;cases e
 | str x=>
  cases q with
  | str y=>unfold HRep at a b;obtain ⟨t,rfl⟩:=a;obtain ⟨t',rfl⟩:=b;unfold ltD at e;cases e;exact one_str h
  | _=>unfold ltD at e;cases e
 | tup xs=>
  exfalso
  cases xs with
  | nil=>simp[fstK] at hk
  | cons y ys=>cases y<;>simp[fstK] at hk
 | _=>unfold ltD at e;cases e
theorem ask_tup {p q:PV}{u v:Value}{c:Bool}{Q:Bool->Shared->Prop}(a:HRep s.heap p u)(b:HRep s.heap q v)(hk:fstK p=3/\fstK q=3\/fstK p=4/\fstK q=4)(e:ltD p q=some c)(hu:A.units + dep p < cLine)(h:Q c s):wpAny (model prog w) A (keyLt' (tuples' true) u v) Q (fun _ _=>False) s:=by
 cases p with
 | tup xs=>
  cases q with
  | tup ys=>
   unfold HRep at a b;obtain ⟨l,us,rfl,⟨ol,el,_,nl,dl⟩,r1⟩:=a;obtain ⟨l',vs,rfl,⟨ol',el',_,nl',dl'⟩,r2⟩:=b
   unfold ltD at e
   unfold dep at hu
   refine kat_lt el dl el' dl' ?_
   refine katLex_of 0 (HReps.pairs xs r1 r2 (by lia)) e (by simp) (fun _=>?_) h
   intro p ps' q qs' u us' v vs' e1 e2 e3 e4 c' el Q' hq
   subst e1 e2 e3 e4
   unfold HReps at r1 r2
   obtain ⟨_,_,z1,a1,_⟩:=r1
   obtain ⟨_,_,z2,b1,_⟩:=r2
   cases z1;cases z2
   cases p with
   | int x=>
    cases q with
    | int y=>unfold HRep at a1 b1;obtain ⟨t,rfl⟩:=a1;obtain ⟨t',rfl⟩:=b1;unfold ltD at el;cases el;exact one_int hq
    | _=>unfold ltD at el;cases el
   | str x=>
    cases q with
    | str y=>unfold HRep at a1 b1;obtain ⟨t,rfl⟩:=a1;obtain ⟨t',rfl⟩:=b1;unfold ltD at el;cases el;exact one_str hq
    | _=>unfold ltD at el;cases el
   | tup xs=>simp[fstK] at hk
   | _=>unfold ltD at el;cases el
  | _=>unfold ltD at e;cases e
 | _=>simp[fstK] at hk
end
theorem ZbB {ps:List PV}:∀i∈perm ps,i < ps.length:=by
 intro i hi
 unfold perm at hi
 split at hi
 ·simpa using hi
 ·exact (ZcT (Xi ps.length) (ZbU (by lia))).2.2 i hi
def sortV (ps:List PV)(ys:List V):List V:=(perm ps).map fun i=>ys.getD i .non
def sortU (ps:List PV)(us:List Value):List Value:=(perm ps).map fun i=>us.getD i Xk
theorem ZcG {ps:List PV}{us:List Value}(e:ps.length=us.length):outs2 (oP ps) us=sortU ps us:=by
 unfold outs2 sortU perm outs
 rw[←e]
 split
 ·have:us=(YT us.length).map fun i=>us.getD i Value.none:=by
   apply Wx
   intro i
   rw[YK]
   by_cases hi:i < us.length
   ·rw[List.getElem?_range hi];simp[hi]
   ·rw[XO (by lia),XO (by simp;lia)];rfl
  rw[e];exact this
 ·rfl
theorem vals_getD:∀{ys:List V} {us:List Value} {i:Nat},Vals ys us->i < us.length->RelV (ys.getD i .non) (us.getD i Xk)
 | _,_,i,.nil,hi=>by cases hi
 | _,_,i,.cons r t,hi=>by
  cases i with
  | zero=>exact r
  | succ i=>simpa using vals_getD t (by simpa using hi)
theorem ZbY {ys:List V}{us:List Value}(r:Vals ys us):∀{is:List Nat},(∀i∈is,i < us.length)->Vals (is.map fun i=>ys.getD i .non) (is.map fun i=>us.getD i Xk)
 | [],_=>.nil
 | i::is,h=>.cons (vals_getD r (h i (.head _))) (ZbY r fun j hj=>h j (.tail _ hj))
theorem reps_getD {K:W.Frag}{ι:List Addr}{H:Hp}:∀{ps:List PV} {ys:List V} {i:Nat},Reps K ι H ps ys->i < ps.length->Rep K ι H (ps.getD i .non) (ys.getD i .non)
 | [],ys,i,a,hi=>by cases hi
 | p::ps,ys,i,a,hi=>by
  unfold Reps at a;obtain ⟨v,r,rfl,a1,a2⟩:=a
  cases i with
  | zero=>exact a1
  | succ i=>simpa using reps_getD a2 (by simpa using hi)
theorem Zb1 {K:W.Frag}{ι:List Addr}{H:Hp}{ps:List PV}{ys:List V}(r:Reps K ι H ps ys):∀{is:List Nat},(∀i∈is,i < ps.length)->Reps K ι H (is.map fun i=>ps.getD i .non) (is.map fun i=>ys.getD i .non)
 | [],_=>by unfold Reps;rfl
 | i::is,h=>by
  unfold Reps
  exact ⟨_,_,rfl,reps_getD r (h i (.head _)),Zb1 r fun j hj=>h j (.tail _ hj)⟩
section
variable {prog:Yo}{w:World}{A:Around}{s:Shared}
theorem Zc4 {h:Heap}:∀{ps:List PV} {us:List Value},HReps h ps us->∀u∈us,∃p∈ps,HRep h p u
 | [],us,a,u,hu=>by unfold HReps at a;subst a;cases hu
 | p::ps,us,a,u,hu=>by
  unfold HReps at a;obtain ⟨v,r,rfl,a1,a2⟩:=a
  rcases Ye.mp hu with rfl | hu
  ·exact ⟨p,.head _,a1⟩
  ·obtain ⟨q,hq,b⟩:=Zc4 a2 u hu
   exact ⟨q,.tail _ hq,b⟩
def headV (h:Heap)(k:Nat)(f:Value):Prop:=(k=3/\∃i t,f=.int i t)\/(k=4/\∃x t,f=.str x t)
theorem tups_of {h:Heap}{k:Nat}(hk:k=3\/k=4):∀{ps:List PV} {us:List Value},HReps h ps us->(ps.all fun p=>fstK p==k)=true->∃fs,KatTups h us fs/\fs.length=us.length/\∀f∈fs,headV h k f
 | [],us,a,_=>by unfold HReps at a;subst a;exact ⟨[],.nil,rfl,fun f hf=>by cases hf⟩
 | p::ps,us,a,e=>by
  unfold HReps at a;obtain ⟨v,r,rfl,a1,a2⟩:=a
  rw[XB,Yp] at e
  obtain ⟨fs,t,hl,hf⟩:=tups_of hk a2 e.2
  have e1:fstK p=k:=by simpa using e.1
  cases p with
  | tup xs=>
   unfold HRep at a1;obtain ⟨l,us',rfl,⟨o,ho,hc,n,hd⟩,r1⟩:=a1
   cases xs with
   | nil=>simp[fstK] at e1;lia
   | cons y ys=>
    unfold HReps at r1;obtain ⟨f,r',rfl,b1,_⟩:=r1
    refine ⟨f::fs,.cons ho hc hd (by simp) t,by simp[hl],fun g hg=>?_⟩
    rcases Ye.mp hg with rfl | hg
    ·cases y with
     | int i=>unfold HRep at b1;simp[fstK] at e1;obtain ⟨t,rfl⟩:=b1;exact .inl ⟨e1.symm,_,_,rfl⟩
     | str x=>unfold HRep at b1;simp[fstK] at e1;obtain ⟨t,rfl⟩:=b1;exact .inr ⟨e1.symm,_,_,rfl⟩
     | _=>simp[fstK] at e1;lia
    ·exact hf g hg
  | int i=>simp[fstK] at e1;lia
  | str i=>simp[fstK] at e1;lia
  | _=>simp[fstK] at e1;lia
def kindP (ps:List PV):SortKind:=if (ps.all fun p=>fstK p==1)||(ps.all fun p=>fstK p==2) then oneType' else tuples' true
theorem kind_of {ps:List PV}{us:List Value}{Q:VF->Shared->Prop}{E:Value->Shared->Prop}(a:HReps s.heap ps us)(h2:2<=us.length)(e:sortable ps=true)(h:Q (kindP ps) s):wpAny (model prog w) A (keyKind' us.toArray) Q E s:=by
 unfold sortable at e
 unfold kindP at h
 by_cases h1:(ps.all fun p=>fstK p==1)=true
 ·rw[h1,Bool.true_or,if_pos rfl] at h
  refine kas_kind (T:=.type "int") h2 (fun v hv=>?_) (by decide) (by decide) h
  obtain ⟨p,hp,b⟩:=Zc4 a v hv
  have:=YG.mp h1 p hp
  cases p with
  | int i=>unfold HRep at b;obtain ⟨t,rfl⟩:=b;exact VG rfl
  | tup xs=>cases xs with
   | nil=>simp[fstK] at this
   | cons y ys=>cases y<;>simp[fstK] at this
  | _=>simp[fstK] at this
 ·by_cases h3:(ps.all fun p=>fstK p==2)=true
  ·rw[h3,Bool.or_true,if_pos rfl] at h
   refine kas_kind (T:=.type "str") h2 (fun v hv=>?_) (by decide) (by decide) h
   obtain ⟨p,hp,b⟩:=Zc4 a v hv
   have:=YG.mp h3 p hp
   cases p with
   | str i=>unfold HRep at b;obtain ⟨t,rfl⟩:=b;exact VG rfl
   | tup xs=>cases xs with
    | nil=>simp[fstK] at this
    | cons y ys=>cases y<;>simp[fstK] at this
   | _=>simp[fstK] at this
  ·rw[Bool.not_eq_true] at h1 h3
   rw[h1,h3] at h e
   rw[if_neg (by decide)] at h
   simp only[Bool.false_or,Vo] at e
   rcases e with e | e
   ·obtain ⟨fs,t,hl,hf⟩:=tups_of (.inl rfl) a e
    refine kat_kind (T:=.type "int") t (by lia) (fun v hv=>?_) (by decide) h
    rcases hf v hv with ⟨_,i,t,rfl⟩ | ⟨z,_⟩
    ·exact VG rfl
    ·cases z
   ·obtain ⟨fs,t,hl,hf⟩:=tups_of (.inr rfl) a e
    refine kat_kind (T:=.type "str") t (by lia) (fun v hv=>?_) (by decide) h
    rcases hf v hv with ⟨z,_⟩ | ⟨_,i,t,rfl⟩
    ·cases z
    ·exact VG rfl
theorem dep_getD:∀{ps:List PV} (i:Nat),dep (ps.getD i .non)<=deps ps
 | [],i=>by simp[dep,deps]
 | p::ps,i=>by
  unfold deps
  cases i with
  | zero=>exact Nat.le_max_left _ _
  | succ i=>exact YB (by simpa using dep_getD (ps:=ps) i) (Nat.le_max_right _ _)
theorem ask_of {ps:List PV}{us:List Value}{i j:Nat}{C:Bool->Shared->Prop}(a:HReps s.heap ps us)(e:sortable ps=true)(ec:cmpAll ps=true)(hu:A.units + deps ps < cLine)(hi:i < us.length)(hj:j < us.length)(h:C (oP ps i j) s):kas_ask prog w A (kindP ps) us i j C s:=by
 have hl:=a.length
 have mi:=Zb7 (ps:=ps) (i:=i) (by lia)
 have mj:=Zb7 (ps:=ps) (i:=j) (by lia)
 have hs:(ltD (ps.getD i .non) (ps.getD j .non)).isSome=true:=YG.mp (YG.mp ec _ mi) _ mj
 obtain ⟨c,hc⟩:=WE.mp hs
 unfold oP at h
 rw[Vp (by lia),Vp (by lia),hc] at h
 have ai:=HReps.get a hi
 have aj:=HReps.get a hj
 have hd:=dep_getD (ps:=ps) i
 unfold kas_ask kindP
 have at':∀k,(ps.all fun p=>fstK p==k)=true->fstK (ps.getD i .non)=k/\fstK (ps.getD j .non)=k:=fun k z=>⟨by simpa using YG.mp z _ mi,by simpa using YG.mp z _ mj⟩
 by_cases h1:(ps.all fun p=>fstK p==1)=true
 ·rw[h1,Bool.true_or,if_pos rfl];exact ask_one ai aj (.inl (at' 1 h1)) hc h
 ·by_cases h3:(ps.all fun p=>fstK p==2)=true
  ·rw[h3,Bool.or_true,if_pos rfl];exact ask_one ai aj (.inr (at' 2 h3)) hc h
  ·unfold sortable at e
   rw[Bool.not_eq_true] at h1 h3
   rw[h1,h3] at e ⊢
   rw[if_neg (by decide)]
   simp only[Bool.false_or,Vo] at e
   rcases e with e | e
   ·exact ask_tup ai aj (.inl (at' 3 e)) hc (by lia) h
   ·exact ask_tup ai aj (.inr (at' 4 e)) hc (by lia) h
end
section
variable {X:Cx}
def rSorted (K:W.Frag):List V->Hp->VK->Prop:=fun xs H Q=>∃p ys ι ps,xs=[.ref p]/\SqL K H p ys/\Reps K ι H ps ys/\(sortP ps).isSome=true/\∀l,H l=none->Q (.ref l) (upd H l (.lst (sortV ps ys)))
theorem call_sorted (hu:X.A.units + 64 < cLine):CallR X (.builtin "sorted") (rSorted X.K):=by
 intro pins s σ H xs us Q I r h
 obtain ⟨p,ys,ι,ps,rfl,hq,rs,hs,q⟩:=h
 obtain ⟨u,rfl,rx⟩:=vals1 r
 cases rx
 obtain ⟨its,r',pl,hz⟩:=I.list hq
 unfold sortP at hs
 split at hs
 ·rename_i hh
  simp only[Yp,decide_eq_true_eq] at hh
  obtain ⟨⟨⟨⟨hd,hde⟩,h64⟩,hso⟩,hcm⟩:=hh
  have hr:=Reps.heap I ps rs r' hd
  have hl:=hr.length
  have hyl:=r'.length
  refine sorted_at (vs:=its) (κ:=kindP ps) (o:=oP ps) (h1:=(s.heap.push (seqObj "list" #[] 0)).update s.heap.objs.size (Xx (·++its.toArray))) (fun Q' q'=>collect_list pl.isList q' (by lia)) (fun b u e=>?_) ?_ (by lia) (fun h2 h' k Q' q'=>?_) (fun h2 h' k i j C hi hj hC=>?_) (fun D h' c hD k e=>?_)
  ·rw[XE _ _ _ _ (YH (Yq e))];exact Yb _ e
  ·rw[Heap.size_update,size_push'];lia
  ·exact kind_of (s:={ s with heap:=h' }) (hr.keep k) h2 hso q'
  ·exact ask_of (s:={ s with heap:=h' }) (hr.keep k) hso hcm (by rw[YQ,YQ];lia) hi hj hC
  ·rw[ZcG hl] at e
   refine ⟨.ref D,_,I.laid (t':=s.toks) k hD (show ObjOk X.prog X.w _ h' _ (.lst (sortV ps ys)) from ⟨?_,sortU ps its,c,?_,e⟩),rfl,q _ (I.hok.fresh hD)⟩
   ·unfold sortV
    rw[Yu]
    have:(perm ps).length<=64:=by
     unfold perm
     split
     ·rw[W7];lia
     ·rename_i h2
      rw[Yy]
      rw[(ZcT (o:=oP ps) (Xi ps.length) (ZbU (by lia))).2.1];lia
    exact YB this (by rw[YE];decide)
   ·exact ZbY r' fun i hi=>by have:=ZbB i hi;lia
 ·cases hs
end
section
variable {X:Cx}{e:Expr}{es:List Expr}{fs:PSt->M (List SV)}{p pos:Pos}
theorem Zcz {ps qs:List PV}(e:sortP ps=some qs):qs=sortL ps:=by
 unfold sortP at e;split at e
 ·cases e;rfl
 ·cases e
end
end Pu
namespace Pu
open PySem PySem.Spec PySem.W
mutual
def pur:PV->Bool
 | .int _=>true
 | .str _=>true
 | .tup ps=>purs ps
 | _=>false
def purs:List PV->Bool
 | []=>true
 | p::ps=>pur p&&purs ps
end
mutual
def lT:PV->PV->Bool
 | .int a,.int b=>decide (a < b)
 | .int _,.str _=>true
 | .int _,.tup _=>true
 | .str a,.str b=>decide (a.cps.toList < b.cps.toList)
 | .str _,.tup _=>true
 | .tup xs,.tup ys=>lTs xs ys
 | _,_=>false
def lTs:List PV->List PV->Bool
 | [],[]=>false
 | [],_::_=>true
 | _::_,[]=>false
 | x::xs,y::ys=>if eqD x y then lTs xs ys else lT x y
end
mutual
theorem Zbt:∀(p:PV) {q:PV},pur p=true->pur q=true->(eqD p q=true↔p=q)
 | .int a,q,_,hq=>by cases q<;>simp[eqD]<;>simp[pur] at hq
 | .str a,q,_,_=>by cases q<;>simp[eqD]
 | .tup ps,q,h,hq=>by
  unfold pur at h
  cases q with
  | tup qs=>unfold pur at hq;unfold eqD;rw[eqDs_pur ps h hq];simp
  | _=>simp[eqD]
 | .non,q,h,_=>by simp[pur] at h
 | .bl _,q,h,_=>by simp[pur] at h
 | .lst _,q,h,_=>by simp[pur] at h
 | .dct _ _,q,h,_=>by simp[pur] at h
 | .dtt _ _,q,h,_=>by simp[pur] at h
 | .fn _,q,h,_=>by simp[pur] at h
 | .ty _,q,h,_=>by simp[pur] at h
theorem eqDs_pur:∀(ps:List PV) {qs:List PV},purs ps=true->purs qs=true->(eqDs ps qs=true↔ps=qs)
 | [],qs,_,_=>by cases qs<;>simp[eqDs]
 | p::ps,qs,h,hq=>by
  unfold purs at h
  rw[Yp] at h
  cases qs with
  | nil=>simp[eqDs]
  | cons q qs=>
   unfold purs at hq
   rw[Yp] at hq
   unfold eqDs;rw[Yp,Zbt p h.1 hq.1,eqDs_pur ps h.2 hq.2,List.cons.injEq]
end
theorem ZcM {p:PV}(h:pur p=true):eqD p p=true:=(Zbt p h h).mpr rfl
theorem str_tri {a b:Str}(h1:¬a.cps.toList < b.cps.toList)(h2:¬b.cps.toList < a.cps.toList):a=b:=by
 obtain ⟨⟨x⟩⟩:=a
 obtain ⟨⟨y⟩⟩:=b
 have:x=y:=List.le_antisymm (List.not_lt.mp h2) (List.not_lt.mp h1)
 rw[this]
mutual
theorem lT_irr:∀(p:PV),pur p=true->lT p p=false
 | .int a,_=>by simp[lT]
 | .str a,_=>by simp[lT,List.lt_irrefl]
 | .tup ps,h=>by unfold pur at h;unfold lT;exact lTs_irr ps h
 | .non,_=>by simp[lT]
 | .bl _,_=>by simp[lT]
 | .lst _,_=>by simp[lT]
 | .dct _ _,_=>by simp[lT]
 | .dtt _ _,_=>by simp[lT]
 | .fn _,_=>by simp[lT]
 | .ty _,_=>by simp[lT]
theorem lTs_irr:∀(ps:List PV),purs ps=true->lTs ps ps=false
 | [],_=>by simp[lTs]
 | p::ps,h=>by
  unfold purs at h;rw[Yp] at h
  unfold lTs;rw[ZcM h.1,if_pos rfl];exact lTs_irr ps h.2
end
mutual
theorem lT_tri:∀(p:PV) {q:PV},pur p=true->pur q=true->lT p q=false->lT q p=false->p=q
 | .int a,q,_,hq,h1,h2=>by
  cases q<;>simp[lT,pur] at h1 h2 hq ⊢
  lia
 | .str a,q,_,hq,h1,h2=>by
  cases q with
  | str b=>
   unfold lT at h1 h2
   have:a=b:=str_tri (of_decide_eq_false h1) (of_decide_eq_false h2)
   rw[this]
  | int _=>simp[lT] at h2
  | tup _=>simp[lT] at h1
  | _=>simp[pur] at hq
 | .tup ps,q,h,hq,h1,h2=>by
  unfold pur at h
  cases q with
  | tup qs=>unfold pur at hq;unfold lT at h1 h2;rw[lTs_tri ps h hq h1 h2]
  | int _=>simp[lT] at h2
  | str _=>simp[lT] at h2
  | _=>simp[pur] at hq
 | .non,q,h,_,_,_=>by simp[pur] at h
 | .bl _,q,h,_,_,_=>by simp[pur] at h
 | .lst _,q,h,_,_,_=>by simp[pur] at h
 | .dct _ _,q,h,_,_,_=>by simp[pur] at h
 | .dtt _ _,q,h,_,_,_=>by simp[pur] at h
 | .fn _,q,h,_,_,_=>by simp[pur] at h
 | .ty _,q,h,_,_,_=>by simp[pur] at h
theorem lTs_tri:∀(ps:List PV) {qs:List PV},purs ps=true->purs qs=true->lTs ps qs=false->lTs qs ps=false->ps=qs
 | [],qs,_,_,h1,h2=>by cases qs<;>simp[lTs] at h1 h2 ⊢
 | p::ps,qs,h,hq,h1,h2=>by
  unfold purs at h;rw[Yp] at h
  cases qs with
  | nil=>simp[lTs] at h2
  | cons q qs=>
   unfold purs at hq;rw[Yp] at hq
   unfold lTs at h1 h2
   by_cases e:p=q
   ·subst e
    rw[ZcM h.1,if_pos rfl] at h1 h2
    rw[lTs_tri ps h.2 hq.2 h1 h2]
   ·rw[if_neg (fun z=>e ((Zbt p h.1 hq.1).mp z))] at h1
    rw[if_neg (fun z=>e ((Zbt q hq.1 h.1).mp z).symm)] at h2
    exact absurd (lT_tri p h.1 hq.1 h1 h2) e
end
mutual
theorem lT_tr:∀(p:PV) {q r:PV},pur p=true->pur q=true->pur r=true->lT p q=true->lT q r=true->lT p r=true
 | .int a,q,r,_,hq,hr,h1,h2=>by
  cases q<;>cases r<;>simp[lT,pur] at h1 h2 hq hr ⊢
  lia
 | .str a,q,r,_,hq,hr,h1,h2=>by
  cases q<;>cases r<;>simp[lT,pur] at h1 h2 hq hr ⊢
  exact List.lt_trans h1 h2
 | .tup ps,q,r,h,hq,hr,h1,h2=>by
  unfold pur at h
  cases q with
  | tup qs=>
   cases r with
   | tup rs=>unfold pur at hq hr;unfold lT at h1 h2 ⊢;exact lTs_tr ps h hq hr h1 h2
   | _=>simp[lT] at h2
  | _=>simp[lT] at h1
 | .non,q,r,h,_,_,_,_=>by simp[pur] at h
 | .bl _,q,r,h,_,_,_,_=>by simp[pur] at h
 | .lst _,q,r,h,_,_,_,_=>by simp[pur] at h
 | .dct _ _,q,r,h,_,_,_,_=>by simp[pur] at h
 | .dtt _ _,q,r,h,_,_,_,_=>by simp[pur] at h
 | .fn _,q,r,h,_,_,_,_=>by simp[pur] at h
 | .ty _,q,r,h,_,_,_,_=>by simp[pur] at h
theorem lTs_tr:∀(ps:List PV) {qs rs:List PV},purs ps=true->purs qs=true->purs rs=true->lTs ps qs=true->lTs qs rs=true->lTs ps rs=true
 | [],qs,rs,_,_,_,h1,h2=>by cases qs<;>cases rs<;>simp[lTs] at h1 h2 ⊢
 | p::ps,qs,rs,h,hq,hr,h1,h2=>by
  unfold purs at h;rw[Yp] at h
  cases qs with
  | nil=>simp[lTs] at h1
  | cons q qs=>
   cases rs with
   | nil=>simp[lTs] at h2
   | cons r rs=>
    unfold purs at hq hr;rw[Yp] at hq hr
    unfold lTs at h1 h2 ⊢
    by_cases e:p=q
    ·subst e
     rw[ZcM h.1,if_pos rfl] at h1
     by_cases e2:p=r
     ·subst e2
      rw[ZcM h.1,if_pos rfl] at h2 ⊢
      exact lTs_tr ps h.2 hq.2 hr.2 h1 h2
     ·have ne:=fun z=>e2 ((Zbt p h.1 hr.1).mp z)
      rw[if_neg ne] at h2 ⊢;exact h2
    ·rw[if_neg (fun z=>e ((Zbt p h.1 hq.1).mp z))] at h1
     by_cases e2:q=r
     ·subst e2
      rw[if_neg (fun z=>e ((Zbt p h.1 hq.1).mp z))];exact h1
     ·rw[if_neg (fun z=>e2 ((Zbt q hq.1 hr.1).mp z))] at h2
      have t:=lT_tr p h.1 hq.1 hr.1 h1 h2
      by_cases e3:p=r
      ·subst e3;rw[lT_irr p h.1] at t;cases t
      ·rw[if_neg (fun z=>e3 ((Zbt p h.1 hr.1).mp z))];exact t
end
mutual
theorem ltD_lT:∀(p:PV) {q:PV} {c:Bool},ltD p q=some c->c=lT p q
 | .int a,q,c,e=>by cases q<;>simp[ltD,lT] at e ⊢<;>exact e.symm
 | .str a,q,c,e=>by cases q<;>simp[ltD,lT] at e ⊢<;>exact e.symm
 | .tup ps,q,c,e=>by
  cases q with
  | tup qs=>unfold ltD at e;unfold lT;exact lexD_lT ps e
  | _=>simp[ltD] at e
 | .non,q,c,e=>by simp[ltD] at e
 | .bl _,q,c,e=>by simp[ltD] at e
 | .lst _,q,c,e=>by simp[ltD] at e
 | .dct _ _,q,c,e=>by simp[ltD] at e
 | .dtt _ _,q,c,e=>by simp[ltD] at e
 | .fn _,q,c,e=>by simp[ltD] at e
 | .ty _,q,c,e=>by simp[ltD] at e
theorem lexD_lT:∀(ps:List PV) {qs:List PV} {c:Bool},lexD ps qs=some c->c=lTs ps qs
 | [],qs,c,e=>by cases qs<;>simp[lexD,lTs] at e ⊢<;>simp[e]
 | p::ps,qs,c,e=>by
  cases qs with
  | nil=>simp[lexD,lTs] at e ⊢;simp[e]
  | cons q qs=>
   unfold lexD at e;unfold lTs
   split at e
   ·rename_i z;rw[if_pos z];exact lexD_lT ps e
   ·rename_i z;rw[if_neg z];exact ltD_lT p e
end
theorem purs_mem:∀{ps:List PV},purs ps=true->∀p∈ps,pur p=true
 | [],_,p,hp=>by cases hp
 | q::ps,h,p,hp=>by
  unfold purs at h;rw[Yp] at h
  rcases Ye.mp hp with rfl | hp
  ·exact h.1
  ·exact purs_mem h.2 p hp
theorem oP_eq {ps:List PV}(h1:1<=ps.length)(hc:cmpAll ps=true)(i j:Nat):oP ps i j=lT (ps.getD (min i (ps.length - 1)) .non) (ps.getD (min j (ps.length - 1)) .non):=by
 have mi:=Zb7 (ps:=ps) (i:=min i (ps.length - 1)) (by lia)
 have mj:=Zb7 (ps:=ps) (i:=min j (ps.length - 1)) (by lia)
 obtain ⟨c,e⟩:=WE.mp (YG.mp (YG.mp hc _ mi) _ mj)
 unfold oP;rw[e];exact ltD_lT _ e
theorem wk_of {ps:List PV}(h1:1<=ps.length)(hc:cmpAll ps=true)(hp:purs ps=true):Wk (oP ps):=by
 have P:∀i,pur (ps.getD (min i (ps.length - 1)) .non)=true:=fun i=>purs_mem hp _ (Zb7 (by lia))
 have irr:∀a,oP ps a a=false:=fun a=>by rw[oP_eq h1 hc];exact lT_irr _ (P a)
 have asy:∀a b,oP ps a b=true->oP ps b a=false:=fun a b h=>by
  rw[oP_eq h1 hc] at h ⊢
  cases e:lT (ps.getD (min b (ps.length - 1)) .non) (ps.getD (min a (ps.length - 1)) .non) with
  | false=>rfl
  | true=>
   have t:=lT_tr _ (P a) (P b) (P a) h e
   rw[lT_irr _ (P a)] at t;cases t
 refine ⟨irr,asy,fun a b c h2 h3=>?_⟩
 rw[oP_eq h1 hc] at h2 h3 ⊢
 cases e:lT (ps.getD (min c (ps.length - 1)) .non) (ps.getD (min a (ps.length - 1)) .non) with
 | false=>rfl
 | true=>
  cases e2:lT (ps.getD (min a (ps.length - 1)) .non) (ps.getD (min b (ps.length - 1)) .non) with
  | true=>rw[lT_tr _ (P c) (P a) (P b) e e2] at h3;cases h3
  | false=>rw[lT_tri _ (P a) (P b) e2 h2] at e;rw[e] at h3;cases h3
theorem Zbk (ps:List PV):(YT ps.length).map (fun i=>ps.getD i .non)=ps:=by
 apply Wx
 intro i
 rw[YK]
 by_cases hi:i < ps.length
 ·rw[List.getElem?_range hi];simp[hi]
 ·rw[XO (by simp;lia),XO (by lia)];rfl
theorem sortL_perm {ps:List PV}(hc:cmpAll ps=true)(hp:purs ps=true):(sortL ps).Perm ps:=by
 unfold sortL perm
 split
 ·rw[Zbk]
 ·rename_i h2
  have S:=(sort_ok (wk_of (by lia) hc hp) (n:=ps.length) (by lia)).1
  have:=(Wz.mp S).map fun i=>ps.getD i .non
  rw[show (X2 (YT ps.length)).toList=YT ps.length by simp,Zbk] at this
  exact this
def Rising (qs:List PV):Prop:=qs.Pairwise fun a b=>lT b a=false
theorem sortL_rising {ps:List PV}(hc:cmpAll ps=true)(hp:purs ps=true):Rising (sortL ps):=by
 unfold Rising sortL perm
 split
 ·rename_i h2
  rw[Zbk]
  match ps,h2 with
  | [],_=>exact .nil
  | [p],_=>exact List.pairwise_singleton _ _
 ·rename_i h2
  have W:=wk_of (by lia) hc hp
  have S:=(sort_ok W (n:=ps.length) (by lia)).2
  have B:=ZcT (o:=oP ps) (Xi ps.length) (ZbU (by lia))
  rw[VB,List.pairwise_iff_getElem]
  intro i j hi hj hij
  have hz:(runT (oP ps) (Xi ps.length)).size=ps.length:=B.2.1
  rw[Yy] at hi hj
  have s:=S i j (by lia) (by lia)
  have g:∀k,k < (runT (oP ps) (Xi ps.length)).size->(runT (oP ps) (Xi ps.length)).getD k 0=(runT (oP ps) (Xi ps.length)).toList[k]!:=fun k hk=>by
   rw[YR];simp[hk]
  rw[g i hi,g j hj] at s
  have b:∀k,(hk:k < (runT (oP ps) (Xi ps.length)).toList.length)->(runT (oP ps) (Xi ps.length)).toList[k]! = (runT (oP ps) (Xi ps.length)).toList[k]:=fun k hk=>by
   rw[List.getElem!_eq_getElem?_getD,Yd hk];rfl
  rw[b i (by simpa using hi),b j (by simpa using hj)] at s
  have l:∀k,(hk:k < (runT (oP ps) (Xi ps.length)).toList.length)->(runT (oP ps) (Xi ps.length)).toList[k] < ps.length:=fun k hk=>B.2.2 _ (Wg hk)
  have l1:=l i (by simpa using hi)
  have l2:=l j (by simpa using hj)
  rw[oP_eq (by lia) hc,Vp (by lia),Vp (by lia)] at s
  exact s
end Pu
namespace Pu
open PySem PySem.W PySem.Calls
open PyProof.Rows hiding St Fr
def RawD (h:Heap)(d:Addr)(es:Array We)(ep:Nat):Prop:=∃o,h.get? d=some o/\o.ExactDict/\o.data=.dict es ep
section
variable {prog:Yo}{w:World}{A:Around}{E:Value->Shared->Prop}{s:Shared}{d it:Addr}{es:Array We}{ep i:Nat}
theorem RawD.at {h h':Heap}(x:RawD h d es ep)(e:∀o,h.get? d=some o->h'.get? d=some o):RawD h' d es ep:=let ⟨o,ho,r⟩:=x;⟨o,e _ ho,r⟩
theorem RawD.ty (x:RawD s.heap d es ep):s.TypeIs (.ref d) "dict":=let ⟨o,ho,hc,_⟩:=x;⟨o,ho,hc.1⟩
theorem RawD.lt {h:Heap}(x:RawD h d es ep):d < h.objs.size:=let ⟨_,ho,_⟩:=x;Yq ho
theorem raw_iter {Q:Value->Shared->Prop}(lo:(d==XC)=false)(hm:RawD s.heap d es ep)
  (q:Q (.ref s.heap.objs.size) { s with heap:=s.heap.push { cls:=.type "dict_keyiterator",data:=.fields #[.ref d,.int 0 0,.int es.size 0,.int ep 0] } }):wpAny (model prog w) A (pyIter (.ref d)) Q E s:=by
 obtain ⟨o1,b1,b2,b3⟩:=id hm
 have shows:Builtin.Dict.showsAll d=pure ():=by delta Builtin.Dict.showsAll;simp only[lo];rfl
 have own:∀{P:Value->Shared->Prop} {B:Value->Shared->Prop} {A':Around},P (.ref d) s->wpAny (model prog w) A' (Builtin.Dict.dictSlotNone "__iter__" ⟨[.ref d],[]⟩) P B s:=fun z=>by
  delta Builtin.Dict.dictSlotNone
  exact Yc (wpAny_notOrdered_dict hm.ty (Yk z))
 apply wpAny_pyIter_slot hm.ty F.slot_dict_iter
 apply Xh F.slot_dict_iter hm.ty F.entry_dict_iter _ (F.args_dict_iter_1 _)
 delta VC.«dict.__iter__»
 apply Yc
 apply own
 repeat first
  | refine wpAny_of_eq shows ?_
  | refine wpAny_dictEntries b1 b3 ?_
  | refine wpAny_dictEpoch b1 b3 ?_
  | refine Xr ?_
  | apply Yc
  | apply Yk
 exact ⟨_,rfl,"dict_keyiterator",_,⟨_,Yh _ rfl,rfl⟩,Wq.lookup,by simpa[rawInt] using q⟩
theorem raw_next {Q:Option Value->Shared->Prop}(hh:es[i]? = none->A.handled=none)(hit:s.heap.IsKeyIter it d i es.size ep)(hm:RawD s.heap d es ep)
  (q1:∀e,es[i]? = some e->∀h',h'.IsKeyIter it d (i + 1) es.size ep->Wr it s.heap h'->Q (some e.key) { s with heap:=h' })
  (q2:es[i]? = none->∀h',W5 it s.heap h'->Q none { s with heap:=h' }):wpAny (model prog w) A (pyNext (.ref it)) Q E s:=by
 obtain ⟨o1,a1,a2,a3⟩:=id hit
 obtain ⟨o2,b1,b2,b3⟩:=hm
 have one:Builtin.Dict_items.ownsTuple "dict_keyiterator"=false:=by decide
 have there:(YY d==Xk)=false:=rfl
 delta pyNext
 apply Yc
 apply wpAny_attempt
 apply Xa (name:=X1 "__next__") hit.typeIs Wq
 apply Xh Wq hit.typeIs F.entry_dict_keyiterator_next _ (F.args_dict_keyiterator_next_1 _)
 repeat first
  | refine Wi hit.typeIs ?_
  | refine wpAny_fieldsOf a1 a3 ?_
  | refine wpAny_dictEntries b1 b3 ?_
  | refine wpAny_dictEpoch b1 b3 ?_
  | simp only[one,there,bne_self_eq_false,Xy,if_false]
  | apply Yc
  | apply Yk
 have up:¬(i:Int) < 0:=by lia
 simp only[up,if_false,W6]
 cases hx:es[i]? with
 | some e=>
  have on:(s.heap.update it (Obj.mapFields (·.setIfInBounds 1 (rawInt ((i:Int) + 1))))).IsKeyIter it d (i + 1) es.size ep:=⟨_,Vb _ a1 (Obj.isFreed_of_fields (WR a3 _)),(Obj.cls_mapFields ..).trans a2,by rw[WR a3];simp[rawInt]⟩
  have ty:({ s with heap:=s.heap.update it (Obj.mapFields (·.setIfInBounds 1 (rawInt ((i:Int) + 1)))) }:Shared).TypeIs (.ref it) "dict_keyiterator":=Heap.IsKeyIter.typeIs on
  dsimp only
  repeat first
   | refine Wi hit.typeIs ?_
   | refine wpAny_isOneOf_keyiter hit.typeIs ?_
   | refine wpAny_isOneOf_keyiter ty ?_
   | simp only[one,Xy,if_false,Nat.zero_add]
   | refine Vy a1 a3 (by simp) ?_
   | apply Y6
   | apply Yc
   | apply Yk
  exact ⟨_,rfl,Yk (q1 e hx _ on (Wb ..))⟩
 | none=>
  have calm:A.in1.handled=none:=hh hx
  dsimp only
  repeat first
   | refine Wi hit.typeIs ?_
   | simp only[one,Xy,if_false,Nat.zero_add]
   | refine Vy a1 a3 (by simp) ?_
   | refine wpAny_alloc' ?_
   | refine wpAny_raiseNew_none calm ?_
   | apply Yc
   | apply Yk
  refine wpAny_loadPart (Yh _ rfl) (Yk ?_)
  have stop:isSubtype (.type "StopIteration") (.type "StopIteration")=pure true:=isSubtype_stop
  dsimp only
  rw[stop]
  exact Yk (Yk (q2 hx _ (((Wb ..).extBut.push _).push _)))
theorem raw_item {e:We}{Q:Option Value->Shared->Prop}(hit:s.heap.IsKeyIter it d i es.size ep)(hm:RawD s.heap d es ep)(hx:es[i]? = some e)
  (q:∀h',h'.IsKeyIter it d (i + 1) es.size ep->Wr it s.heap h'->Q (some e.key) { s with heap:=h' }):wpAny (model prog w) A (pyNext (.ref it)) Q E s:=
 raw_next (fun z=>by rw[hx] at z;cases z) hit hm (fun e' z=>by rw[hx] at z;cases z;exact q) fun z=>by rw[hx] at z;cases z
theorem raw_end {Q:Option Value->Shared->Prop}(hh:A.handled=none)(hit:s.heap.IsKeyIter it d i es.size ep)(hm:RawD s.heap d es ep)(hx:es.size<=i)
  (q:∀h',W5 it s.heap h'->Q none { s with heap:=h' }):wpAny (model prog w) A (pyNext (.ref it)) Q E s:=
 raw_next (fun _=>hh) hit hm (fun e' z=>by rw[XF hx] at z;cases z) fun _=>q
theorem raw_walks (hh:A.handled=none)(I:Addr)(hne:d≠I):
  Walks prog w A I [I,d] [I] es.size (fun i v=>∃e,es[i]? = some e/\v=e.key) (fun i h=>h.IsKeyIter I d i es.size ep/\RawD h d es ep) where
 sub:=fun b hb=>by rw[Xe.mp hb];exact Xw
 frame:=fun _ _ _ st hk=>⟨st.1.at (hk I (.head _)),st.2.at (hk d (.tail _ (.head _)))⟩
 item:=fun i s Q E hi st hQ=>by
  have hx:es[i]? = some es[i]:=Xv hi
  exact raw_item st.1 st.2 hx fun h' k2 sb=>hQ _ h' s.toks ⟨_,hx,rfl⟩ ⟨k2,st.2.at fun o e=>sb.extBut d o hne e⟩ fun b o hb e=>sb.extBut b o (fun z=>hb (Xe.mpr z)) e
 done:=fun s Q E st hQ=>raw_end hh st.1 st.2 (Yx _) fun h' x=>hQ h' s.toks fun b o hb e=>x b o (fun z=>hb (Xe.mpr z)) e
 self:=fun _ _ _ _ st hQ=>wpAny_pyIter_keyiter st.1 hQ
theorem raw_src (lo:(d==XC)=false):KdlSrc prog w "dict" d d es.size (fun i v=>∃e,es[i]? = some e/\v=e.key) (fun h=>RawD h d es ep) where
 type:=fun _ hm=>hm.ty
 there:=fun _ hm=>⟨hm.lt,hm.lt⟩
 keep:=fun _ _ hm hk=>hm.at (hk d (.inl rfl))
 notList:=by decide
 notTuple:=by decide
 hint:=fun _ _ _ _ hm hq=>kdl_hint_dict hm.ty hq
 iter:=fun _ _ hh hm=>⟨_,_,fun _ _ hq=>raw_iter lo hm hq,raw_walks hh _ (YH hm.lt),⟨_,Yh _ rfl,rfl,rfl⟩,hm.at fun o e=>Yb _ e⟩
end
section
variable {prog:Yo}{w:World}{A:Around}{E:Value->Shared->Prop}{s:Shared}{T:String}{r d:Addr}{n:Nat}{P:Nat->Value->Prop}{OK:Heap->Prop}
theorem ext_src {R:Result->Shared->Prop}(K:KdlSrc prog w T r d n P OK)(hh:A.handled=none)(hok:OK s.heap)(S:Addr)(hSr:S≠r)(hSd:S≠d)(c₀:Nat)(hS:s.heap.get? S=some { cls:=.type "list",data:=.seq #[] c₀ })(hn:n<=Yn)
  (hR:∀h' tk acc c,(∀b o,b≠S->s.heap.get? b=some o->h'.get? b=some o)->h'.get? S=some { cls:=.type "list",dict:=none,data:=.seq acc c,slots:=#[] }->ItemsOf P acc n->R (.ok (.ret (.ref S))) { s with heap:=h',toks:=tk }):
  V2 (model prog w) A (.builtin "list.__iadd__" ⟨[.ref S,.ref r],[]⟩) R s:=by
 refine Vq entry_list_iadd' ?_
 rw[Around.under_plainId (show plainId "list.__iadd__"=true by decide +kernel) _]
 exact kdl_extend K hh hok S hSr hSd (.ref S) c₀ hS hR hn
theorem Zdc {Q:List Value->Shared->Prop}(K:KdlSrc prog w T r d n P OK)(hh:A.handled=none)(hok:OK s.heap)(hn:n<=Yn)
  (h:∀h' tk acc,(∀b o,s.heap.get? b=some o->h'.get? b=some o)->s.heap.objs.size<=h'.objs.size->ItemsOf P acc n->Q acc.toList { s with heap:=h',toks:=tk }):wpAny (model prog w) A (collect (.ref r)) Q E s:=by
 unfold collect
 refine Yc (wpAny_runValue (Vq entry_proto_collect' ?_))
 refine Yc (WU (Yk ⟨Code.quiet_builtin _ (by decide +kernel),?_⟩))
 have hS:(s.heap.push (seqObj "list" #[] 0)).get? s.heap.objs.size=some { cls:=.type "list",data:=.seq #[] 0 }:=Yh _ rfl
 have hlt:=K.there _ hok
 refine ext_src (s:={ s with heap:=s.heap.push (seqObj "list" #[] 0) }) K hh (K.keep _ _ hok fun b _ o e=>Yb _ e) s.heap.objs.size (Ws hlt.1) (Ws hlt.2) 0 hS hn fun h' tk acc c k e ai=>?_
 refine Yc (wpAny_load e ?_)
 exact Yk (h h' tk acc (fun b o z=>k b o (YH (Yq z)) (Yb _ z)) (VO (Yq e)) ai)
end
section
variable {prog:Yo}{w:World}{A:Around}{E:Value->Shared->Prop}{s:Shared}{vs:List Value}{κ:VF}{o:Nat->Nat->Bool}
theorem Zcg {v:Value}{Q:Value->Shared->Prop}(hcol:∀(Q':List Value->Shared->Prop),(∀h1 tk,(∀b u,s.heap.get? b=some u->h1.get? b=some u)->s.heap.objs.size<=h1.objs.size->Q' vs { s with heap:=h1,toks:=tk })->wpAny (model prog w) A.in1 (collect v) Q' E s)(h64:vs.length < 64)
  (hk:2<=vs.length->∀h' tk,(∀b u,s.heap.get? b=some u->h'.get? b=some u)->∀Q:VF->Shared->Prop,Q κ { s with heap:=h',toks:=tk }->wpAny (model prog w) A.in1.in1 (keyKind' vs.toArray) Q (fun _ _=>False) { s with heap:=h',toks:=tk })
  (hc:2<=vs.length->∀h' tk,(∀b u,s.heap.get? b=some u->h'.get? b=some u)->∀i j (C:Bool->Shared->Prop),i < vs.length->j < vs.length->C (o i j) { s with heap:=h',toks:=tk }->kas_ask prog w A.in1.in1 κ vs i j C { s with heap:=h',toks:=tk })
  (h:∀D h' tk c,s.heap.objs.size<=D->(∀b u,s.heap.get? b=some u->h'.get? b=some u)->h'.get? D=some (seqObj "list" (outs2 o vs).toArray c)->Q (.ref D) { s with heap:=h',toks:=tk }):
  wpAny (model prog w) A (call (.builtin "sorted") [v]) Q E s:=by
 refine Calls.call_function_entry kind_sorted plain_sorted entry_sorted (args_sorted1 _) ?_
 unfold VC.«sorted»
 refine Yc (m:=checkCount "sorted" 1 1 _) (Yk ?_);refine Yc (hcol _ fun h1 tk kp hle=>?_)
 refine Yc (WU ?_ (by rw[YE];lia))
 have hoL:(h1.push (seqObj "list" vs.toArray 0)).get? h1.objs.size=some (seqObj "list" vs.toArray 0):=Yh _ rfl
 have keep:∀b u,s.heap.get? b=some u->(h1.push (seqObj "list" vs.toArray 0)).get? b=some u:=fun b u e=>Yb _ (kp b u e)
 have kb:∀h',KeepBut h1.objs.size (h1.push (seqObj "list" vs.toArray 0)) h'->∀b u,s.heap.get? b=some u->h'.get? b=some u:=fun h' k b u e=>
  k b u (YH (Yv (Yq e) hle)) (keep b u e)
 show wpAny _ _ _ _ _ { s with heap:=h1.push (seqObj "list" vs.toArray 0),toks:=tk }
 refine Yc (Y6 (Xh slot_list_sort ⟨_,hoL,rfl⟩ entry_list_sort ?body (args_list_sort _)))
 case body=>
  by_cases h2:vs.length < 2
  ·refine lsort_few (s:={ s with heap:=h1.push (seqObj "list" vs.toArray 0),toks:=tk }) hoL h2 fun h' c k e=>⟨_,rfl,Yk ⟨_,rfl,h _ h' tk c hle (kb h' k) ?_⟩⟩
   unfold outs2;rw[if_pos h2];exact e
  ·refine lsort_at (s:={ s with heap:=h1.push (seqObj "list" vs.toArray 0),toks:=tk }) (κ:=κ) (o:=o) hoL (by lia) h64 (fun h' k=>hk (by lia) h' tk (kb h' k)) (fun h' k=>hc (by lia) h' tk (kb h' k)) fun h' c k e=>⟨_,rfl,Yk ⟨_,rfl,h _ h' tk c hle (kb h' k) ?_⟩⟩
   unfold outs2;rw[if_neg h2];exact e
end
end Pu
namespace Pu
open PySem PySem.Spec PySem.W PySem.Calls L2 PySem.SeqAt
open PyProof.Rows hiding St Fr
def tupK (k:List Key):PV:=.tup (k.map kP)
def keyOk:Key->Bool
 | .inl _=>true
 | .inr x=>decide (x.length<=1000)
def keysOk (ks:List (List Key)):Bool:=ks.all fun k=>k.all keyOk
theorem rep_kP {K:W.Frag}{ι:List Addr}{H:Hp}:∀{k:Key},keyOk k=true->Rep K ι H (kP k) (kV k)
 | .inl i,_=>repI
 | .inr x,h=>repS (k1000 (of_decide_eq_true h))
theorem reps_kP {K:W.Frag}{ι:List Addr}{H:Hp}:∀{k:List Key},k.all keyOk=true->Reps K ι H (k.map kP) (k.map kV)
 | [],_=>.nil
 | x::k,h=>by
  rw[XB,Yp] at h
  exact .cons (rep_kP h.1) (reps_kP h.2)
theorem rep_tupK {K:W.Frag}{ι:List Addr}{H:Hp}{k:List Key}{b:Addr}(h:k.all keyOk=true)(e:H b=some (.tup (k.map kV))):Rep K ι H (tupK k) (.ref b):=by
 unfold tupK Rep;exact ⟨b,_,rfl,e,reps_kP h⟩
theorem kt_reps {K:W.Frag}{ι:List Addr}{H:Hp}{kvs:List (List Key×V)}{xs:List (List Key×Addr×Value)}(r:KT H kvs xs)(h:keysOk (kvs.map (·.1))=true):Reps K ι H (kvs.map fun q=>tupK q.1) (xs.map fun x=>V.ref x.2.1):=by
 induction r with
 | nil=>exact .nil
 | @cons p q ps qs a t ih=>
  rw[Yr] at h
  unfold keysOk at h
  rw[XB,Yp] at h
  exact .cons (rep_tupK h.1 a.2.1) (ih h.2)
theorem ZcO:∀(xs:List (List Key×Addr×Value)),Vals (xs.map fun x=>V.ref x.2.1) (xs.map fun x=>YY x.2.1)
 | []=>.nil
 | x::xs=>.cons rfl (ZcO xs)
theorem items_raw {xs:List (List Key×Addr×Value)}{es:Array We}{prog:Yo}{w:World}{acc:Array Value}(he:es.toList=xs.map (entryOfKey (VM (mixKind prog w))))(h:ItemsOf (fun i v=>∃e,es[i]? = some e/\v=e.key) acc es.size):acc.toList=xs.map fun x=>YY x.2.1:=by
 have hl:es.size=xs.length:=size_of_entries he
 apply Wx
 intro i
 rw[Vc,YK]
 by_cases hi:i < acc.size
 ·obtain ⟨e,e1,e2⟩:=h.2 i _ (Xv hi)
  rw[Xv hi,e2]
  rw[entry_at he] at e1
  cases hx:xs[i]? with
  | none=>rw[hx] at e1;cases e1
  | some x=>rw[hx] at e1;cases e1;rfl
 ·rw[XF (by lia),XO (by have:=h.1;lia)];rfl
section
variable {X:Cx}
def rSortedD (K:W.Frag):List V->Hp->VK->Prop:=fun xs H Q=>∃p kvs,xs=[.ref p]/\Rd H p (.dT kvs)/\keysOk (kvs.map (·.1))=true/\(sortP (kvs.map fun q=>tupK q.1)).isSome=true/\
 ∀ys:List V,(∀ι,Reps K ι H (kvs.map fun q=>tupK q.1) ys)->∀l,H l=none->Q (.ref l) (upd H l (.lst (sortV (kvs.map fun q=>tupK q.1) ys)))
theorem call_sortedD (hcm:X.calm=true)(hu:X.A.units + 64 < cLine):CallR X (.builtin "sorted") (rSortedD X.K):=by
 intro pins s σ H xs us Q I r h
 obtain ⟨p,kvs,rfl,hq,hko,hs,q⟩:=h
 obtain ⟨u,rfl,rx⟩:=vals1 r
 cases rx
 obtain ⟨hz,lo,xs,kt,o,es,ep,ho,hex,hda,he,his,hnd⟩:=dt_rd I.hok hq
 have hl:es.size=xs.length:=size_of_entries he
 have hkl:kvs.length=xs.length:=Vf kt
 generalize hps:(kvs.map fun q=>tupK q.1)=ps at hs q
 have hpl:ps.length=kvs.length:=by rw[←hps,Yu]
 have rs:∀ι,Reps X.K ι H ps (xs.map fun x=>V.ref x.2.1):=fun ι=>by rw[←hps];exact kt_reps kt hko
 unfold sortP at hs
 split at hs
 ·rename_i hh
  simp only[Yp,decide_eq_true_eq] at hh
  obtain ⟨⟨⟨⟨hd,hde⟩,h64⟩,hso⟩,hcm'⟩:=hh
  have hr:=Reps.heap I ps (rs []) (ZcO xs) hd
  have hvl:(xs.map fun x=>YY x.2.1).length=ps.length:=by rw[Yu];lia
  refine Zcg (vs:=xs.map fun x=>YY x.2.1) (κ:=kindP ps) (o:=oP ps) (fun Q' q'=>?_) (by lia) (fun h2 h' tk k Q' q'=>?_) (fun h2 h' tk k i j C hi hj hC=>?_) (fun D h' tk c hD k e=>?_)
  ·refine Zdc (raw_src (es:=es) (ep:=ep) lo) (I.ok.hd hcm) ⟨o,ho,hex,hda⟩ (by rw[YE];lia) fun h' tk acc k hle ai=>?_
   rw[items_raw he ai]
   exact q' h' tk k hle
  ·exact kind_of (s:={ s with heap:=h',toks:=tk }) (hr.keep k) h2 hso q'
  ·exact ask_of (s:={ s with heap:=h',toks:=tk }) (hr.keep k) hso hcm' (by rw[YQ,YQ];lia) hi hj hC
  ·rw[ZcG hvl.symm] at e
   refine ⟨.ref D,_,I.laid (t':=tk) k hD (show ObjOk X.prog X.w _ h' _ (.lst (sortV ps (xs.map fun x=>V.ref x.2.1))) from ⟨?_,sortU ps (xs.map fun x=>YY x.2.1),c,?_,e⟩),rfl,q _ rs _ (I.hok.fresh hD)⟩
   ·unfold sortV
    rw[Yu]
    have:(perm ps).length<=64:=by
     unfold perm
     split
     ·rw[W7];lia
     ·rw[Yy,(ZcT (o:=oP ps) (Xi ps.length) (ZbU (by lia))).2.1];lia
    exact YB this (by rw[YE];decide)
   ·exact ZbY (ZcO xs) fun i hi=>by have:=ZbB i hi;lia
 ·cases hs
theorem collect_tup {prog:Yo}{w:World}{A:Around}{E:Value->Shared->Prop}{s:Shared}{l:Addr}{vs:List Value}{Q:List Value->Shared->Prop}(ht:s.heap.IsTuple l vs.toArray)(hsz:vs.length<=Yn)
  (h:∀h',(∀b o,s.heap.get? b=some o->h'.get? b=some o)->s.heap.objs.size<=h'.objs.size->Q vs { s with heap:=h' }):wpAny (model prog w) A (collect (.ref l)) Q E s:=by
 obtain ⟨o,ho,hc,n,hd⟩:=ht
 have new:(s.heap.push (seqObj "list" #[] 0)).get? s.heap.objs.size=some (seqObj "list" #[] 0):=Yh _ rfl
 have hk:=Yb (seqObj "list" #[] 0) ho
 unfold collect
 refine Yc (wpAny_runValue (Vq entry_proto_collect' (Yc (WU (Yk ⟨Code.quiet_builtin _ (by decide +kernel),Vq entry_list_iadd' ?_⟩)))))
 show wpAny _ _ (Vr (.ref s.heap.objs.size) (.ref l) (.ref s.heap.objs.size)) _ _ { s with heap:=s.heap.push (seqObj "list" #[] 0) }
 unfold Vr
 refine Yc (VT (T:="tuple") ⟨o,hk,hc⟩ ?_)
 have yes:(Builtin.List.listSameRef (.ref s.heap.objs.size) (.ref l)||W1 "tuple"==W1 "list"||W1 "tuple"==W1 "tuple")=true:=by rw[show (W1 "tuple"==W1 "tuple")=true by rfl,Bool.or_true]
 rw[if_pos yes]
 refine Yc (VY hk hd (Yc (VY new rfl ?_)))
 rw[if_neg (by simp)];refine Yc (Vg new rfl ?_ (X9 _) (by show (#[]++vs.toArray).size<=Yn + 1;simp;lia))
 have e2:=WT new (fun a=>a++vs.toArray)
 refine Yk (Yc (wpAny_load e2 ?_))
 show wpAny _ _ (pure ((#[]:Array Value)++vs.toArray).toList) Q E _
 rw[show ((#[]:Array Value)++vs.toArray).toList=vs by simp]
 refine Yk (h _ (fun b u e=>?_) ?_)
 ·rw[XE _ _ _ _ (YH (Yq e))];exact Yb _ e
 ·rw[Heap.size_update,size_push'];lia
def rSortedT (K:W.Frag):List V->Hp->VK->Prop:=fun xs H Q=>∃p ys ι ps,xs=[.ref p]/\SqT K H p ys/\Reps K ι H ps ys/\(sortP ps).isSome=true/\∀l,H l=none->Q (.ref l) (upd H l (.lst (sortV ps ys)))
theorem call_sortedT (hu:X.A.units + 64 < cLine):CallR X (.builtin "sorted") (rSortedT X.K):=by
 intro pins s σ H xs us Q I r h
 obtain ⟨p,ys,ι,ps,rfl,hq,rs,hs,q⟩:=h
 obtain ⟨u,rfl,rx⟩:=vals1 r
 cases rx
 obtain ⟨its,r',pl,hz⟩:=I.tuple hq
 unfold sortP at hs
 split at hs
 ·rename_i hh
  simp only[Yp,decide_eq_true_eq] at hh
  obtain ⟨⟨⟨⟨hd,hde⟩,h64⟩,hso⟩,hcm⟩:=hh
  have hr:=Reps.heap I ps rs r' hd
  have hl:=hr.length
  have hyl:=r'.length
  refine Zcg (vs:=its) (κ:=kindP ps) (o:=oP ps) (fun Q' q'=>collect_tup pl (by rw[YE];lia) fun h' k hle=>q' h' s.toks k hle) (by lia) (fun h2 h' tk k Q' q'=>?_) (fun h2 h' tk k i j C hi hj hC=>?_) (fun D h' tk c hD k e=>?_)
  ·exact kind_of (s:={ s with heap:=h',toks:=tk }) (hr.keep k) h2 hso q'
  ·exact ask_of (s:={ s with heap:=h',toks:=tk }) (hr.keep k) hso hcm (by rw[YQ,YQ];lia) hi hj hC
  ·rw[ZcG hl] at e
   refine ⟨.ref D,_,I.laid (t':=tk) k hD (show ObjOk X.prog X.w _ h' _ (.lst (sortV ps ys)) from ⟨?_,sortU ps its,c,?_,e⟩),rfl,q _ (I.hok.fresh hD)⟩
   ·unfold sortV
    rw[Yu]
    have:(perm ps).length<=64:=by
     unfold perm
     split
     ·rw[W7];lia
     ·rw[Yy,(ZcT (o:=oP ps) (Xi ps.length) (ZbU (by lia))).2.1];lia
    exact YB this (by rw[YE];decide)
   ·exact ZbY r' fun i hi=>by have:=ZbB i hi;lia
 ·cases hs
def sortedH2 (C:Cs):List SV->Option (List PV)
 | [x]=>match deref C x with
  | some (.lst xs)=>sortP xs
  | some (.tup xs)=>sortP xs
  | some (.dtt ks _)=>if keysOk ks then sortP (ks.map tupK) else none
  | _=>none
 | _=>none
def mSorted2 (fs:PSt->M (List SV)):PSt->M (List PV):=fun ρ=>bnd (fs ρ) fun xs=>opM fun C=>sortedH2 C xs
theorem fm_sorted2 {e:Expr}{es:List Expr}{fs:PSt->M (List SV)}{p pos:Pos}(hcm:X.calm=true)(hu:X.A.units + 64 < cLine)(hgl:Gl X "sorted")(hm:X.mg "sorted"=none)(hv:YX "sorted"=some (.builtin "sorted"))(ha:AM X (e::es) fs)
  (he:Yg (e::es) X.env=(false,eval e X.env)::Yg es X.env:=by rfl) (hpl:(backTo pos (Yg es X.env)).any (·.1)=false:=by rfl):FM X (.Call (.Name "sorted" p) (e::es) [] pos) (mSorted2 fs):=
 PE.imp (pe_callB ((call_sorted hu).or ((call_sortedT hu).or (call_sortedD hcm hu))) hgl hm hv ha (by decide) (by decide) he hpl) fun σ H Q h_=>by
  obtain ⟨ι,ρ,C,z,C',sr,e,q⟩:=h_
  obtain ⟨xs,C1,e1,e⟩:=Zag e
  obtain ⟨e2,rfl⟩:=Zav e
  refine ⟨ι,ρ,C,xs,_,sr,e1,fun vs H1 f1 c1 r1=>?_⟩
  unfold sortedH2 at e2
  split at e2
  ·rename_i x
   obtain ⟨v,w,rfl,r1,hw⟩:=r1
   cases (show w=[] from hw)
   split at e2
   ·rename_i ps hd
    obtain ⟨a,ws,rfl,h1,r2⟩:=liesL (r1.lies c1 hd)
    refine .inl ⟨a,ws,ι,ps,rfl,h1,r2,by rw[e2];rfl,fun l hl=>?_⟩
    refine q l _ H1 f1 c1 hl ?_
    rw[Zcz e2]
    exact Zb1 r2 fun i hi=>ZbB i hi
   ·rename_i ps hd
    obtain ⟨a,ws,rfl,h1,r2⟩:=liesT (r1.lies c1 hd)
    refine .inr (.inl ⟨a,ws,ι,ps,rfl,h1.sq,r2,by rw[e2];rfl,fun l hl=>?_⟩)
    refine q l _ H1 f1 c1 hl ?_
    rw[Zcz e2]
    exact Zb1 r2 fun i hi=>ZbB i hi
   ·rename_i ks ps hd
    have li:=r1.lies c1 hd
    cases li with
    | @dtt a _ _ ws h1 hl r2=>
     by_cases hk:keysOk ks=true
     ·rw[if_pos hk] at e2
      have ek:((ks.zip ws).map fun q=>tupK q.1)=ks.map tupK:=by
       have:(ks.zip ws).map V6=ks:=WC (by lia)
       exact (Y9 (f:=V6) (g:=tupK) (l:=ks.zip ws)).symm.trans (by rw[this])
      have ef:(ks.zip ws).map (·.1)=ks:=WC (by lia)
      refine .inr (.inr ⟨a,ks.zip ws,rfl,h1,by rw[ef];exact hk,by rw[ek,e2];rfl,fun ys ry l hl=>?_⟩)
      refine q l _ H1 f1 c1 hl ?_
      rw[Zcz e2,ek]
      have ry':=ry ι
      rw[ek] at ry'
      exact Zb1 ry' fun i hi=>ZbB i hi
     ·rw[if_neg hk] at e2;cases e2
   ·cases e2
  ·cases e2
end
def inK {κ:Type} [DecidableEq κ](k:κ)(ks:List κ):Bool:=ks.any fun a=>decide (a=k)
def putKs {κ:Type} [DecidableEq κ](ks:List κ)(k:κ):List κ:=if inK k ks then ks else ks++[k]
def putVs {κ:Type} [DecidableEq κ]{α:Type}(ks:List κ)(xs:List α)(k:κ)(x:α):List α:=if inK k ks then (ks.zip xs).map (fun q=>if q.1=k then x else q.2) else xs++[x]
theorem inK_iff {κ:Type} [DecidableEq κ]{k:κ}{ks:List κ}:inK k ks=true↔k∈ks:=by
 unfold inK;rw[List.any_eq_true]
 constructor
 ·rintro ⟨a,h,e⟩;rw[←of_decide_eq_true e];exact h
 ·intro h;exact ⟨k,h,decide_eq_true rfl⟩
theorem ZcN {κ:Type} [DecidableEq κ]{k:κ}{v:V}:∀{ks:List κ} {vs:List V},ks.length=vs.length->((ks.zip vs).map fun kv=>if kv.1=k then (kv.1,v) else kv)=ks.zip ((ks.zip vs).map fun q=>if q.1=k then v else q.2)
 | [],vs,_=>by simp
 | a::ks,[],h=>by simp at h
 | a::ks,b::vs,h=>by
  rw[Xf,Yr,Yr,Xf,ZcN (by simpa using h)]
  by_cases e:a=k
  ·simp[e]
  ·simp[e]
theorem zip_any {κ:Type} [DecidableEq κ]{k:κ}:∀{ks:List κ} {vs:List V},ks.length=vs.length->((ks.zip vs).any fun kv=>decide (kv.1=k))=inK k ks
 | [],vs,_=>by simp[inK]
 | a::ks,[],h=>by simp at h
 | a::ks,b::vs,h=>by
  rw[Xf,XJ,zip_any (by simpa using h)]
  unfold inK;rw[XJ]
theorem put_zip {κ:Type} [DecidableEq κ]{k:κ}{v:V}{ks:List κ}{vs:List V}(h:ks.length=vs.length):putK (ks.zip vs) k v=(putKs ks k).zip (putVs ks vs k v)/\(putKs ks k).length=(putVs ks vs k v).length:=by
 unfold putK putKs putVs
 rw[zip_any h]
 cases e:inK k ks with
 | true=>
  simp only[if_true]
  refine ⟨ZcN h,?_⟩
  rw[Yu,List.length_zip];lia
 | false=>
  simp only[Xy,if_false]
  refine ⟨?_,by simp[h]⟩
  rw[List.zip_append h];rfl
theorem reps_put {κ:Type} [DecidableEq κ]{K:W.Frag}{ι:List Addr}{H:Hp}{k:κ}{p:PV}{v:V}(hp:Rep K ι H p v){ks:List κ}{ps:List PV}{vs:List V}(r:Reps K ι H ps vs):Reps K ι H (putVs ks ps k p) (putVs ks vs k v):=by
 unfold putVs
 by_cases e:inK k ks=true
 ·rw[if_pos e,if_pos e]
  clear e
  induction ks generalizing ps vs with
  | nil=>simp;exact .nil
  | cons a ks ih=>
   cases ps with
   | nil=>rw[r.inv0];simp;exact .nil
   | cons q ps=>
    obtain ⟨w,ws,rfl,h1,h2⟩:=r.inv
    rw[Xf,Xf,Yr,Yr]
    refine .cons ?_ (ih h2)
    by_cases z:a=k
    ·simp only[z,if_true];exact hp
    ·simp only[z,if_false];exact h1
 ·rw[if_neg e,if_neg e];exact r.append (.cons hp .nil)
def keysP:List PV->Option (List Key)
 | []=>some []
 | p::r=>match keyP p,keysP r with
  | some k,some ks=>some (k::ks)
  | _,_=>none
def pairP:PV->Option (List Key×PV)
 | .tup [.tup qs,v]=>(keysP qs).map fun k=>(k,v)
 | _=>none
section
variable {K:W.Frag}{ι:List Addr}{H:Hp}
theorem rep_key {x:PV}{v:V}{q:Key}(l:Rep K ι H x v)(h:keyP x=some q):v=kV q:=lies_key (Rep.lies l) h
theorem reps_keys:∀{qs:List PV} {ws:List V} {k:List Key},Reps K ι H qs ws->keysP qs=some k->ws=k.map kV
 | [],ws,k,r,e=>by cases e;exact r.inv0
 | p::qs,ws,k,r,e=>by
  obtain ⟨v,w,rfl,h1,h2⟩:=r.inv
  unfold keysP at e
  split at e
  ·rename_i a b e1 e2
   cases e
   rw[rep_key h1 e1,reps_keys h2 e2];rfl
  ·cases e
theorem rep_tupKeys {qs:List PV}{k:List Key}{v:V}(r:Rep K ι H (.tup qs) v)(e:keysP qs=some k):∃b,v=.ref b/\H b=some (.tup (k.map kV)):=by
 unfold Rep at r
 obtain ⟨b,ws,rfl,h,rs⟩:=r
 rw[reps_keys rs e] at h
 exact ⟨b,rfl,h⟩
end
section
variable {X:Cx}{e o i:Expr}{es:List Expr}{fs:PSt->M (List SV)}{p pos pos':Pos}{x:Str}{fv fo fi:PSt->M SV}
def mNewT (i:Nat):PSt->M PF:=fun ρ C=>some (.nx (ρ.set i (some (.c C.length))),C++[.dtt [] []])
def setT (v o i:SV)(ρ:PSt):M PF:=fun C=>match o,i,v with
 | .c k,.v (.tup qs),.v p=>match C[k]?,keysP qs with
  | some (.dtt ks ps),some key=>if ks.length < 1000 then some (.nx ρ,C.set k (.dtt (putKs ks key) (putVs ks ps key p))) else none
  | _,_=>none
 | _,_,_=>none
def mSetIxT (fv fo fi:PSt->M SV):PSt->M PF:=fun ρ=>bnd (fv ρ) fun v=>bnd (fo ρ) fun o=>bnd (fi ρ) fun i=>setT v o i ρ
theorem setT_some {v o i:SV}{ρ:PSt}{C C2:Cs}{fl:PF}(h:setT v o i ρ C=some (fl,C2)):∃k qs p ks ps key,o=.c k/\i=.v (.tup qs)/\v=.v p/\C[k]? = some (.dtt ks ps)/\keysP qs=some key/\ks.length < 1000/\fl=.nx ρ/\C2=C.set k (.dtt (putKs ks key) (putVs ks ps key p)):=by
 unfold setT at h
 split at h
 ·split at h
  ·split at h
   ·cases h;exact ⟨_,_,_,_,_,_,rfl,rfl,rfl,by assumption,by assumption,by assumption,rfl,rfl⟩
   ·cases h
  ·cases h
 ·cases h
end
end Pu
namespace Se
open PySem PySem.SetTable PySem.W
open PyProof.Rows hiding St Fr
section
variable {prog:Yo}{w:World}{A:Around}{E:Value->Shared->Prop}{s:Shared}{I a T:Addr}{es:Array (Int×Value)}{ep i:Nat}{t:SetTable}
abbrev PA (arr:Array (Int×Value)):Nat->Value->Prop:=fun i v=>∃e,arr[i]? = some e/\v=e.2
end
end Se
namespace Pu
open PySem PySem.Spec PySem.W PySem.Calls L2
open PyProof.Rows hiding St Fr
def mulSP (x y:PV):Option PV:=match x,y with
 | .str z,.int n=>if z.length=1/\n < 1000/\-1000 < n then some (.str (Txt.mul z n)) else none
 | _,_=>none
theorem Zc5 (c:Array Nat):∀(k:Nat) (acc:Array Nat),((YO k c).foldl (·++·) acc).toList=acc.toList++(YO k c.toList).flatten
 | 0,acc=>by simp
 | k + 1,acc=>by
  rw[Wc,List.foldl_cons,Zc5 c k,Wc,List.flatten_cons,YJ,YF]
theorem mulS_list {z:Str}{c:Nat}(hz:z.cps.toList=[c])(n:Int):(Txt.mul z n).cps.toList=YO n.toNat c:=by
 unfold Txt.mul
 by_cases h:n < 1
 ·rw[if_pos h,show n.toNat=0 by lia];rfl
 ·rw[if_neg h]
  have hl:z.length=1:=by show z.cps.size=1;rw[←Yy,hz];rfl
  by_cases h1:n=1
  ·subst h1;simp[hz]
  ·rw[if_neg (by simp[h1,hl])]
   show ((YO n.toNat z.cps).foldl (·++·) #[]).toList=_
   rw[Zc5,hz]
   simp[List.flatten_replicate_singleton]
theorem mulS_len {z:Str}(hz:z.length=1)(n:Int):(Txt.mul z n).length=n.toNat:=by
 have:z.cps.toList.length=1:=by rw[Yy];exact hz
 obtain ⟨c,e⟩:∃c,z.cps.toList=[c]:=by
  match z.cps.toList,this with
  | [c],_=>exact ⟨c,rfl⟩
 show (Txt.mul z n).cps.size=_
 rw[←Yy,mulS_list e];simp
section
variable {X:Cx}{a b e:Expr}{fa fb:PSt->M SV}{pos p:Pos}{es:List Expr}{fs:PSt->M (List SV)}
def rMulS:R2:=fun x y H Q=>∃z n,x=.str z/\y=.int n/\z.length=1/\n < 1000/\-1000 < n/\Q (.str (Txt.mul z n)) H
theorem op_mulS:OpR X (X6 .Mult) rMulS:=by
 intro pins s σ H x y v u Q I rx ry h
 obtain ⟨z,n,rfl,rfl,hz,h1,h2,q⟩:=h
 obtain ⟨t,rfl⟩:=(show ∃t,v=.str z t from rx)
 obtain ⟨t',rfl⟩:=(show ∃t,u=.int n t from ry)
 refine SB.mul ⟨?_,fun g _=>?_,fun g _=>?_⟩ fun t2 k=>⟨.str (Txt.mul z n),H,I.tok _,⟨_,rfl⟩,q⟩
 ·simp;lia
 ·rw[hz]
  have:(1:Int)<=(2 ^ 63 - 1) / n:=by
   rw[Int.le_ediv_iff_mul_le (by lia)];lia
  lia
 ·have:z.length * n.toNat<=sizeLine:=by rw[hz,YE];lia
  exact decide_eq_false (Nat.not_lt.mpr this)
theorem mulS_ok:L2ok X.K rMulS mulSP:=by
 intro ι H C p q vx vy z Q cr lx ly e k
 unfold mulSP at e
 split at e
 ·split at e
  ·rename_i s n hc
   cases e
   obtain ⟨rfl,hs⟩:=liesS lx
   cases ly
   refine ⟨_,_,rfl,rfl,hc.1,hc.2.1,hc.2.2,k _ H .refl cr ?_⟩
   unfold Rep
   exact ⟨rfl,by rw[mulS_len hc.1,YE];lia⟩
  ·cases e
 ·cases e
end
end Pu
namespace Pu
open PySem PySem.Spec PySem.W PySem.Calls L2 PySem.SeqAt
open PyProof.Rows hiding St Fr
theorem keysP_kP:∀(qs:List Key),keysP (qs.map kP)=some qs
 | []=>rfl
 | q::qs=>by rw[Yr];unfold keysP;rw[keyP_kP,keysP_kP qs]
theorem keyIs_rel {k:Key}{u:Value}(h:keyIs k u=true):RelV (kV k) u:=by
 rcases ZaP h with ⟨i,t,rfl,rfl⟩ | ⟨x,t,rfl,rfl⟩
 ·exact ⟨t,rfl⟩
 ·exact ⟨t,rfl⟩
theorem pairs_vals {P:Yo}{w:World}{es:List We}{vs:List (Key×Value)}(h:Pairs (mixKind P w) es vs):Vals (vs.map fun q=>kV q.1) (es.map (·.key)):=by
 induction h with
 | nil=>exact .nil
 | cons h1 h2 h3 ih=>exact .cons (keyIs_rel h1) ih
theorem items_keys {es:Array We}{acc:Array Value}(h:ItemsOf (fun i v=>∃e,es[i]? = some e/\v=e.key) acc es.size):acc.toList=es.toList.map (·.key):=by
 apply Wx
 intro i
 rw[Vc,YK,Vc]
 by_cases hi:i < acc.size
 ·obtain ⟨e,e1,e2⟩:=h.2 i _ (Xv hi)
  rw[Xv hi,e2,e1];rfl
 ·have:=h.1
  rw[XF (by lia),XF (by lia)];rfl
section
variable {X:Cx}
def rSortedK (K:W.Frag):List V->Hp->VK->Prop:=fun xs H Q=>∃p kvs,xs=[.ref p]/\H p=some (.dK kvs)/\(kvs.map (·.1)).all keyOk=true/\(sortP (kvs.map fun q=>kP q.1)).isSome=true/\
 ∀l,H l=none->Q (.ref l) (upd H l (.lst (sortV (kvs.map fun q=>kP q.1) (kvs.map fun q=>kV q.1))))
theorem call_sortedK (hcm:X.calm=true)(hu:X.A.units + 64 < cLine):CallR X (.builtin "sorted") (rSortedK X.K):=by
 intro pins s σ H xs us Q I r h
 obtain ⟨p,kvs,rfl,hq,hko,hs,q⟩:=h
 obtain ⟨u,rfl,rx⟩:=vals1 r
 cases rx
 obtain ⟨hz,lo,vs,kv,o,es,ep,ho,hex,hda,hke,hpa,hnd⟩:=dk_of I.hok hq
 have hkv:(kvs.map fun q=>kV q.1)=vs.map fun q=>kV q.1:=by
  have:=kv.keys
  have e1:(kvs.map fun q=>kV q.1)=(kvs.map (·.1)).map kV:=by rw[Y9];rfl
  have e2:(vs.map fun q=>kV q.1)=(vs.map (·.1)).map kV:=by rw[Y9];rfl
  rw[e1,e2,this]
 have hv:=pairs_vals hpa
 rw[←hkv] at hv
 have hl:es.size=kvs.length:=by
  have:=hv.length
  simpa using this.symm
 generalize hps:(kvs.map fun q=>kP q.1)=ps at hs q
 have hpl:ps.length=kvs.length:=by rw[←hps,Yu]
 have rs:∀ι,Reps X.K ι H ps (kvs.map fun q=>kV q.1):=fun ι=>by
  rw[←hps,show (kvs.map fun q=>kP q.1)=(kvs.map (·.1)).map kP by rw[Y9];rfl,show (kvs.map fun q=>kV q.1)=(kvs.map (·.1)).map kV by rw[Y9];rfl]
  exact reps_kP hko
 unfold sortP at hs
 split at hs
 ·rename_i hh
  simp only[Yp,decide_eq_true_eq] at hh
  obtain ⟨⟨⟨⟨hd,hde⟩,h64⟩,hso⟩,hcm'⟩:=hh
  have hr:=Reps.heap I ps (rs []) hv hd
  have hvl:(es.toList.map (·.key)).length=ps.length:=by rw[Yu,Yy];lia
  refine Zcg (vs:=es.toList.map (·.key)) (κ:=kindP ps) (o:=oP ps) (fun Q' q'=>?_) (by lia) (fun h2 h' tk k Q' q'=>?_) (fun h2 h' tk k i j C hi hj hC=>?_) (fun D h' tk c hD k e=>?_)
  ·refine Zdc (raw_src (es:=es) (ep:=ep) lo) (I.ok.hd hcm) ⟨o,ho,hex,hda⟩ (by rw[YE];lia) fun h' tk acc k hle ai=>?_
   rw[items_keys ai]
   exact q' h' tk k hle
  ·exact kind_of (s:={ s with heap:=h',toks:=tk }) (hr.keep k) h2 hso q'
  ·exact ask_of (s:={ s with heap:=h',toks:=tk }) (hr.keep k) hso hcm' (by rw[YQ,YQ];lia) hi hj hC
  ·rw[ZcG hvl.symm] at e
   refine ⟨.ref D,_,I.laid (t':=tk) k hD (show ObjOk X.prog X.w _ h' _ (.lst (sortV ps (kvs.map fun q=>kV q.1))) from ⟨?_,sortU ps (es.toList.map (·.key)),c,?_,e⟩),rfl,q _ (I.hok.fresh hD)⟩
   ·unfold sortV
    rw[Yu]
    have:(perm ps).length<=64:=by
     unfold perm
     split
     ·rw[W7];lia
     ·rw[Yy,(ZcT (o:=oP ps) (Xi ps.length) (ZbU (by lia))).2.1];lia
    exact YB this (by rw[YE];decide)
   ·exact ZbY hv fun i hi=>by have:=ZbB i hi;simp only[Yu,Yy] at hvl ⊢;lia
 ·cases hs
def sortedH3 (C:Cs):List SV->Option (List PV)
 | [x]=>match deref C x with
  | some (.dct ks _)=>match keysP ks with
   | some qs=>if qs.all keyOk then sortP ks else none
   | none=>none
  | _=>sortedH2 C [x]
 | _=>none
def mSorted3 (fs:PSt->M (List SV)):PSt->M (List PV):=fun ρ=>bnd (fs ρ) fun xs=>opM fun C=>sortedH3 C xs
theorem PE.or {e:Expr}{t t':TE}(h:PE X e t)(k:PE X e t'):PE X e fun σ H Q=>t σ H Q\/t' σ H Q:=fun pins s σ H Q I q=>by
 rcases q with q | q
 ·exact h pins s σ H Q I q
 ·exact k pins s σ H Q I q
end
end Pu
namespace Pu
open PySem PySem.Spec L2
open PyProof.Rows hiding St Fr
def Je (K:W.Frag)(a:Addr):It:=⟨fun i H=>∃xs v,SqL K H a xs/\xs[i]? = some v,fun i H x H'=>∃b v,H b=none/\x=.ref b/\H'=upd H b (.tup [.int i,v])/\∀xs,SqL K H a xs->xs[i]? = some v,
 fun i H=>∃xs,SqL K H a xs/\xs.length<=i⟩
theorem turn_enum {P:Yo}{w:World}{K:W.Frag}{elts:List Expr}{x1:Nat}{pos:Pos}{a e it:Addr}(hne:e≠it):Turn P w K (.Tuple elts x1 pos) (Je K a) [e,it] e
  (fun i h=>(∃old,IsEnum h e it i old)/\h.IsListIter it a i) where
 mem:=by simp
 obj:=fun i h st b hb=>by
  obtain ⟨⟨old,he⟩,o,hi,hc,hd⟩:=st
  simp only[Ye,Yt,or_false] at hb
  rcases hb with rfl | rfl
  ·exact ⟨_,he,fun v q=>by cases q⟩
  ·exact ⟨o,hi,fun v q=>by rw[hd] at q;cases q⟩
 keep:=fun i h h' st k=>by
  obtain ⟨⟨old,he⟩,hi⟩:=st
  exact ⟨⟨old,k e (by simp) _ he⟩,hi.at fun o z=>k it (by simp) o z⟩
 item:=by
  intro X hP hw hK hc i pins s σ H E I hf st hg
  subst hP hw hK
  obtain ⟨⟨old,he⟩,hi⟩:=st
  obtain ⟨xs,v,hq,hx⟩:=hg
  obtain ⟨its,rv,p,hz⟩:=I.list hq
  obtain ⟨u,hu,ru⟩:=rv.get hx
  refine wpAny_pyNext_enum_item he hi p.isList (x:=u) (by simpa using hu) hne fun h' ho hi' hT hsz hk=>⟨_,rfl,?_⟩
  refine wpAny_letOwnedTupleGo_enum (s:={ s with heap:=h',toks:=s.toks + 1 }) ho fun h3 he3 sb=>?_
  have J1:Inv X pins σ H { s with heap:=h3,toks:=s.toks + 1 }:=turnedL (ch:=[e,it]) I (fun b o hb z=>by
   simp only[Ye,Yt,or_false,not_or] at hb
   exact sb.extBut _ _ hb.1 (hk b o hb.1 hb.2 z)) hf
  have hlt:∀{b o},s.heap.get? b=some o->b≠s.heap.objs.size:=fun e=>YH (Yq e)
  have hn:H s.heap.objs.size=none:=I.hok.fresh (Yx _)
  have hT3:=sb.extBut _ _ (hlt he).symm hT
  have J2:=track (ob:=.tup [.int i,v]) J1 hn I.sz (Ws I.lt) (fun x c e=>by obtain ⟨v,q⟩:=I.cell x c e;exact YH q.lt) (fun p hp=>hlt (I.pin p hp).1)
   ⟨by show 2<=Yn;rw[YE];decide,[.int i s.toks,u],.cons ⟨_,rfl⟩ (.cons ru .nil),⟨_,hT3,rfl,_,rfl⟩⟩
  refine ⟨.ref s.heap.objs.size,_,J2,rfl,⟨_,v,hn,rfl,rfl,fun ys hy=>by rw[I.list_inj hy hq];exact hx⟩,⟨⟨_,he3⟩,hi'.at fun o z=>sb.extBut _ _ hne.symm z⟩,fun b hb=>?_⟩
  have hb':b≠s.heap.objs.size:=by
   simp only[Ye,Yt,or_false] at hb
   rcases hb with rfl | rfl
   ·exact hlt he
   ·obtain ⟨o,z,_⟩:=hi;exact hlt z
  rw[Zas hb'];exact (hf b hb).1
 done:=by
  intro X hP hw hK hc i pins s σ H E I hf st hg
  subst hP hw hK
  obtain ⟨⟨old,he⟩,hi⟩:=st
  obtain ⟨xs,hq,hx⟩:=hg
  obtain ⟨its,rv,p,hz⟩:=I.list hq
  have hl:=rv.length
  refine wpAny_pyNext_enum_end (I.ok.hd hc) he hi p.isList (by simp;lia) fun h' eb=>⟨rfl,turnedL (t':=s.toks) (ch:=[e,it]) I (fun b o hb z=>?_) hf⟩
  simp only[Ye,Yt,or_false,not_or] at hb
  exact eb b o hb.2 z
 self:=fun _ _ _ _ _ st h=>by obtain ⟨⟨old,he⟩,_⟩:=st;exact wpAny_pyIter_enum he h
section
variable {X:Cx}{l:Expr}{elts:List Expr}{x1:Nat}{tpos p pos:Pos}
def iEnum (K:W.Frag)(tl:TA):TI:=fun σ H R=>tl σ H fun xs H1=>∃a,xs=[.ref a]/\(∃vs,SqL K H1 a vs)/\R (Je K a) H1
theorem pi_enum {tl:TA}(hg:Gl X "enumerate")(hm:X.mg "enumerate"=none)(ha:PA X [l] tl)(hs:Yg [l] X.env=[(false,eval l X.env)]:=by rfl):PI X (.Tuple elts x1 tpos) (.Call (.Name "enumerate" p) [l] [] pos) (iEnum X.K tl):=by
 intro pins s σ H R I h
 refine Call_ (Zc1 I hg hm 1e0 (Xm (thn (ha pos pins s σ H _ I h) fun us s1 ⟨vs,H1,I1,r1,q1⟩=>?_) hs rfl))
 obtain ⟨a,rfl,⟨ws,hq⟩,q⟩:=q1
 obtain ⟨u,rfl,ru⟩:=vals1 r1
 cases ru
 obtain ⟨its,rv,pl,hz⟩:=I1.list hq
 refine call_enumerate_list pl.isList fun h' he hi hsz k=>?_
 have J:Inv X pins σ H1 { s1 with heap:=h' }:=I1.kept (t':=s1.toks) k
 refine wpAny_pyIter_enum (s:={ s1 with heap:=h' }) he ⟨s1.heap.objs.size + 1,[s1.heap.objs.size + 1,s1.heap.objs.size],_,_,H1,rfl,J,turn_enum (Nat.succ_ne_self _),⟨⟨_,he⟩,hi⟩,fun b hb=>?_,q⟩
 have hb':s1.heap.objs.size<=b:=by
  simp only[Ye,Yt,or_false] at hb
  rcases hb with rfl | rfl<;>lia
 exact I1.fpOk hb' (I1.hok.fresh hb')
def enumL (xs:List PV):List PV:=(YT xs.length).map fun i=>.tup [.int (i:Nat),xs.getD i .non]
def enumP:List SV->Option (List PV)
 | [.v (.lst xs)]=>some (enumL xs)
 | _=>none
def mEnum (fs:PSt->M (List SV)):PSt->M (List PV):=fun ρ=>bnd (fs ρ) fun xs=>opM fun _=>enumP xs
theorem Zc7 (xs:List PV):(enumL xs).length=xs.length:=by unfold enumL;simp
theorem iter_enum {K:W.Frag}{ι:List Addr}{H:Hp}{C:Cs}{a:Addr}{xs:List PV}{vs:List V}(cr:CR K ι H C)(h:LsR K ι H a vs)(r:Reps K ι H xs vs):Iter K ι H (enumL xs) (Je K a):=by
 have keep:∀ι2 H2,Ex ι ι2 H H2->SqL K H2 a vs:=fun ι2 H2 x=>by
  rcases h with ⟨n,q | ⟨o,q⟩⟩ | q
  ·exact .inl (.inl (x.out _ _ n q).2)
  ·exact .inl (.inr ⟨o,(x.out _ _ n q).2⟩)
  ·exact .inr q
 refine ⟨fun ι2 H2 C2 x c i hi=>?_,fun ι2 H2 C2 x c i v H3 hi y=>?_,fun ι2 H2 C2 x c=>⟨vs,keep ι2 H2 x,by rw[Zc7,r.length];exact Yx _⟩⟩
 ·rw[Zc7] at hi
  obtain ⟨v,e,_⟩:=r.get (Yd hi)
  exact ⟨vs,v,keep ι2 H2 x,e⟩
 ·rw[Zc7] at hi
  obtain ⟨b,w,hn,rfl,rfl,y⟩:=y
  obtain ⟨p,hp,rp⟩:=r.get' (y vs (keep ι2 _ x))
  refine ⟨fun c o e=>by rw[Zas (Zao e hn)];exact e,.tup [.int (i:Nat),p],?_,Zck hn (.cons repI (.cons (Rep.tr cr x.out p w rp) .nil))⟩
  unfold enumL
  simp[hi]
  rw[Yd hi] at hp
  exact Yz hp
end
end Pu
namespace Pu
open PySem PySem.Spec L2
open PyProof.Rows hiding St Fr
section
variable {X:Cx}{e o:Expr}{es:List Expr}{fo:PSt->M SV}{fs:PSt->M (List SV)}{apos cpos:Pos}
variable {a b:Expr}{fa fb:PSt->M SV}{pos:Pos}
theorem fn_none {P:Yo}{w:World}{K:W.Frag}{mg:Str->Option Value}{base:Heap}{k:Nat}{f:Addr}{fd:Ym}{ps:List Str}:FnOk P w K mg base CX0 k f fd ps (liftSp K fun _ _=>none):=
 ⟨fun vs H Q E h=>(by obtain ⟨_,_,_,_,_,_,_,e,_⟩:=h;cases e),fun A outer s H args us vs Q E _ _ _ _ h=>by obtain ⟨_,_,_,_,_,_,_,e,_⟩:=h;cases e⟩
end
end Pu
namespace Hd
open PySem PySem.W PySem.Spec PySem.Calls L2 Pu
open PyProof.Rows hiding St Fr
def kf (h:Heap)(as:List Addr):Frag:=as.filterMap fun a=>(h.get? a).map fun o=>(a,o)
theorem kf_get {h:Heap}:∀{as:List Addr} {a:Addr} {o:Obj},(kf h as).lookup a=some o->h.get? a=some o
 | [],_,_,e=>by cases e
 | b::as,a,o,e=>by
  unfold kf at e
  rw[X5] at e
  cases g:h.get? b with
  | none=>rw[g] at e;exact kf_get e
  | some p=>
   rw[g] at e
   simp only[Vl,Yj] at e
   by_cases q:a=b
   ·subst q;rw[beq_self_eq_true] at e;cases e;exact g
   ·rw[beq_eq_false_iff_ne.mpr q] at e;exact kf_get e
theorem kf_in (h:Heap)(as:List Addr):(kf h as).In h:=fun _ _ e=>kf_get e
theorem kf_at {h:Heap}{a:Addr}{o:Obj}(g:h.get? a=some o):∀{as:List Addr},a∈as->(kf h as).lookup a=some o
 | [],m=>by cases m
 | b::as,m=>by
  unfold kf
  rw[X5]
  by_cases q:a=b
  ·subst q;rw[g];simp
  ·have m':a∈as:=(Ye.mp m).resolve_left q
   cases g':h.get? b with
   | none=>exact kf_at g m'
   | some p=>
    simp only[Vl,Yj]
    rw[beq_eq_false_iff_ne.mpr q]
    exact kf_at g m'
def At (mg:Str->Option Value)(h:Heap)(as:List Addr)(d:DefRec):Prop:=∃(a c:Addr) (o:Obj) (pm doc:Value),mg d.name=some (.ref a)/\h.get? a=some o/\o.data=.func (docDef d.name d.params d.body d.scope pm (.ref c) doc)/\h.CodeRec (.ref c) d.name/\a∈as/\c∈as
theorem at_all {mg:Str->Option Value}{h:Heap}(as0:List Addr):∀ds:List DefRec,(∀d∈ds,∃a o pm code doc,mg d.name=some (.ref a)/\h.get? a=some o/\o.data=.func (docDef d.name d.params d.body d.scope pm code doc)/\h.CodeRec code d.name)->
  ∃as:List Addr,(∀a∈as0,a∈as)/\∀d∈ds,At mg h as d
 | [],_=>⟨as0,fun _ m=>m,fun _ m=>nomatch m⟩
 | d::ds,T=>by
  obtain ⟨as,h0,ih⟩:=at_all as0 ds fun e m=>T e (.tail _ m)
  obtain ⟨a,o,pm,cd,doc,h1,h2,h3,h4⟩:=T d (.head _)
  obtain ⟨c,oc,vs,t,rfl,r⟩:=h4
  refine ⟨a::c::as,fun b m=>.tail _ (.tail _ (h0 b m)),fun e m=>?_⟩
  rcases Ye.mp m with rfl | m
  ·exact ⟨a,c,o,pm,doc,h1,h2,h3,⟨c,oc,vs,t,rfl,r⟩,.head _,.tail _ (.head _)⟩
  ·obtain ⟨a',c',o',pm',doc',q1,q2,q3,q4,q5,q6⟩:=ih e m
   exact ⟨a',c',o',pm',doc',q1,q2,q3,q4,.tail _ (.tail _ q5),.tail _ (.tail _ q6)⟩
def FnAt (K:Frag)(mg:Str->Option Value)(x:Str)(st:Stmt):Prop:=∃f fd,mg x=some (.ref f)/\Fun K x x st f fd
def four (d:DefRec):Str×Arguments×List Stmt×Scope:=(d.name,d.params,d.body,d.scope)
def fourS (p:Str×Stmt):Str×Arguments×List Stmt×Scope:=(p.1,defArgs p.2,defBody p.2,defScope p.2)
theorem fn_at {mg:Str->Option Value}{h:Heap}{as:List Addr}{ds:List DefRec}{sts:List (Str×Stmt)}(A:∀d∈ds,At mg h as d)(es:ds.map four=sts.map fourS)(i:Nat){x:Str}{st:Stmt}(e:sts[i]? = some (x,st)):FnAt (kf h as) mg x st:=by
 have q:(ds.map four)[i]? = some (fourS (x,st)):=by rw[es,YK,e];rfl
 obtain ⟨d,e',q⟩:=WY.mp ((YK ..).symm.trans q)
 obtain ⟨n,ps,b,sc,p⟩:=d
 obtain ⟨rfl,q⟩:=V0 q
 obtain ⟨q1,q⟩:=V0 q
 obtain ⟨q2,q3⟩:=V0 q
 dsimp only at q1 q2 q3
 subst q1 q2 q3
 obtain ⟨a,c,o,pm,doc,h1,h2,h3,h4,h5,h6⟩:=A _ (Xd e')
 obtain ⟨c',oc,vs,t,e1,g,hd,hv⟩:=h4
 cases e1
 obtain ⟨cl,dd,dt,sl⟩:=o
 cases (show dt=_ from h3)
 have k1:=kf_at h2 h5
 have k2:=kf_at g h6
 refine ⟨a,_,h1,fun_mk (oc:=cl) (od:=dd) (osl:=sl) (kV:=.none) (doc:=doc) (pm:=pm) (an:=none) (ct:=.none) (cdv:=.ref c) k1 ?_ ?_⟩
 ·obtain ⟨ocl,odd,odt,osl⟩:=oc
  cases (show odt=_ from hd)
  unfold codeIn
  dsimp only
  rw[k2]
  obtain ⟨l⟩:=vs
  match l,hv with
  | _::v::r,hv=>
   cases (show v=_ by simpa using hv)
   simp
 ·unfold keepIn
  dsimp only
  rw[k1]
theorem int_of {mg:Str->Option Value}{x:Str}{i:Int}(h:∃v,mg x=some v/\∀h':Heap,Reads h' v (.int i) []):∃t,mg x=some (.int i t):=by
 obtain ⟨v,e,r⟩:=h
 cases r default
 exact ⟨_,e⟩
theorem str_of {mg:Str->Option Value}{x y:Str}(h:∃v,mg x=some v/\∀h':Heap,Reads h' v (.str y) []):∃t,mg x=some (.str y t):=by
 obtain ⟨v,e,r⟩:=h
 cases r default
 exact ⟨_,e⟩
theorem tab_mg {h:Heap}{mg:Str->Option Value}(G:h.Ns Y5 mg){names:List Str}{vals:List (Option (Option Value))}(Y:∃om,h.get? Y5=some om/\names.map (nsIn [(Y5,om)] Y5)=vals)(i:Nat){x:Str}{v:Value}
  (e1:names[i]? = some x) (e2:vals[i]? = some (some (some v))):mg x=some v:=by
 obtain ⟨om,g,e⟩:=Y
 refine mg_of (K:=[(Y5,om)]) (fun a o q=>?_) G ?_
 ·rw[Yj] at q
  by_cases z:a=Y5
  ·subst z;rw[beq_self_eq_true] at q;cases q;exact g
  ·rw[beq_eq_false_iff_ne.mpr z] at q;cases q
 ·rw[←e,YK,e1] at e2
  simpa using e2
theorem tab_at {h:Heap}{tas:List Addr}{tos:List Obj}(e:tas.map h.get? = tos.map some)(i:Nat){a:Addr}{o:Obj}(e1:tas[i]? = some a)(e2:tos[i]? = some o):h.get? a=some o:=by
 have q:=congrArg (fun l:List (Option Obj)=>l[i]?) e
 simp only[YK,e1,e2,Vl] at q
 exact Yz q
def defPos (s:Stmt):Pos:=match s with
 | .FunctionDef _ _ _ _ _ _ _ _ _ p=>p
 | _=>⟨0,0,0,0⟩
def isHere (p:Yo)(loose:List Str)(x:Str):Bool:=startupNames.contains x||loose.contains x||((recsOf p).map (·.name)).contains x||((litsOf p).map (·.1)).contains x||((clssOf p loose).map (·.name)).contains x
theorem nones {p:Yo}{loose:List Str}{mean:ExcName->Option Value}{mg mb:Str->Option Value}{h:Heap}(T:Top p loose mean mg mb h){xs:List Str}(e:xs.all (fun x=>!isHere p loose x)=true)(i:Nat){x:Str}(hx:xs[i]? = some x):mg x=none:=by
 have q:=YG.mp e x (Xd hx)
 unfold isHere at q
 simp only[Bool.not_or,Yp,Bool.not_eq_true',List.contains_eq_mem,decide_eq_false_iff_not] at q
 exact T.free x q.1.1.1.1 q.1.1.1.2 q.1.1.2 q.1.2 q.2
def spLaw (K:Frag):Sp:=fun vs H Q _=>∃(a:Addr) (ns:List Int),vs=[.ref a]/\SqL K H a (ns.map V.int)/\ns.length<=63/\∀H',Q (.bl true) H'
theorem reps_ints {K:Frag}{ι:List Addr}{H:Hp}:∀ns:List Int,Reps K ι H (ns.map PV.int) (ns.map V.int)
 | []=>by unfold Reps;rfl
 | n::ns=>by
  rw[Yr,Yr];unfold Reps
  exact ⟨_,_,rfl,by unfold Rep;rfl,reps_ints ns⟩
theorem spLaw_lift {K:Frag}{F:List SV->M SV}(hF:∀ns:List Int,ns.length<=63->F [.v (.lst (ns.map .int))] []=some (.v (.bl true),[]))(vs:List V)(H:Hp)(Q:VK)(E:XK)(h:spLaw K vs H Q E):liftSp K F vs H Q E:=by
 obtain ⟨a,ns,rfl,hS,hl,hQ⟩:=h
 refine ⟨[],[.v (.lst (ns.map .int))],[],.v (.bl true),[],⟨rfl,List.nodup_nil,fun k a c e=>by cases e⟩,?_,hF ns hl,fun v H' _ _ r=>?_⟩
 ·unfold RepSs
  refine ⟨_,_,rfl,?_,by unfold RepSs;rfl⟩
  unfold RepS Rep
  refine ⟨a,_,rfl,?_,reps_ints ns⟩
  rcases hS with h | h
  ·exact .inl ⟨Yt,h⟩
  ·exact .inr h
 ·have e:v=.bl true:=by unfold RepS Rep at r;exact r
  subst e;exact hQ H'
theorem walk {l:OpenLaw}{k:Nat}{q:Yo}{loose:List Str}{XP:(Str->Option Value)->Heap->Prop}{YP:World->Heap->Prop}{d:DefRec}(hn:l.most=some 63)(hdf:d.params.defaults=[])(hr:Room k V9)(as0:List Addr)
  (F:∀(w:World) (s₀:Shared) (mg mb:Str->Option Value) (h:Heap) (as:List Addr),Ground q loose [] XP w s₀ mg mb h->YP w h->(∀a∈as0,a∈as)->(∀d∈recsOf q,At mg h as d)->∀fa:Addr,mg d.name=some (.ref fa)->
   ∃fd:Ym,(∀(s:Shared) (u:Value),BindsTo s fd ⟨[u],[]⟩ [("_law_script",u)])/\∀base:Heap,FnOk l.prog w (kf h as) mg base CX0 k fa fd ["_law_script"] (spLaw (kf h as))):
  WalkO q loose XP YP l.row.toRowW d [] (fun f vs=>PySem.call f vs):=by
 refine Att.attach_call hn hdf fun w s₀ s₁ mg mb fa o pm cd doc a vs ns G Y ho hd hcd hmg hobj hints hlen hg=>?_
 obtain ⟨as,h0,A⟩:=at_all as0 (recsOf q) G.T.fn
 obtain ⟨fd,hb,hF⟩:=F w s₀ mg mb _ as G Y h0 A fa hmg
 exact law_call (kf_in s₁.heap as) G.T.g G.T.b G.T.builtins G.T.nolimit hg hobj hints (YB hlen (by decide)) hr (fun base _ _=>hF base) hb (fun H hO hS=>⟨a,ns,rfl,hS,hlen,fun _=>rfl⟩) fun H e s' z=>z
end Hd
namespace L2
open PySem PySem.Spec PyProof.Rows
abbrev GT:=TI×TG×TT
end L2
namespace Pu
open PySem PySem.Spec PySem.W PySem.Calls L2
open PyProof.Rows hiding St Fr strKind
open PySem.Builtin.Str (partsBetween occurrences strKind)
def mNo:PSt->M PF:=fun _ _=>none
def numS (i:Int):Str:=X1 (toString i)
theorem num_fits {i:Int}(h:i.natAbs.log2 < 1920):(numS i).length<=sizeLine:=int_text_fits h
section
variable {X:Cx}{e:Expr}{es:List Expr}{f:PSt->M SV}{fs:PSt->M (List SV)}{p pos:Pos}
def strH:List PV->Option PV
 | [.int i]=>if i.natAbs.log2 < 1920 then some (.str (numS i)) else none
 | [.str y]=>some (.str y)
 | _=>none
theorem call_strR:CallR X (.type "str") (fun xs H Q=>(∃i:Int,xs=[.int i]/\i.natAbs.log2 < 1920/\Q (.str (numS i)) H)\/∃y,xs=[.str y]/\Q (.str y) H):=by
 intro pins s σ H xs us Q I r h
 rcases h with ⟨i,rfl,hi,q⟩ | ⟨y,rfl,q⟩
 ·obtain ⟨u,rfl,t,rfl⟩:=Vals.one r
  exact P.str_of_int hi ⟨.str _,H,I.tok _,⟨_,rfl⟩,q⟩
 ·obtain ⟨u,rfl,t,rfl⟩:=Vals.one r
  exact P.str_of_str ⟨.str _,H,I,⟨_,rfl⟩,q⟩
theorem strc_ok:L1ok X.K (fun xs H Q=>(∃i:Int,xs=[.int i]/\i.natAbs.log2 < 1920/\Q (.str (numS i)) H)\/∃y,xs=[.str y]/\Q (.str y) H) strH:=by
 intro ι H C ps vs z Q cr ls e k
 unfold strH at e
 split at e
 ·split at e
  ·rename_i i hi
   cases e
   cases ls with
   | cons l t=>cases t;cases l;exact .inl ⟨_,rfl,hi,k _ H .refl cr (repS (num_fits hi))⟩
  ·cases e
 ·cases e
  cases ls with
  | cons l t=>cases t;cases l;exact .inr ⟨_,rfl,k _ H .refl cr (repS (by assumption))⟩
 ·cases e
def intTH:List PV->Option PV
 | [.str x]=>if x.length<=640 then (W9 x).map .int else none
 | _=>none
theorem call_intR:CallR X (.type "int") (fun xs H Q=>∃x n,xs=[.str x]/\W9 x=some n/\x.length<=640/\Q (.int n) H):=by
 intro pins s σ H xs us Q I r h
 obtain ⟨x,n,rfl,hn,hl,q⟩:=h
 obtain ⟨u,rfl,t,rfl⟩:=Vals.one r
 exact KIN.call_text hn hl ⟨.int _,H,I.tok _,⟨_,rfl⟩,q⟩
theorem intT_ok:L1ok X.K (fun xs H Q=>∃x n,xs=[.str x]/\W9 x=some n/\x.length<=640/\Q (.int n) H) intTH:=by
 intro ι H C ps vs z Q cr ls e k
 unfold intTH at e
 split at e
 ·split at e
  ·rename_i x hx
   cases hn:W9 x with
   | none=>rw[hn] at e;cases e
   | some n=>
    rw[hn] at e;cases e
    cases ls with
    | cons l t=>cases t;cases l;exact ⟨_,_,rfl,hn,hx,k _ H .refl cr repI⟩
  ·cases e
 ·cases e
theorem split_at {prog:Yo}{w:World}{A:Around}{E:Value->Shared->Prop}{s:Shared}{x y:Str}{t u:Tok}{Q:Value->Shared->Prop}(hy:(y.length==0)=false)
  (h:∀l k,l.map (·.1)=Txt.split x y->Q (.ref s.heap.objs.size) { s with heap:=s.heap.push { cls:=.type "list",data:=.seq (strValues l).toArray },toks:=k })
  (hsz:x.length + 2<=Yn):wpAny (model prog w) A (call (.builtin "str.split") [.str x t,.str y u]) Q E s:=by
 have go:∀{S:YI},Meets (VC.«str.split» ⟨[.str x t,.str y u],[]⟩) S->S A (wants Q E) s->wpAny (model prog w) A (call (.builtin "str.split") [.str x t,.str y u]) Q E s:=call_meets F.slot_str_split (typeIs_str _ _ _) F.entry_str_split (F.args_str_split_2 _ _)
 have itself:Txt.split x y=[x]->listOfItself x t A (wants Q E) s:=fun z=>h [(x,t)] s.toks z.symm
 by_cases far:(decide (x.length < y.length)||decide (strKind x < strKind y))=true
 ·exact go (meets_str_split_cannot_occur x y t u far) (itself (if_pos far))
 have near:(decide (x.length < y.length)||decide (strKind x < strKind y))=false:=Bool.eq_false_iff.mpr far
 by_cases no:(occurrences x y 0 x.length (x.length + 1)).isEmpty=true
 ·exact go (meets_str_split_not_found x y t u near hy no) (itself ((if_neg far).trans (if_pos no)))
 have parts:Txt.split x y=partsBetween x (occurrences x y 0 x.length (x.length + 1)) y.length:=(if_neg far).trans (if_neg no)
 have few:(partsBetween x (occurrences x y 0 x.length (x.length + 1)) y.length).length<=sizeLine:=by
  rw[length_partsBetween]
  exact YB (Nat.add_le_add_right (StrLaws.occ_length_le x y 0 x.length (x.length + 1)) 1) (by lia)
 refine go (meets_str_split_sep x y t u near hy (Bool.eq_false_iff.mpr no) (by lia) few) ?_
 have z:=h (numbered s.toks (partsBetween x (occurrences x y 0 x.length (x.length + 1)) y.length)) (s.toks + (partsBetween x (occurrences x y 0 x.length (x.length + 1)) y.length).length) ((numbered_texts _ _).trans parts.symm)
 rw[←strsFrom_eq] at z
 exact z
theorem vals_strs:∀l:List (Str×Tok),Vals ((l.map (·.1)).map V.str) (strValues l)
 | []=>.nil
 | p::r=>.cons ⟨_,rfl⟩ (vals_strs r)
theorem reps_strs {K:W.Frag}{ι:List Addr}{H:Hp}:∀l:List Str,(∀a∈l,a.length<=Yn)->Reps K ι H (l.map PV.str) (l.map V.str)
 | [],_=>by unfold Reps;rfl
 | a::r,h=>by unfold Reps;exact ⟨_,_,rfl,repS (h a (.head _)),reps_strs r fun b hb=>h b (.tail _ hb)⟩
theorem split_few (x y:Str):(Txt.split x y).length<=x.length + 2:=by
 unfold Txt.split
 split
 ·simp
 ·split
  ·simp
  ·rw[length_partsBetween]
   have:=StrLaws.occ_length_le x y 0 x.length (x.length + 1)
   lia
def rSplit:V->List V->Hp->VK->Prop:=fun x xs H Q=>∃z y:Str,x=.str z/\xs=[.str y]/\(y.length==0)=false/\z.length<=100000/\∀p,H p=none->Q (.ref p) (upd H p (.lst ((Txt.split z y).map V.str)))
theorem mt_split:MtR X "str.split" rSplit:=by
 intro pins s σ H x xs v us Q I rx r h
 obtain ⟨z,y,rfl,rfl,hy,hz,q⟩:=h
 obtain ⟨t,rfl⟩:=rx
 obtain ⟨u,rfl,t',rfl⟩:=Vals.one r
 refine split_at hy (fun l k hl=>?_) (by rw[YE];lia)
 have e:=vals_strs l
 rw[hl] at e
 refine ⟨.ref _,_,I.laid (t':=k) (o:=.lst ((Txt.split z y).map V.str)) (fun b ob q=>Yb _ q) (Yx _) ⟨?_,_,0,e,Yh _ rfl⟩,rfl,q _ (I.hok.fresh (Yx _))⟩
 have:=split_few z y
 rw[Yu,YE];lia
def splitH:PV->List PV->Option PV
 | .str z,[.str y]=>if 1<=y.length/\z.length<=100000 then some (.lst ((Txt.split z y).map .str)) else none
 | _,_=>none
theorem split_ok:Mtok X.K rSplit splitH:=by
 intro ι H C q v ps vs z Q cr lq ls e k
 unfold splitH at e
 split at e
 ·split at e
  ·rename_i x y hy
   cases e
   cases ls with
   | cons l t=>
    cases t
    obtain ⟨rfl,hz⟩:=liesS lq
    obtain ⟨rfl,hy'⟩:=liesS l
    exact ⟨_,_,rfl,rfl,by have:=hy.1;simp;lia,hy.2,fun p hp=>k _ _ (.new hp) (cr.new hp) (Zcj cr hp (reps_strs _ fun a ha=>YB (part_short ha) hz))⟩
  ·cases e
 ·cases e
variable {o:Expr}{fo:PSt->M SV}{apos cpos:Pos}
def fmtH (C:Cs)(x:SV):Option SV:=match deref C x with
 | some (.int i)=>if i.natAbs.log2 < 1920 then some (.v (.str (numS i))) else none
 | some (.str y)=>some (.v (.str y))
 | _=>none
def mFmt (f:PSt->M SV):PSt->M SV:=fun ρ=>bnd (f ρ) fun x=>opM fun C=>fmtH C x
def catS:Str->List SV->Option Str
 | out,[]=>some out
 | out,.v (.str y)::r=>if (out++y).length<=1000000 then catS (out++y) r else none
 | _,_=>none
def mJoined (fs:PSt->M (List SV)):PSt->M SV:=fun ρ=>bnd (fs ρ) fun xs=>opM fun _=>(catS YW xs).map fun z=>.v (.str z)
def JM (X:Cx)(es:List Expr)(fs:PSt->M (List SV)):Prop:=∀(pins:List (Addr×Obj)) (s:Shared) (σ:St) (H:Hp) (Q:VK) (out:Str),L2.Inv X pins σ H s->
 (∃ι ρ C xs C' z,SR X.K ι H ρ σ C/\fs ρ C=some (xs,C')/\catS out xs=some z/\out.length<=1000000/\∀H',Pu.Fr ι H H'->CR X.K ι H' C'->Rep X.K ι H' (.str z) (.str z)->Q (.str z) H')->
 wpAny (model X.prog X.w) X.A (joinParts out (evalEach es X.env)) (EP X pins σ Q) X.xe s
def mulTP (x y:PV):Option PV:=match x,y with
 | .str z,.int n=>if z.length<=1000/\n < 1000/\-1000 < n then some (.str (Txt.mul z n)) else none
 | _,_=>none
theorem mulT_list (z:Str)(n:Int):(Txt.mul z n).cps.toList=(YO n.toNat z.cps.toList).flatten:=by
 unfold Txt.mul
 by_cases h:n < 1
 ·rw[if_pos h,show n.toNat=0 by lia];rfl
 ·rw[if_neg h]
  split
  ·rename_i h1
   rcases (Vo _ _).mp h1 with h1 | h1
   ·have:n=1:=by simpa using h1
    subst this;simp
   ·have h2:z.cps.toList=[]:=by
     have:z.cps.size=0:=by have:=of_decide_eq_true h1;exact this
     simpa[←Yy] using this
    simp[h2]
  ·show ((YO n.toNat z.cps).foldl (·++·) #[]).toList=_
   rw[Zc5];simp
theorem mulT_len (z:Str)(n:Int):(Txt.mul z n).length=n.toNat * z.length:=by
 show (Txt.mul z n).cps.size=_
 rw[←Yy,mulT_list]
 simp[List.length_flatten]
 rfl
def rMulT:R2:=fun x y H Q=>∃z n,x=.str z/\y=.int n/\z.length<=1000/\n < 1000/\-1000 < n/\Q (.str (Txt.mul z n)) H
theorem op_mulT:OpR X (X6 .Mult) rMulT:=by
 intro pins s σ H x y v u Q I rx ry h
 obtain ⟨z,n,rfl,rfl,hz,h1,h2,q⟩:=h
 obtain ⟨t,rfl⟩:=(show ∃t,v=.str z t from rx)
 obtain ⟨t',rfl⟩:=(show ∃t,u=.int n t from ry)
 refine SB.mul ⟨?_,fun g _=>?_,fun g _=>?_⟩ fun t2 k=>⟨.str (Txt.mul z n),H,I.tok _,⟨_,rfl⟩,q⟩
 ·simp;lia
 ·have:(1000:Int)<=(2 ^ 63 - 1) / n:=by
   rw[Int.le_ediv_iff_mul_le (by lia)];lia
  lia
 ·have:z.length * n.toNat<=1000 * 1000:=Nat.mul_le_mul hz (by lia)
  exact decide_eq_false (Nat.not_lt.mpr (YB this (by rw[YE];lia)))
theorem mulT_ok:L2ok X.K rMulT mulTP:=by
 intro ι H C p q vx vy z Q cr lx ly e k
 unfold mulTP at e
 split at e
 ·split at e
  ·rename_i s n hc
   cases e
   obtain ⟨rfl,hs⟩:=liesS lx
   cases ly
   refine ⟨_,_,rfl,rfl,hc.1,hc.2.1,hc.2.2,k _ H .refl cr ?_⟩
   unfold Rep
   refine ⟨rfl,?_⟩
   have:n.toNat * s.length<=1000 * 1000:=Nat.mul_le_mul (by lia) hc.1
   rw[mulT_len,YE];lia
  ·cases e
 ·cases e
def rSlS:V->Option Int->Option Int->Hp->VK->Prop:=fun x lo hi H Q=>∃z:Str,x=.str z/\z.length<=Yn/\Q (.str (Txt.slice z lo hi)) H
theorem sl_str:SlR X rSlS:=by
 intro pins s σ H x v vl vu lo hi sl Q I rx hs pl pu h
 obtain ⟨z,rfl,hz,q⟩:=h
 obtain ⟨t,rfl⟩:=(show ∃t,v=.str z t from rx)
 refine ⟨"str",_,PySem.F.slot_str_getitem.lookup,typeIs_str _ _ _,?_⟩
 have k:∀(l u:Option (Int×Tok)),vl=partValue l->vu=partValue u->l.map (·.1)=lo->u.map (·.1)=hi->wpAny (model X.prog X.w) X.A (VS (.str z t) (.ref sl)) (EP X pins σ Q) X.xe s:=by
  rintro l u rfl rfl rfl rfl
  exact wpAny_getItem_str_slice (l:=l) (u:=u) (st:=none) hs rfl (post_val_or_str ⟨YB (Txt.slice_le z _ _) hz,fun t' k=>⟨.str _,H,I.tok _,⟨_,rfl⟩,q⟩⟩)
 cases pl<;>cases pu
 ·exact k none none rfl rfl rfl rfl
 ·exact k none (some (_,_)) rfl rfl rfl rfl
 ·exact k (some (_,_)) none rfl rfl rfl rfl
 ·exact k (some (_,_)) (some (_,_)) rfl rfl rfl rfl
def sliceSD (C:Cs)(x:SV)(lo hi:Option Int):Option SV:=match deref C x with
 | some (.str z)=>some (.v (.str (Txt.slice z lo hi)))
 | _=>none
def mSliceS (f:PSt->M SV)(l h:PSt->M (Option Int)):PSt->M SV:=fun ρ=>bnd (f ρ) fun x=>bnd (l ρ) fun lo=>bnd (h ρ) fun hi=>opM fun C=>sliceSD C x lo hi
abbrev fdivWP:=intP (fun _ j=>decide (0 < j/\j < 2 ^ 200)) fun i j=>.int (i / j)
theorem op_fdivW:OpR X (X6 .FloorDiv) (rI (fun _ j=>0 < j/\j < 2 ^ 200) fun i j=>.int (i / j)):=opI fun i j _ _ _ _ _ hc q=>by
 have h1:(0:Int) < j:=hc.1
 have h2:j < 2 ^ 200:=hc.2
 refine floordiv_int (by lia) (by rw[Int.fdiv_eq_ediv_of_nonneg i (by lia)];exact q) (.inl (PyProof.noPylong_of_log2 ?_))
 have:j.natAbs < 2 ^ 200:=by lia
 have h0:j.natAbs≠0:=by lia
 exact Nat.lt_trans ((Nat.log2_lt h0).mpr this) (by decide)
end
end Pu
namespace Pu
open PySem PySem.Spec PySem.W PySem.Calls L2
open PyProof.Rows hiding St Fr
section
variable {X:Cx}{e o:Expr}{es:List Expr}{f fo fa:PSt->M SV}{fs:PSt->M (List SV)}{p pos apos cpos:Pos}
def endsH:PV->List PV->Option PV
 | .str z,[.str y]=>some (.bl (Txt.endswith z y))
 | _,_=>none
theorem mt_ends:MtR X "str.endswith" (fun x xs H Q=>∃(z y:Str),x=.str z/\xs=[.str y]/\Q (.bl (Txt.endswith z y)) H):=by
 intro pins s σ H x xs v us Q I rx rs h
 obtain ⟨z,y,rfl,rfl,q⟩:=h
 obtain ⟨t,rfl⟩:=rx
 obtain ⟨u,rfl,t2,rfl⟩:=Vals.one rs
 exact SC.endswith ⟨.bl _,H,I,rfl,q⟩
theorem ends_ok:Mtok X.K (fun x xs H Q=>∃(z y:Str),x=.str z/\xs=[.str y]/\Q (.bl (Txt.endswith z y)) H) endsH:=by
 intro ι H C q v ps vs z Q cr lq ls e k
 unfold endsH at e
 split at e
 ·cases e
  cases ls with
  | cons l t=>
   cases t
   obtain ⟨rfl,hz⟩:=liesS lq
   obtain ⟨rfl,hy⟩:=liesS l
   exact ⟨_,_,rfl,rfl,k _ H .refl cr repBl⟩
 ·cases e
def augS (C:Cs)(x y:SV):Option SV:=match x,deref C y with
 | .v (.str a),some (.str b)=>if a.length + b.length<=1000000 then some (.v (.str (a++b))) else none
 | _,_=>none
def mAugS (i:Nat)(f:PSt->M SV):PSt->M PF:=fun ρ=>bnd (mVar i ρ) fun x=>bnd (f ρ) fun y=>bnd (opM fun C=>augS C x y) fun z=>ret (.nx (ρ.set i (some z)))
def rIns:V->List V->Hp->VK->Prop:=fun x vs H Q=>∃l xs n y,x=.ref l/\vs=[.int n,y]/\H l=some (.lst xs)/\0<=n/\n<=xs.length/\xs.length < 1000000/\Q .non (upd H l (.lst (xs.take n.toNat++y::xs.drop n.toNat)))
theorem mt_ins:MtM X "list.insert" rIns:=by
 intro pins s σ H x vs v us Q I rx rv h
 obtain ⟨l,xs,n,y,rfl,rfl,hH,h0,h1,hz,q⟩:=h
 cases rx
 cases rv with
 | cons ra rr=>
  cases rr with
  | cons rb rn=>
   cases rn
   obtain ⟨t,rfl⟩:=ra
   obtain ⟨z,its,m,r,hl,e⟩:=I.lstM hH
   refine call_meets PySem.F.slot_list_insert ⟨_,e,rfl⟩ PySem.F.entry_list_insert (PySem.F.args_list_insert_3 _ _ _) (PySem.AutoListH.list_insert_list_int_val_1 l its.toArray m n t _ ?_ (by rw[Yl];lia)) ⟨e,?_⟩
   ·unfold Builtin.List.listFitsIndex
    simp
    lia
   ·refine ⟨.non,_,I.lset (its':=its.take n.toNat++_::its.drop n.toNat) hH e ?_ ((r.take _).append (.cons rb (r.drop _))) ?_,rfl,q⟩
    ·have hk:min n.toNat its.length=n.toNat:=by lia
     simp only[if_neg (show ¬n < 0 by lia),Yl,hk]
     apply VL.mp
     simp
     exact Wo (by simp)
    ·rw[YE];simp;lia
def insC (x:SV)(ys:List SV):M SV:=fun C=>match x,ys with
 | .c k,[.v (.int n),.v p]=>match C[k]? with
  | some (.lst ps)=>if 0<=n/\n<=ps.length/\ps.length < 100000 then some (.v .non,C.set k (.lst (ps.take n.toNat++p::ps.drop n.toNat))) else none
  | _=>none
 | _,_=>none
theorem insC_some {x:SV}{ys:List SV}{C C2:Cs}{r:SV}(h:insC x ys C=some (r,C2)):∃k n p ps,x=.c k/\ys=[.v (.int n),.v p]/\C[k]? = some (.lst ps)/\(0<=n/\n<=ps.length/\ps.length < 100000)/\r=.v .non/\C2=C.set k (.lst (ps.take n.toNat++p::ps.drop n.toNat)):=by
 unfold insC at h
 split at h
 ·split at h
  ·split at h
   ·cases h
    exact ⟨_,_,_,_,rfl,rfl,by assumption,by assumption,rfl,rfl⟩
   ·cases h
  ·cases h
 ·cases h
def mIns (fo:PSt->M SV)(fs:PSt->M (List SV)):PSt->M SV:=fun ρ=>bnd (fo ρ) fun x=>bnd (isLst x) fun _=>bnd (fs ρ) fun ys=>insC x ys
def sliceAD (C:Cs)(x:SV)(lo hi:Option Int):Option SV:=match deref C x with
 | some (.str z)=>some (.v (.str (Txt.slice z lo hi)))
 | some p=>(sliceP lo hi p).map .v
 | none=>none
def mSliceA (f:PSt->M SV)(l h:PSt->M (Option Int)):PSt->M SV:=fun ρ=>bnd (f ρ) fun x=>bnd (l ρ) fun lo=>bnd (h ρ) fun hi=>opM fun C=>sliceAD C x lo hi
def catL2 (C:Cs)(x y:SV):Option (List PV):=match deref C x,deref C y with
 | some (.lst a),some (.lst b)=>if a.length + b.length<=100000 then some (a++b) else none
 | _,_=>none
def mCatL (fa fb:PSt->M SV):PSt->M (List PV):=fun ρ=>bnd (fa ρ) fun x=>bnd (fb ρ) fun y=>opM fun C=>catL2 C x y
end
end Pu
namespace Pu
open PySem PySem.Spec L2
open PyProof.Rows hiding St Fr
def TupT (K:W.Frag)(TT:List (Addr×List Str)):Prop:=∀a xs,TT.lookup a=some xs->∃(o:Obj) (its:Array Value) (n:Nat),K.lookup a=some o/\o.cls=.type "tuple"/\o.data=.seq its n/\its.size<=Yn/\Vals (xs.map V.str) its.toList/\∀x∈xs,x.length<=Yn
theorem TupT.sq {K:W.Frag}{TT:List (Addr×List Str)}(h:TupT K TT){a:Addr}{xs:List Str}(e:TT.lookup a=some xs)(H:Hp):SqT K H a (xs.map V.str):=by
 obtain ⟨o,its,n,h1,h2,h3,h4,h5,_⟩:=h a xs e
 exact .inr ⟨o,its,n,h1,h2,h3,h4,h5⟩
section
variable {X:Cx}{e:Expr}{es:List Expr}{fs:PSt->M (List SV)}{p pos:Pos}{TT:List (Addr×List Str)}
def lenTH (TT:List (Addr×List Str)):List PV->Option PV
 | [.fn a]=>(TT.lookup a).map fun xs=>.int xs.length
 | _=>none
theorem lenT_ok (hT:TupT X.K TT):L1ok X.K (fun xs H Q=>∃x n,xs=[x]/\LenV X.K x H n/\Q (.int n) H) (lenTH TT):=by
 intro ι H C ps vs z Q cr ls e k
 unfold lenTH at e
 split at e
 ·rename_i a
  cases hx:TT.lookup a with
  | none=>rw[hx] at e;cases e
  | some xs=>
   rw[hx] at e;cases e
   cases ls with
   | cons l t=>cases t;cases l;exact ⟨_,_,rfl,.inr ⟨_,hT.sq hx H,by simp⟩,k _ H .refl cr repI⟩
 ·cases e
end
def itemsT (TT:List (Addr×List Str)):SV->Option (List PV)
 | .v (.fn a)=>(TT.lookup a).map fun xs=>xs.map .str
 | _=>none
theorem src_T {X:Cx}{pins:List (Addr×Obj)}{σ:St}{H:Hp}{s:Shared}{TT:List (Addr×List Str)}(hT:TupT X.K TT){ι:List Addr}{x:SV}{ps:List PV}{v:V}{u:Value}(I:L2.Inv X pins σ H s)(r:RepS X.K ι H x v)(e:itemsT TT x=some ps)(ru:L2.RelV v u):∃S:ZS,u=S.val/\S.src s.heap/\ZSrc X.K ι H S ps:=by
 unfold itemsT at e
 split at e
 ·rename_i a
  cases hx:TT.lookup a with
  | none=>rw[hx] at e;cases e
  | some xs=>
   rw[hx] at e;cases e
   have hv:v=.ref a:=by unfold RepS Rep at r;exact r
   subst hv
   obtain ⟨its,_,p,_⟩:=I.tuple (hT.sq hx H)
   obtain ⟨_,_,_,_,_,_,_,_,hl⟩:=hT a xs hx
   refine ⟨.t a,ru,⟨_,p⟩,fun ι2 H2 x=>⟨_,hT.sq hx H2⟩,fun ι2 H2 x i p hp=>?_,fun ι2 H2 x i hi=>⟨_,hT.sq hx H2,by simpa using hi⟩⟩
   rw[YK] at hp
   cases hi:xs[i]? with
   | none=>rw[hi] at hp;cases hp
   | some y=>
    rw[hi] at hp;cases hp
    exact ⟨.str y,⟨_,hT.sq hx H2,by rw[YK,hi];rfl⟩,repS (hl y (Xd hi))⟩
 ·cases e
def zipTP (TT:List (Addr×List Str)):List SV->Option (List PV)
 | [x,y]=>match itemsT TT x,itemsP y with
  | some ps,some qs=>some (Xo (fun a b=>.tup [a,b]) ps qs)
  | _,_=>none
 | _=>none
theorem zipTP_some {TT:List (Addr×List Str)}{xs:List SV}{ys:List PV}(h:zipTP TT xs=some ys):∃x y ps qs,xs=[x,y]/\itemsT TT x=some ps/\itemsP y=some qs/\ys=Xo (fun a b=>.tup [a,b]) ps qs:=by
 unfold zipTP at h
 split at h
 ·split at h
  ·cases h;exact ⟨_,_,_,_,rfl,by assumption,by assumption,rfl⟩
  ·cases h
 ·cases h
def mZipT (TT:List (Addr×List Str))(fs:PSt->M (List SV)):PSt->M (List PV):=fun ρ=>bnd (fs ρ) fun xs=>opM fun _=>zipTP TT xs
end Pu
namespace Pu
open PySem PySem.Spec PySem.Calls L2
open PyProof.Rows hiding St Fr
section
variable {prog:Yo}{w:World}{A:Around}{E:Value->Shared->Prop}{s:Shared}
theorem draw_rest {it t:Addr}{items:Array Value}(hne:t≠it):∀(l:List Value) (i:Nat) (s:Shared) (Q:List Value->Shared->Prop),items.toList.drop i=l->s.heap.IsListIter it t i->s.heap.IsList t items->
  (∀h',h'.IsListIter it t (i + l.length)->Wr it s.heap h'->Q l { s with heap:=h' })->wpAny (model prog w) A (draw (.ref it) l.length) Q E s
 | [],i,s,Q,_,a,_,q=>Yk (q s.heap a (Heap.SameBut.refl ..))
 | x::r,i,s,Q,e,a,b,q=>by
  have one:items[i]? = some x:=by
   have:=congrArg List.head? e
   rw[List.head?_drop] at this
   simpa using this
  have two:items.toList.drop (i + 1)=r:=by
   rw[←List.tail_drop,e];rfl
  apply Yc (m:=pyNext (.ref it))
  refine wpAny_pyNext_list_item a b one fun h1 a1 b1=>?_
  apply Yc
  apply Y6
  refine draw_rest hne r (i + 1) _ _ two a1 (b.extBut b1.extBut hne) fun h2 a2 b2=>Yk (q h2 ?_ (b1.trans b2))
  rw[Ys,Nat.add_comm r.length,←Nat.add_assoc]
  exact a2
theorem Zcu {t:Addr}{items:Array Value}{Q:List Value->Shared->Prop}(hh:A.handled=none)(ht:s.heap.IsList t items)
  (hQ:∀h',W5 s.heap.objs.size s.heap h'->Q items.toList { s with heap:=h' }):wpAny (model prog w) A (unpackItems (.ref t) items.size none) Q E s:=by
 have new:t≠s.heap.objs.size:=fun z=>by
  obtain ⟨o,ho,_⟩:=ht
  exact Xs _ (z ▸ Yq ho)
 have iter:∀{P:Bool->Shared->Prop} {B:Value->Shared->Prop},P false s->wpAny (model prog w) A (notIterableAtAll (.ref t)) P B s:=fun z=>by
  delta notIterableAtAll
  apply Yc
  exact wpAny_specialOf ht.typeIs slot_list_iter.lookup (Yk z)
 have len:items.toList.length=items.size:=by simp
 delta unpackItems
 apply Yc
 apply iter
 apply Yc
 apply Y6
 refine W4 ht ?_
 apply Yc
 apply Y6
 have all:=draw_rest (prog:=prog) (w:=w) (A:=A) (E:=E) (it:=s.heap.objs.size) (items:=items) new items.toList 0
 rw[len] at all
 refine all _ _ (by simp) ⟨_,Yh _ rfl,rfl,rfl⟩ (ht.push _) fun h1 a1 b1=>?_
 have still:h1.IsList t items:=(ht.push _).extBut b1.extBut new
 have whole:¬items.toList.length < items.size:=by lia
 simp only[whole,if_false]
 apply Yc
 apply Y6
 refine wpAny_pyNext_list_end hh a1 still (by simp) fun h2 b2=>?_
 exact Yk (hQ h2 fun b o z y=>b2 b o z (b1.extBut b o z (Yb _ y)))
theorem Zcm {env:Env}{elts:List Expr}{x1}{pos:Pos}{t:Addr}{items:Array Value}{Q:Unit->Shared->Prop}(hh:A.handled=none)(ht:s.heap.IsList t items)
  (hn:(Xg elts env).length=items.size) (hstar:(Xg elts env).findIdx? (·.1)=none)
  (h:∀h',W5 s.heap.objs.size s.heap h'->wpAny (model prog w) A (assignInOrder ((Xg elts env).map (·.2)) items.toList) Q E { s with heap:=h' }):
  wpAny (model prog w) A (assign (.Tuple elts x1 pos) env (.ref t)) Q E s:=by
 have spread:∀{P:List Value->Shared->Prop},(∀h',W5 s.heap.objs.size s.heap h'->P items.toList { s with heap:=h' })->wpAny (model prog w) A (unpackItems (.ref t) items.size none) P E s:=fun q=>Zcu hh ht q
 rw[assign_Tuple]
 apply Yc
 apply wpAny_standAt
 delta unpack
 rw[hstar,hn]
 apply Yc
 apply Y6
 exact spread h
end
section
variable {X:Cx}{es:List Expr}{pos:Pos}
def gLst (K:W.Frag)(n:Nat)(t:TGs):TG:=fun v σ H Q=>∃a xs,v=.ref a/\SqL K H a xs/\xs.length=n/\t xs σ H Q
theorem pg_lst {k:Nat}{t:TGs}{n:Nat}(hc:X.calm=true)(h:PGs X es t)
  (hn:(Xg es X.env).length=n:=by rfl) (hst:(Xg es X.env).findIdx? (·.1)=none:=by rfl):PG X (.Tuple es k pos) (gLst X.K n t):=by
 intro pins s σ H v u Q I r hw
 obtain ⟨a,xs,e1,hq,hl,hw⟩:=hw
 subst e1
 cases r
 obtain ⟨its,rv,ht,hz⟩:=I.list hq
 refine Zcm (I.ok.hd hc) ht.isList (by simp[hn,←hl,rv.length]) hst fun h' hx=>?_
 have I1:L2.Inv X pins σ H { s with heap:=h' }:=I.kept (t':=s.toks) fun b o e=>hx b o (YH (Yq e)) e
 exact h pins _ σ H xs _ Q I1 (by simpa using rv) hw
def hLst (gs:List PV->PSt->Option PSt)(n:Nat):PV->PSt->Option PSt
 | .lst ps,ρ=>if ps.length=n then gs ps ρ else none
 | _,_=>none
end
end Pu
namespace Pu
open PySem PySem.Spec PySem.W PySem.Calls L2
open PyProof.Rows hiding St Fr
abbrev MG:=(PSt->M (List PV))×(PV->PSt->Option PSt)×(PSt->M Bool)
end Pu
namespace Pu
open PySem PySem.Spec L2
open PyProof.Rows hiding St Fr
@[irreducible] def QEM (X:Cx) (e:Expr) (f:PSt->M SV):Prop:=EM X e f
theorem QEM_eq:@QEM=@EM:=by unfold QEM;rfl
@[irreducible] def QAM (X:Cx) (es:List Expr) (f:PSt->M (List SV)):Prop:=AM X es f
theorem QAM_eq:@QAM=@AM:=by unfold QAM;rfl
@[irreducible] def QTMt (X:Cx) (e:Expr) (f:PSt->M Bool):Prop:=TMt X e f
theorem QTMt_eq:@QTMt=@TMt:=by unfold QTMt;rfl
@[irreducible] def QWM (X:Cx) (e:Expr) (f:PSt->M Bool):Prop:=WM X e f
theorem QWM_eq:@QWM=@WM:=by unfold QWM;rfl
@[irreducible] def QFM (X:Cx) (e:Expr) (f:PSt->M (List PV)):Prop:=FM X e f
theorem QFM_eq:@QFM=@FM:=by unfold QFM;rfl
@[irreducible] def QSM (X:Cx) (st:Stmt) (f:PSt->M PF):Prop:=SM X st f
theorem QSM_eq:@QSM=@SM:=by unfold QSM;rfl
@[irreducible] def QBM (X:Cx) (sts:List Stmt) (f:PSt->M PF):Prop:=BM X sts f
theorem QBM_eq:@QBM=@BM:=by unfold QBM;rfl
@[irreducible] def QGM (X:Cx) (tg:Expr) (g:PV->PSt->Option PSt):Prop:=GM X tg g
theorem QGM_eq:@QGM=@GM:=by unfold QGM;rfl
@[irreducible] def QGMs (X:Cx) (ts:List Expr) (g:List PV->PSt->Option PSt):Prop:=GMs X ts g
theorem QGMs_eq:@QGMs=@GMs:=by unfold QGMs;rfl
@[irreducible] def QIM (X:Cx) (tg iter:Expr) (f:PSt->M (List PV)):Prop:=IM X tg iter f
theorem QIM_eq:@QIM=@IM:=by unfold QIM;rfl
@[irreducible] def QTsM (X:Cx) (ifs:List Expr) (t:PSt->M Bool):Prop:=TsM X ifs t
theorem QTsM_eq:@QTsM=@TsM:=by unfold QTsM;rfl
@[irreducible] def QOM (X:Cx) (e:Option Expr) (f:PSt->M (Option Int)):Prop:=OM X e f
theorem QOM_eq:@QOM=@OM:=by unfold QOM;rfl
@[irreducible] def QDM (X:Cx) (ks:List (Option Expr)) (es:List Expr) (keys:List Str) (f:PSt->M (List SV)):Prop:=DM X ks es keys f
theorem QDM_eq:@QDM=@DM:=by unfold QDM;rfl
@[irreducible] def QJM (X:Cx) (es:List Expr) (fs:PSt->M (List SV)):Prop:=JM X es fs
theorem QJM_eq:@QJM=@JM:=by unfold QJM;rfl
end Pu
local macro_rules
 | `(tactic| subst_eqs)=>`(tactic| simp only[Pu.QEM_eq,Pu.QAM_eq,Pu.QTMt_eq,Pu.QWM_eq,Pu.QFM_eq,Pu.QSM_eq,Pu.QBM_eq,Pu.QGM_eq,Pu.QGMs_eq,Pu.QIM_eq,Pu.QTsM_eq,Pu.QOM_eq,Pu.QDM_eq,Pu.QJM_eq] at *)
namespace Pu
open PySem PySem.Spec L2
open PyProof.Rows hiding St
theorem Zdk {X:Cx}{e:Expr}{f:PSt->M Bool}(h:QWM X e f):QTMt X e f:=by
 subst_eqs
 exact h _
section
variable {X:Cx}{a b e c:Expr}{es:List Expr}{fa fb fc:PSt->M SV}{pos p:Pos}{x:Str}
theorem Zab (i:Nat){x:Str}{pos:Pos}(hN:X.N[i]? = some x:=by rfl)(hv:Vis X.env.scope x:=by first | exact Or.inl rfl | exact Or.inr (Or.inl rfl) | exact Or.inr (Or.inr rfl))(hd:(x==("__debug__":Str))=false:=by decide)
  (hcd:(x==("__classdict__":Str))=false:=by decide):QEM X (.Name x pos) (mVar i):=by
 subst_eqs;apply @em_var<;>assumption
theorem Zad {i j pos}:QEM X (.Constant (.int i) j pos) (mC (.int i)):=by
 subst_eqs
 exact Zbu pe_int fun ι H=>by unfold Rep;rfl
theorem Zbe {i j pos}:QEM X (.Constant (.bool i) j pos) (mC (.bl i)):=by
 subst_eqs
 exact Zbu pe_bl fun ι H=>by unfold Rep;rfl
theorem Zai {i j pos}(h:i.length<=sizeLine:=by decide +kernel):QEM X (.Constant (.str i) j pos) (mC (.str i)):=by
 subst_eqs
 exact Zbu pe_str fun ι H=>by unfold Rep;exact ⟨rfl,h⟩
theorem ZbI {i:Int}(hg:Gl X x)(hm:∃t,X.mg x=some (.int i t))(hd:(x==("__debug__":Str))=false:=by decide):QEM X (.Name x pos) (mC (.int i)):=by
 subst_eqs
 obtain ⟨t,hm⟩:=hm
 exact Zbu (pe_glob (v:=.int i) hg hm ⟨_,rfl⟩ hd) fun ι H=>by unfold Rep;rfl
theorem Zch {i:Str}(hg:Gl X x)(hm:∃t,X.mg x=some (.str i t))(h:i.length<=sizeLine:=by decide +kernel)(hd:(x==("__debug__":Str))=false:=by decide):QEM X (.Name x pos) (mC (.str i)):=by
 subst_eqs
 obtain ⟨t,hm⟩:=hm
 exact Zbu (pe_glob (v:=.str i) hg hm ⟨_,rfl⟩ hd) fun ι H=>by unfold Rep;exact ⟨rfl,h⟩
theorem Za5 {n:String}(hg:Gl X x)(hm:X.mg x=none)(hv:YX x=some (.type n))(hn:x≠"__name__":=by decide)(hd:(x==("__debug__":Str))=false:=by decide):QEM X (.Name x pos) (mC (.ty n)):=by
 subst_eqs
 exact Zbu (pe_bltn (v:=.ty n) hg hm hv rfl hn hd) fun ι H=>by unfold Rep;rfl
theorem Zaq {op:CmpOp}{r:R2}{g:Cs->SV->SV->Option SV}(ho:OpR X (YZ op) r)(hg:R2ok X.K r g)(ha:QEM X a fa)(hb:QEM X b fb)(hm:WK op b=false):QEM X (.Compare a [op] [b] pos) (mOp g fa fb):=by
 subst_eqs
 exact PE.imp (pe_cmpR ho ha hb hm) fun _ _ _ h=>tM_op hg h
theorem q_em_chain {op op':CmpOp}{r r':R2}{g g':Cs->SV->SV->Option SV}(ho:OpR X (YZ op) r)(ho':OpR X (YZ op') r')(hg:R2ok X.K r g)(hg':R2ok X.K r' g')(ha:QEM X a fa)(hb:QEM X b fb)(hc:QEM X c fc)
  (hm:lastMarks [op,op'] [b,c]=false:=by with_unfolding_all rfl):QEM X (.Compare a [op,op'] [b,c] pos) (mChain g g' fa fb fc):=by
 subst_eqs
 exact PE.imp (pe_chain ho ho' ha hb hc hm) fun _ _ _ h=>tM_chain hg hg' h
theorem ZaH {op:CmpOp}{r:R2}{g:Cs->SV->SV->Option SV}(ho:OpR X (YZ op) r)(hg:R2ok X.K r g)(ha:QEM X a fa)(hb:QEM X b fb)(hm:WK op b=false):QTMt X (.Compare a [op] [b] pos) (mTest (mOp g fa fb)):=by
 subst_eqs
 exact PT.imp (pt_cmpR ho ha hb hm) fun σ H Q h=>by
    obtain ⟨ι,ρ,C,x,C',sr,e,q⟩:=tM_test h
    exact tM_op hg ⟨ι,ρ,C,x,C',sr,e,q⟩
theorem q_tm_chain {op op':CmpOp}{r r':R2}{g g':Cs->SV->SV->Option SV}(ho:OpR X (YZ op) r)(ho':OpR X (YZ op') r')(hg:R2ok X.K r g)(hg':R2ok X.K r' g')(ha:QEM X a fa)(hb:QEM X b fb)(hc:QEM X c fc)
  (hm:lastMarks [op,op'] [b,c]=false:=by with_unfolding_all rfl):QTMt X (.Compare a [op,op'] [b,c] pos) (mTest (mChain g g' fa fb fc)):=by
 subst_eqs
 exact PT.imp (pt_chain ho ho' ha hb hc hm) fun σ H Q h=>by
    obtain ⟨ι,ρ,C,x,C',sr,e,q⟩:=tM_test h
    exact tM_chain hg hg' ⟨ι,ρ,C,x,C',sr,e,q⟩
theorem ZaM (ha:QEM X a fa)(he:∀whole,isTrue a X.env whole=(do let v ←whole;standAt a.pos;V1 [v] (truthy v)):=by intro _;rfl):QTMt X a (mTru fa):=by
 subst_eqs
 exact PT.imp (pt_truth ha he) fun σ H Q h=>by
    obtain ⟨ι,ρ,C,z,C',sr,e,q⟩:=h
    obtain ⟨x,C1,e1,e⟩:=Zag e
    obtain ⟨e2,rfl⟩:=Zav e
    refine ⟨ι,ρ,C,x,C',sr,e1,fun v H1 f1 c1 r1=>⟨z,?_,q H1 f1 c1⟩⟩
    cases hd:deref C' x with
    | none=>rw[hd] at e2;cases e2
    | some p=>rw[hd] at e2;exact (r1.lies c1 hd).tru e2
theorem ZaW {f:PSt->M Bool}(h:QTMt X a f):QTMt X (.UnaryOp .Not a pos) (mNotT f):=by
 subst_eqs
 exact PT.imp (pt_not h) fun σ H Q h=>by
   obtain ⟨ι,ρ,C,z,C',sr,e,q⟩:=h
   obtain ⟨x,C1,e1,e⟩:=Zag e
   cases e
   exact ⟨ι,ρ,C,x,_,sr,e1,fun H1 f1 c1=>q H1 f1 c1⟩
theorem ZbG {f:PSt->M Bool}(h:QTMt X a f):QWM X (.BoolOp .Or [a] pos) f:=by
 subst_eqs
 exact pw_or1 h
theorem Zbz {rest:List Expr}{f g:PSt->M Bool}(h:QTMt X a f)(k:QWM X (.BoolOp .Or (b::rest) pos) g):QWM X (.BoolOp .Or (a::b::rest) pos) (mOrT f g):=by
 subst_eqs
 exact PW.imp (pw_or h k) fun σ H Q h=>by
   obtain ⟨ι,ρ,C,z,C',sr,e,q⟩:=h
   obtain ⟨x,C1,e1,e⟩:=Zag e
   refine ⟨ι,ρ,C,x,C1,sr,e1,fun H1 f1 c1=>?_⟩
   cases x with
   | true=>rw[if_pos rfl] at e ⊢;cases e;exact q H1 f1 c1
   | false=>rw[if_neg Yi] at e ⊢;exact ⟨ι,ρ,C1,z,C',sr.step f1 c1,e,fun H2 f2 c2=>q H2 (f1.trans f2) c2⟩
theorem ZaX {op}{f:PSt->M SV}(h:QEM X a f):QEM X (.BoolOp op [a] pos) f:=by
 subst_eqs
 exact pe_one h
theorem Zaw {rest:List Expr}{f g:PSt->M SV}(h:QEM X a f)(k:QEM X (.BoolOp .And (b::rest) pos) g):QEM X (.BoolOp .And (a::b::rest) pos) (mAndV f g):=by
 subst_eqs
 exact PE.imp (pe_and h k) fun σ H Q h=>by
   obtain ⟨ι,ρ,C,z,C',sr,e,q⟩:=h
   obtain ⟨x,C1,e1,e⟩:=Zag e
   obtain ⟨k,C2,e2,e3⟩:=Zag e
   obtain ⟨hx,hC⟩:=ZcY e2
   subst hx hC
   clear e e2
   have e:=e3
   refine ⟨ι,ρ,C,_,C2,sr,e1,fun v H1 f1 c1 r1=>⟨k,repB r1,?_⟩⟩
   cases k with
   | true=>rw[if_pos rfl] at e ⊢;exact ⟨ι,ρ,C2,z,C',sr.step f1 c1,e,fun v' H2 f2 c2 r2=>q v' H2 (f1.trans f2) c2 r2⟩
   | false=>rw[if_neg Yi] at e ⊢;cases e;exact q _ H1 f1 c1 repB'
theorem q_em_or {rest:List Expr}{f g:PSt->M SV}(h:QEM X a f)(k:QEM X (.BoolOp .Or (b::rest) pos) g):QEM X (.BoolOp .Or (a::b::rest) pos) (mOrV f g):=by
 subst_eqs
 exact PE.imp (pe_or h k) fun σ H Q h=>by
   obtain ⟨ι,ρ,C,z,C',sr,e,q⟩:=h
   obtain ⟨x,C1,e1,e⟩:=Zag e
   obtain ⟨k,C2,e2,e3⟩:=Zag e
   obtain ⟨hx,hC⟩:=ZcY e2
   subst hx hC
   clear e e2
   have e:=e3
   refine ⟨ι,ρ,C,_,C2,sr,e1,fun v H1 f1 c1 r1=>⟨k,repB r1,?_⟩⟩
   cases k with
   | false=>rw[if_neg Yi] at e ⊢;exact ⟨ι,ρ,C2,z,C',sr.step f1 c1,e,fun v' H2 f2 c2 r2=>q v' H2 (f1.trans f2) c2 r2⟩
   | true=>rw[if_pos rfl] at e ⊢;cases e;exact q _ H1 f1 c1 repB'
theorem q_em_not {f:PSt->M SV}(h:QEM X a f):QEM X (.UnaryOp .Not a pos) (mNotV f):=by
 subst_eqs
 exact PE.imp (pe_not h) fun σ H Q h=>by
   obtain ⟨ι,ρ,C,z,C',sr,e,q⟩:=h
   obtain ⟨x,C1,e1,e⟩:=Zag e
   obtain ⟨k,C2,e2,e3⟩:=Zag e
   obtain ⟨hx,hC⟩:=ZcY e2
   subst hx hC
   clear e e2
   have e:=e3
   refine ⟨ι,ρ,C,_,C2,sr,e1,fun v H1 f1 c1 r1=>⟨k,repB r1,?_⟩⟩
   cases e
   exact q _ H1 f1 c1 repB'
theorem q_em_if {t:PSt->M Bool}{f g:PSt->M SV}(hc:QTMt X c t)(h:QEM X a f)(k:QEM X b g):QEM X (.IfExp c a b pos) (mIf t f g):=by
 subst_eqs
 exact PE.imp (pe_ifExp hc h k) fun σ H Q h=>by
   obtain ⟨ι,ρ,C,z,C',sr,e,q⟩:=h
   obtain ⟨x,C1,e1,e⟩:=Zag e
   refine ⟨ι,ρ,C,x,C1,sr,e1,fun H1 f1 c1=>?_⟩
   cases x with
   | true=>rw[if_pos rfl] at e ⊢;exact ⟨ι,ρ,C1,z,C',sr.step f1 c1,e,fun v H2 f2 c2 r2=>q v H2 (f1.trans f2) c2 r2⟩
   | false=>rw[if_neg Yi] at e ⊢;exact ⟨ι,ρ,C1,z,C',sr.step f1 c1,e,fun v H2 f2 c2 r2=>q v H2 (f1.trans f2) c2 r2⟩
theorem Zac:QAM X [] aNil:=by
 subst_eqs
 exact PA.imp pa_nil fun σ H Q h_=>by obtain ⟨ι,ρ,C,z,C',sr,e,q⟩:=h_;cases e;exact q [] H .refl sr.cr rfl
theorem Zaa {f:PSt->M SV}{g:PSt->M (List SV)}(h:QEM X e f)(k:QAM X es g)(hs:Yg (e::es) X.env=(false,eval e X.env)::Yg es X.env:=by rfl):QAM X (e::es) (aCons f g):=by
 subst_eqs
 exact PA.imp (pa_cons h k hs) fun σ H Q h=>by
   obtain ⟨ι,ρ,C,z,C',sr,e,q⟩:=h
   obtain ⟨x,C1,e1,e⟩:=Zag e
   obtain ⟨xs,C2,e2,e⟩:=Zag e
   cases e
   exact ⟨ι,ρ,C,x,C1,sr,e1,fun v H1 f1 c1 r1=>⟨ι,ρ,C1,xs,C',sr.step f1 c1,e2,fun vs H2 f2 c2 r2=>q (v::vs) H2 (f1.trans f2) c2 ⟨v,vs,rfl,r1.mono c1 f2,r2⟩⟩⟩
theorem Zae {k:Nat}{f:Addr}{fd:Ym}{ps:List Str}{F:List SV->M SV}{fs:PSt->M (List SV)}(G:FnOk X.prog X.w X.K X.mg X.base CX0 k f fd ps (liftSp X.K F))(hr:Room k X.A)(hg:Gl X x)(hm:X.mg x=some (.ref f))(hk:Yw X.K (.ref f)=true)(hb:Binds X.K fd ps [])
  (ha:QAM X (e::es) fs) (hdb:(x==("__debug__":Str))=false:=by decide) (he:Yg (e::es) X.env=(false,eval e X.env)::Yg es X.env:=by rfl) (hpl:(backTo pos (Yg es X.env)).any (·.1)=false:=by rfl):
  QEM X (.Call (.Name x p) (e::es) [] pos) (mFn F fs):=by
 subst_eqs
 exact PE.imp (pe_call G hr hg hm hk hb .nil pass0 ha hdb he hpl) fun σ H Q h=>by
   obtain ⟨ι,ρ,C,z,C',sr,e,q⟩:=h
   obtain ⟨xs,C1,e1,e⟩:=Zag e
   refine ⟨ι,ρ,C,xs,C1,sr,e1,fun vs H1 f1 c1 r1=>?_⟩
   show liftSp X.K F (vs++[]) H1 Q E0
   rw[YA]
   exact ⟨ι,xs,C1,z,C',c1,r1,e,fun v H2 f2 c2 r2=>q v H2 (f1.trans f2) c2 r2⟩
end
section
variable {X:Cx}{a b e c tg:Expr}{es:List Expr}{st:Stmt}{rest sts sts':List Stmt}{f g:PSt->M PF}{pos p pos':Pos}{x:Str}
theorem Zat:QBM X [] mSkip:=by
 subst_eqs
 exact PSs.imp pss_nil fun D σ H h_=>by obtain ⟨ι,ρ,C,fl,C',sr,e,d⟩:=h_;cases e;exact d.nx0 sr
theorem Zah (h:QSM X st f):QBM X [st] f:=by
 subst_eqs
 exact pss_one h
theorem Zaf (h:QSM X st f)(k:QBM X rest g):QBM X (st::rest) (mSeq f g):=by
 subst_eqs
 exact PSs.imp (pss_cons h k) fun D σ H h_=>by
   obtain ⟨ι,ρ,C,fl,C',sr,e,d⟩:=h_
   obtain ⟨fl1,C1,e1,e⟩:=Zag e
   refine ⟨ι,ρ,C,fl1,C1,sr,e1,?_⟩
   cases fl1 with
   | nx ρ1=>exact fun ι2 σ' H' x sr'=>⟨ι++ι2,ρ1,C1,fl,C',sr',e,d.tr sr'.cr x⟩
   | rt r=>cases e;exact d
   | bk ρ1=>cases e;exact d
   | ct ρ1=>cases e;exact d
   | rf ps=>cases e;exact d
   | rq ps=>cases e;exact d
theorem ZaB {t:PSt->M Bool}(hc:QTMt X c t)(h:QBM X sts f)(k:QBM X sts' g):QSM X (.If c sts sts' pos) (mIfS t f g):=by
 subst_eqs
 exact PS.imp (ps_if hc h k) fun D σ H h_=>by
   obtain ⟨ι,ρ,C,fl,C',sr,e,d⟩:=h_
   obtain ⟨z,C1,e1,e⟩:=Zag e
   refine ⟨ι,ρ,C,z,C1,sr,e1,fun H1 f1 c1=>?_⟩
   cases z with
   | true=>rw[if_pos rfl] at e ⊢;exact ⟨ι,ρ,C1,fl,C',sr.step f1 c1,e,d.fr c1 f1⟩
   | false=>rw[if_neg Yi] at e ⊢;exact ⟨ι,ρ,C1,fl,C',sr.step f1 c1,e,d.fr c1 f1⟩
theorem Zal {f:PSt->M SV}(h:QEM X e f):QSM X (.Return (some e) pos) (mRet f):=by
 subst_eqs
 exact PS.imp (ps_ret h) fun D σ H h_=>by
   obtain ⟨ι,ρ,C,fl,C',sr,e,d⟩:=h_
   obtain ⟨z,C1,e1,e⟩:=Zag e
   cases e
   exact ⟨ι,ρ,C,z,_,sr,e1,fun v H1 f1 c1 r1=>d [] v H1 (Ex.fr f1) (by rw[YA];exact c1) (by rw[YA];exact r1)⟩
theorem ZcU {f:PSt->M (List PV)}(h:QFM X e f):QSM X (.Return (some e) pos) (mRetF f):=by
 subst_eqs
 exact PS.imp (ps_ret h) fun D σ H h_=>by
   obtain ⟨ι,ρ,C,fl,C',sr,e,d⟩:=h_
   obtain ⟨ps,C1,e1,g1⟩:=Zag e
   cases g1
   exact ⟨ι,ρ,C,ps,_,sr,e1,fun q vs H1 f1 c1 hq rs=>d [] q vs H1 (Ex.fr f1) (by rw[YA];exact c1) hq (by rw[YA];exact rs)⟩
theorem ZaJ {f:PSt->M SV}(h:QEM X e f)(hs:Vk e none pos.line X.env=pure false:=by rfl):QSM X (.Expr e pos) (mDrop f):=by
 subst_eqs
 exact PS.imp (ps_expr h hs) fun D σ H h_=>by
   obtain ⟨ι,ρ,C,fl,C',sr,e,d⟩:=h_
   obtain ⟨z,C1,e1,e⟩:=Zag e
   cases e
   exact ⟨ι,ρ,C,z,_,sr,e1,fun v H1 f1 c1 r1=>Done.nx0 (sr.step f1 c1) (d.fr c1 f1)⟩
theorem Zap {i:Nat}{f:PSt->M SV}(hN:X.N.Nodup)(hi:X.N[i]? = some x)(hx:Loc X.env.scope x)(h:QEM X e f)(hs:Vk e (some (.Name x pos')) pos.line X.env=pure false:=by rfl)
  (hf:X.fn x=true\/X.env.scope.names.lookup x=some .local:=by first | exact .inl rfl | exact .inr rfl | assumption):QSM X (.Assign [.Name x pos'] e pos) (mSet i f):=by
 subst_eqs
 exact PS.imp (ps_set hN hi hx h hs hf) fun D σ H h_=>by
   obtain ⟨ι,ρ,C,fl,C',sr,e,d⟩:=h_
   obtain ⟨z,C1,e1,e⟩:=Zag e
   cases e
   exact ⟨ι,ρ,C,z,_,sr,e1,fun v H1 f1 c1 r1=>Done.nx0 ((sr.step f1 c1).set i r1) (d.fr c1 f1)⟩
theorem ZbH {i:Nat}{f:PSt->M (List PV)}(hN:X.N.Nodup)(hi:X.N[i]? = some x)(hx:Loc X.env.scope x)(h:QFM X e f)(hs:Vk e (some (.Name x pos')) pos.line X.env=pure false:=by rfl)
  (hf:X.fn x=true\/X.env.scope.names.lookup x=some .local:=by first | exact .inl rfl | exact .inr rfl | assumption):QSM X (.Assign [.Name x pos'] e pos) (mNew i f):=by
 subst_eqs
 exact PS.imp (ps_set hN hi hx h hs hf) fun D σ H h_=>by
   obtain ⟨ι,ρ,C,fl,C',sr,e,d⟩:=h_
   obtain ⟨ps,C1,e1,e⟩:=Zag e
   cases e
   exact ⟨ι,ρ,C,ps,C1,sr,e1,fun q vs H' f1 c1 hq rs=>new_cell sr d f1 c1 hq rs⟩
theorem ZaC {x1}{fs:PSt->M (List SV)}(h:QAM X es fs):QEM X (.Tuple es x1 pos) (mTup fs):=by
 subst_eqs
 exact PE.imp (pe_tup h) fun σ H Q h_=>by
   obtain ⟨ι,ρ,C,z,C',sr,e,q⟩:=h_
   obtain ⟨xs,C1,e1,e⟩:=Zag e
   obtain ⟨e2,rfl⟩:=Zav e
   refine ⟨ι,ρ,C,xs,_,sr,e1,fun vs H1 f1 c1 r1=>?_⟩
   by_cases hl:xs.length<=1000
   ·rw[if_pos hl] at e2
    cases hp:plain xs with
    | none=>rw[hp] at e2;cases e2
    | some ps=>
     rw[hp] at e2;cases e2
     obtain ⟨rs,hv⟩:=ZbK hp r1
     refine ⟨by rw[hv];exact k1000 hl,fun q' hq=>q _ _ (f1.trans (Fr.new hq)) (c1.new hq) ?_⟩
     show Rep _ _ _ (.tup ps) _
     unfold Rep
     exact ⟨q',vs,rfl,Za0,Reps.stay (fun b o e=>by rw[Zas (Zao e hq)];exact e) ps vs rs⟩
   ·rw[if_neg hl] at e2;cases e2
theorem ZaA {fs:PSt->M (List SV)}(h:QAM X es fs):QFM X (.List es pos) (mLst fs):=by
 subst_eqs
 exact PE.imp (pe_lst h) fun σ H Q h_=>by
   obtain ⟨ι,ρ,C,z,C',sr,e,q⟩:=h_
   obtain ⟨xs,C1,e1,e⟩:=Zag e
   obtain ⟨e2,rfl⟩:=Zav e
   refine ⟨ι,ρ,C,xs,_,sr,e1,fun vs H1 f1 c1 r1=>?_⟩
   by_cases hl:xs.length<=1000
   ·rw[if_pos hl] at e2
    obtain ⟨rs,hv⟩:=ZbK e2 r1
    exact ⟨by rw[hv];exact k1000 hl,fun q' hq=>q q' vs H1 f1 c1 hq rs⟩
   ·rw[if_neg hl] at e2;cases e2
theorem Zau {f:PSt->M (List PV)}(h:QFM X e f):QEM X e (mVal f):=by
 subst_eqs
 exact PE.imp h fun σ H Q h_=>by
   obtain ⟨ι,ρ,C,z,C',sr,e,q⟩:=h_
   obtain ⟨ps,C1,e1,e⟩:=Zag e
   cases e
   exact ⟨ι,ρ,C,ps,_,sr,e1,fun q' vs H1 f1 c1 hq rs=>q _ _ (f1.trans (Fr.new hq)) (c1.new hq) (Zcj c1 hq rs)⟩
theorem Zaj {i:Nat}(hN:X.N.Nodup)(hi:X.N[i]? = some x)(hx:Loc X.env.scope x)(hf:X.fn x=true\/X.env.scope.names.lookup x=some .local:=by first | exact .inl rfl | exact .inr rfl | assumption):QGM X (.Name x pos) (hName i):=by
 subst_eqs
 exact PG.imp (pg_name hN hi hx hf) fun v σ H Q h_=>by obtain ⟨ι,ρ,C,p,ρ',sr,r,e,q⟩:=h_;cases e;exact q _ (sr.set i r)
theorem ZaU:QGMs X [] hNil:=by
 subst_eqs
 exact PGs.imp pgs_nil fun v σ H Q h_=>by
   obtain ⟨ι,ρ,C,p,ρ',sr,r,e,q⟩:=h_
   cases p with
   | nil=>cases e;exact ⟨r.inv0,q σ sr⟩
   | cons _ _=>cases e
theorem Zak {g:PV->PSt->Option PSt}{gs:List PV->PSt->Option PSt}(h:QGM X e g)(k:QGMs X es gs)(hs:(Xg (e::es) X.env).map (·.2)=assign e X.env::(Xg es X.env).map (·.2):=by rfl):QGMs X (e::es) (hCons g gs):=by
 subst_eqs
 exact PGs.imp (pgs_cons h k hs) fun v σ H Q h_=>by
    obtain ⟨ι,ρ,C,p,ρ',sr,r,e,q⟩:=h_
    cases p with
    | nil=>cases e
    | cons p ps=>
     obtain ⟨w,ws,rfl,r1,r2⟩:=r.inv
     replace e:(g p ρ).bind (fun ρ'=>gs ps ρ')=some ρ':=e
     cases h1:g p ρ with
     | none=>rw[h1] at e;cases e
     | some ρ1=>
      rw[h1] at e
      exact ⟨w,ws,rfl,ι,ρ,C,p,ρ1,sr,r1,h1,fun σ1 sr1=>⟨ι,ρ1,C,ps,ρ',sr1,r2,e,q⟩⟩
theorem Za2 {gs:List PV->PSt->Option PSt}{k n:Nat}(hc:X.calm=true)(h:QGMs X es gs)(hn:(Xg es X.env).length=n:=by rfl)(hst:(Xg es X.env).findIdx? (·.1)=none:=by rfl):QGM X (.Tuple es k pos) (hTup gs n):=by
 subst_eqs
 exact PG.imp (pg_tup hc h hn hst) fun v σ H Q h_=>by
    obtain ⟨ι,ρ,C,p,ρ',sr,r,e,q⟩:=h_
    cases p with
    | tup ps=>
     unfold Rep at r
     obtain ⟨a,vs,rfl,sq,rs⟩:=r
     replace e:(if ps.length=n then gs ps ρ else none)=some ρ':=e
     by_cases hl:ps.length=n
     ·rw[if_pos hl] at e
      exact ⟨a,vs,rfl,sq.sq,by rw[←rs.length];exact hl,ι,ρ,C,ps,ρ',sr,rs,e,q⟩
     ·rw[if_neg hl] at e;cases e
    | _=>cases e
theorem Zbf {f:PSt->M SV}{g:PV->PSt->Option PSt}(h:QEM X e f)(k:QGM X tg g)(hs:swapsWithSole [tg] e pos.line X.env=pure false:=by rfl)(hw:swappedStores [tg] e X.env=pure none:=by rfl)
  (h1:(Xg [tg] X.env).map (·.2)=[assign tg X.env]:=by rfl):QSM X (.Assign [tg] e pos) (mAsg f g):=by
 subst_eqs
 exact PS.imp (ps_asg h k hs hw h1) fun D σ H h_=>by
   obtain ⟨ι,ρ,C,fl,C',sr,e,d⟩:=h_
   obtain ⟨z,C1,e1,e⟩:=Zag e
   refine ⟨ι,ρ,C,z,C1,sr,e1,fun v H1 f1 c1 r1=>?_⟩
   cases z with
   | c k=>cases e
   | v p=>
    have e:(g p ρ).map (fun ρ'=>(PF.nx ρ',C1))=some (fl,C'):=e
    cases hg:g p ρ with
    | none=>rw[hg] at e;cases e
    | some ρ1=>
     rw[hg] at e
     cases e
     exact ⟨ι,ρ,_,p,ρ1,sr.step f1 c1,r1,hg,fun σ' sr'=>Done.nx0 sr' (d.fr c1 f1)⟩
end
section
variable {X:Cx}{e tg iter elt:Expr}{es:List Expr}{body:List Stmt}{f:PSt->M PF}{pos p:Pos}{x:Str}
theorem ZcD {it:PSt->M (List PV)}{g:PV->PSt->Option PSt}(hp:PassesOwn (model X.prog X.w) X.A X.env X.xe)(hc:X.calm=true)(hi:QIM X tg iter it)(hg:QGM X tg g)(hb:QBM X body f)
  (hs:∀x,W2 iter X.env x=pure x:=by intro _;rfl):QSM X (.For tg iter body [] pos) (mFor it g f):=by
 subst_eqs
 exact PS.imp (ps_for hp hc hi hg hb hs) fun D σ H h_=>by
   obtain ⟨ι,ρ,C,fl,C',sr,e,d⟩:=h_
   obtain ⟨xs,C1,e1,e⟩:=Zag e
   refine ⟨ι,ρ,C,xs,C1,sr,e1,fun J H1 f1 c1 it1=>?_⟩
   have d1:=d.fr c1 f1
   have sr1:=sr.step f1 c1
   refine ⟨fun i m σ2 H2=>∃ι2 ρ2 C2,m=xs.length - i/\i<=xs.length/\Ex ι ι2 H1 H2/\SR X.K (ι++ι2) H2 ρ2 σ2 C2/\loop g f (xs.drop i) ρ2 C2=some (fl,C'),⟨xs.length,[],ρ,C1,rfl,X9 _,Ex.fr .refl,by rw[YA];exact sr1,e⟩,?_⟩
   rintro i m σ2 H2 ⟨ι2,ρ2,C2,rfl,hi2,x2,sr2,e2⟩
   rcases Y1 i xs.length with hlt | hge
   ·right
    refine ⟨it1.go ι2 H2 C2 x2 sr2.cr i hlt,fun σ' H'=>∃ι2 ρ2 C2,Ex ι ι2 H1 H'/\SR X.K (ι++ι2) H' ρ2 σ' C2/\loop g f (xs.drop (i + 1)) ρ2 C2=some (fl,C'),?_,?_⟩
    ·rintro σ' H' ⟨ι3,ρ3,C3,x3,sr3,e3⟩
     exact ⟨xs.length - (i + 1),by lia,ι3,ρ3,C3,rfl,hlt,x3,sr3,e3⟩
    ·intro v H3 y
     obtain ⟨sm,q,hq,rq⟩:=it1.yld ι2 H2 C2 x2 sr2.cr i v H3 hlt y
     have hd:xs.drop i=q::xs.drop (i + 1):=by
      rw[List.drop_eq_getElem_cons hlt]
      rw[Yd hlt] at hq
      rw[Yz hq]
     rw[hd] at e2
     unfold loop at e2
     cases hg1:g q ρ2 with
     | none=>rw[hg1] at e2;cases e2
     | some ρ3=>
      rw[hg1] at e2
      obtain ⟨fl1,C3,e3,e4⟩:=Zag e2
      have fr3:Fr (ι++ι2) H2 H3:=fun b o _ z=>sm b o z
      have cr3:CR X.K (ι++ι2) H3 C2:=sr2.cr.same sm
      have x3:Ex ι ι2 H1 H3:=⟨fun b o n z=>sm b o (x2.1 b o n z),x2.2⟩
      refine ⟨ι++ι2,ρ2,C2,q,ρ3,sr2.step fr3 cr3,rq,hg1,fun σ4 sr4=>⟨ι++ι2,ρ3,C2,fl1,C3,sr4,e3,?_⟩⟩
      cases fl1 with
      | nx ρ5=>exact fun ι5 σ5 H5 x5 sr5=>⟨ι2++ι5,ρ5,C3,x3.trans cr3 x5,by rw[←YF];exact sr5,e4⟩
      | ct ρ5=>exact fun ι5 σ5 H5 x5 sr5=>⟨ι2++ι5,ρ5,C3,x3.trans cr3 x5,by rw[←YF];exact sr5,e4⟩
      | bk ρ5=>cases e4;exact fun ι5 σ5 H5 x5 sr5=>d1 (ι2++ι5) σ5 H5 (x3.trans cr3 x5) (by rw[←YF];exact sr5)
      | rf ps=>cases e4;exact fun ι5 q5 vs5 H5 x5 c5 h5 r5=>d1 (ι2++ι5) q5 vs5 H5 (x3.trans cr3 x5) (by rw[←YF];exact c5) h5 (by rw[←YF];exact r5)
      | rq ps=>cases e4;exact fun ι5 q5 vs5 H5 x5 c5 h5 r5=>d1 (ι2++ι5) q5 vs5 H5 (x3.trans cr3 x5) (by rw[←YF];exact c5) h5 (by rw[←YF];exact r5)
      | rt r=>cases e4;exact fun ι5 v5 H5 x5 c5 r5=>d1 (ι2++ι5) v5 H5 (x3.trans cr3 x5) (by rw[←YF];exact c5) (by rw[←YF];exact r5)
   ·left
    have hi3:i=xs.length:=by lia
    subst hi3
    rw[List.drop_length] at e2
    cases e2
    exact ⟨it1.stop ι2 H2 _ x2 sr2.cr,d1 ι2 σ2 H2 x2 sr2⟩
section
variable {ifs:List Expr}{scope:Scope}{vs fs:List Str}{fr:List Nat}{it:PSt->M (List PV)}{g:PV->PSt->Option PSt}{tt:PSt->M Bool}{te:PSt->M SV}
theorem ZaY:QTsM X [] tOk:=by
 subst_eqs
 exact fun pins s σ H Q I h_=>by
   obtain ⟨ι,ρ,C,b,C',sr,e,q⟩:=h_
   cases e
   exact pts_nil pins s σ H Q I (q H .refl sr.cr)
theorem q_ts_one {c:Expr}{t:PSt->M Bool}(h:QTMt X c t):QTsM X [c] t:=by
 subst_eqs
 exact pts_one h
theorem ZaN (S:CSc X scope vs fs fr)(hc:X.calm=true)(hi:QIM X tg iter it)
  (bG:∀C s₀ H₀ ex pn,QGM (CompCx X (vs++fs) scope C s₀ H₀ ex pn) tg g) (bT:∀C s₀ H₀ ex pn,QTsM (CompCx X (vs++fs) scope C s₀ H₀ ex pn) ifs tt) (bE:∀C s₀ H₀ ex pn,QEM (CompCx X (vs++fs) scope C s₀ H₀ ex pn) elt te)
  (hs:∀x,W2 iter X.env x=pure x:=by intro _;rfl):QFM X (.ListComp elt [⟨tg,iter,ifs,0⟩] scope pos) (mComp it vs fr g tt te):=by
 subst_eqs
 exact PE.imp (pe_comp (g:=tMG X.K g) (tt:=tMB X.K tt) (te:=tM X.K te) S hc hi bG bT bE hs) fun σ H Q ⟨ι,ρ,C,res,C',sr,e,q⟩=>comp_pure sr e q
end
end
theorem q_fm_call {X:Cx}{e:Expr}{es:List Expr}{p pos:Pos}{x:Str}{k:Nat}{f:Addr}{fd:Ym}{ps:List Str}{F:List SV->M (List PV)}{fs:PSt->M (List SV)}(G:FnOk X.prog X.w X.K X.mg X.base CX0 k f fd ps (liftSpF X.K F))(hr:Room k X.A)(hg:Gl X x)(hm:X.mg x=some (.ref f))(hk:Yw X.K (.ref f)=true)(hb:L2.Binds X.K fd ps [])
  (ha:QAM X (e::es) fs) (hdb:(x==("__debug__":Str))=false:=by decide) (he:Yg (e::es) X.env=(false,eval e X.env)::Yg es X.env:=by rfl) (hpl:(backTo pos (Yg es X.env)).any (·.1)=false:=by rfl):
  QFM X (.Call (.Name x p) (e::es) [] pos) (mFnF F fs):=by
 subst_eqs
 exact PE.imp (pe_call G hr hg hm hk hb .nil pass0 ha hdb he hpl) fun σ H Q h_=>by
   obtain ⟨ι,ρ,C,z,C',sr,e,q⟩:=h_
   obtain ⟨xs,C1,e1,g1⟩:=Zag e
   refine ⟨ι,ρ,C,xs,C1,sr,e1,fun vs H1 f1 c1 r1=>?_⟩
   show liftSpF X.K F (vs++[]) H1 Q E0
   rw[YA]
   exact ⟨ι,xs,C1,z,C',c1,r1,g1,fun q' ws H2 f2 c2 h2 r2=>q q' ws H2 (f1.trans f2) c2 h2 r2⟩
section
variable {P:Yo}{w:World}{K:W.Frag}{mg:Str->Option Value}{base:Heap}
theorem Zar {x qual:Str}{st:Stmt}{f:Addr}{fd:Ym}{N ps:List Str}{k:Nat}{body:PSt->M PF}(F:Fun K x qual st f fd)(S:FnScope N ps (defScope st))
  (hbody:∀(cdv:Value) (A:Around) (outer:List Env) (s:Shared) (H:Hp) (E:XK),Room k (A.deeper (envOfC qual (defScope st) s.heap.objs.size f cdv))->
   QBM (cxOf CX0 P w K mg base N qual (defScope st) f cdv A outer s H E).nox (defBody st) body):FnOk P w K mg base CX0 (k + 1) f fd ps (liftSp K (mDef ps.length (N.length - ps.length) body)):=by
 subst_eqs
 refine F.ok S (fun vs H Q E h_=>?_) (fun cdv A outer s H vs Q E hr h_=>?_)<;>obtain ⟨ι,ss,C,r,C',cr,rs,e,q⟩:=h_
 ·unfold mDef at e
  by_cases h:ss.length=ps.length
  ·rw[←RepSs.length rs];exact h
  ·rw[if_neg h] at e;cases e
 ·refine ⟨_,hbody cdv A outer s H E hr,?_⟩
  unfold mDef at e
  by_cases h:ss.length=ps.length
  case neg=>rw[if_neg h] at e;cases e
  rw[if_pos h] at e
  have sr:=sr_start (N:=N) cr rs
  rw[h] at sr
  cases hb:body (ss.map some++YO (N.length - ps.length) none) C with
  | none=>rw[hb] at e;cases e
  | some z=>
   obtain ⟨fl,C2⟩:=z
   rw[hb] at e
   refine ⟨ι,_,C,fl,C2,sr,hb,?_⟩
   cases fl with
   | rt r2=>
    intro ι2 v H' x c r3
    obtain ⟨c4,r4⟩:=fin_ok c cr.len r3 e
    exact q v H' x.1 c4 r4
   | nx ρ2=>
    intro ι2 σ' H' x sr'
    cases e
    refine q .non H' x.1 (sr'.cr.cut cr.len) ?_
    show Rep K ι H' .non .non
    unfold Rep;rfl
   | rf ps'=>
    intro ι2 p' vs' H' x c hp rs'
    cases e
    have hs:∀b o,H' b=some o->b∉ι++ι2->b∉ι:=fun b o _ z q=>z (Xb _ q)
    have c4:=c.cut cr.len
    exact q _ _ (x.1.trans (Fr.new hp)) (c4.new hp) (show Rep _ _ _ _ _ from Zcj c4 hp (Reps.cells hs _ _ rs'))
   | rq qs'=>
    intro ι2 p' vs' H' x c hp rs'
    replace e:(finQ C.length C2 qs').map (fun ps=>(SV.v (.tup ps),C2.take C.length))=some (r,C'):=e
    cases hq:finQ C.length C2 qs' with
    | none=>rw[hq] at e;cases e
    | some ps'=>
     rw[hq] at e;cases e
     have c4:=c.cut cr.len
     refine q _ _ (x.1.trans (Fr.new hp)) (c4.new hp) ?_
     show Rep _ _ _ (.tup ps') _
     unfold Rep
     exact ⟨p',vs',rfl,Za0,Reps.stay (fun b o e=>by rw[Zas (Zao e hp)];exact e) _ _ (finQ_ok c cr.len rs' hq)⟩
   | bk _=>cases e
   | ct _=>cases e
theorem q_fn_mkF {x qual:Str}{st:Stmt}{f:Addr}{fd:Ym}{N ps:List Str}{k:Nat}{body:PSt->M PF}(F:Fun K x qual st f fd)(S:FnScope N ps (defScope st))
  (hbody:∀(cdv:Value) (A:Around) (outer:List Env) (s:Shared) (H:Hp) (E:XK),Room k (A.deeper (envOfC qual (defScope st) s.heap.objs.size f cdv))->
   QBM (cxOf CX0 P w K mg base N qual (defScope st) f cdv A outer s H E).nox (defBody st) body):FnOk P w K mg base CX0 (k + 1) f fd ps (liftSpF K (mDefF ps.length (N.length - ps.length) body)):=by
 subst_eqs
 refine F.ok S (fun vs H Q E h_=>?_) (fun cdv A outer s H vs Q E hr h_=>?_)<;>obtain ⟨ι,ss,C,r,C',cr,rs,e,q⟩:=h_
 ·unfold mDefF at e
  by_cases h:ss.length=ps.length
  ·rw[←RepSs.length rs];exact h
  ·rw[if_neg h] at e;cases e
 ·refine ⟨_,hbody cdv A outer s H E hr,?_⟩
  unfold mDefF at e
  by_cases h:ss.length=ps.length
  case neg=>rw[if_neg h] at e;cases e
  rw[if_pos h] at e
  have sr:=sr_start (N:=N) cr rs
  rw[h] at sr
  cases hb:body (ss.map some++YO (N.length - ps.length) none) C with
  | none=>rw[hb] at e;cases e
  | some z=>
   obtain ⟨fl,C2⟩:=z
   rw[hb] at e
   refine ⟨ι,_,C,fl,C2,sr,hb,?_⟩
   cases fl with
   | rf ps'=>
    intro ι2 p' vs' H' x c hp rs'
    cases e
    have hs:∀b o,H' b=some o->b∉ι++ι2->b∉ι:=fun b o _ z q=>z (Xb _ q)
    exact q p' vs' H' x.1 (c.cut cr.len) hp (Reps.cells hs _ _ rs')
   | _=>cases e
end
end Pu
namespace Pu
open PySem PySem.Spec L2
open PyProof.Rows hiding St Fr
section
variable {X:Cx}
variable {a b e c:Expr}{es:List Expr}{fa fb fc:PSt->M SV}{pos p:Pos}{x:Str}
theorem ZaF (ha:QEM X a fa)(hb:QEM X b fb):QEM X (.BinOp a .Add b pos) (mOp (g2 addP) fa fb):=by
 subst_eqs
 exact em_op op_addAll add_ok.r ha hb
theorem ZcF (ha:QEM X a fa)(hb:QEM X b fb):QEM X (.BinOp a .Sub b pos) (mOp (g2 subP) fa fb):=by
 subst_eqs
 exact em_op op_sub (Zc3 fun _ _ _ _=>repI).r ha hb
theorem Za9 (ha:QEM X a fa)(hb:QEM X b fb):QEM X (.BinOp a .Mult b pos) (mOp (g2 mulP) fa fb):=by
 subst_eqs
 exact em_op op_mul (int_ok fun i j h=>by
   rw[Vo] at h
   rcases h with h | h
   ·exact .inl (of_decide_eq_true h)
   ·exact .inr (of_decide_eq_true h)).r ha hb
theorem ZaQ (ha:QEM X a fa)(hb:QEM X b fb):QEM X (.BinOp a .Mod b pos) (mOp (g2 modP) fa fb):=by
 subst_eqs
 exact em_op op_mod (int_ok fun i j h=>of_decide_eq_true h).r ha hb
theorem Zb3 (ha:QEM X a fa)(hb:QEM X b fb):QEM X (.BinOp a .Pow b pos) (mOp (g2 powP) fa fb):=by
 subst_eqs
 exact em_op op_pow (int_ok fun i j h=>by
   have h:=of_decide_eq_true h
   exact ⟨h.1,Int.le_trans h.2.1 (by decide),h.2.2⟩).r ha hb
theorem q_em_neg (ha:QEM X a fa):QEM X (.UnaryOp .USub a pos) (mNeg fa):=by
 subst_eqs
 refine PE.imp (pe_un un_neg ha) fun σ H Q h_=>?_
 obtain ⟨ι,ρ,C,z,C',sr,e,k⟩:=h_
 obtain ⟨x,C1,e1,e⟩:=Zag e
 obtain ⟨e2,rfl⟩:=Zav e
 refine ⟨ι,ρ,C,x,_,sr,e1,fun v H1 f1 c1 r1=>?_⟩
 unfold negP at e2
 split at e2
 ·rename_i i hd
  cases e2
  have l:=r1.lies c1 hd
  cases l
  exact ⟨i,rfl,k _ H1 f1 c1 (show Rep _ _ _ _ _ from repI)⟩
 ·cases e2
end
section
variable {X:Cx}{a b e c o:Expr}{es:List Expr}{fa fb fc fo:PSt->M SV}{fs:PSt->M (List SV)}{pos p apos cpos:Pos}{x:Str}
theorem ZaZ (hgl:Gl X "isinstance")(hm:X.mg "isinstance"=none)(hv:YX "isinstance"=some (.builtin "isinstance"))(ha:QAM X (e::es) fs)
  (he:Yg (e::es) X.env=(false,eval e X.env)::Yg es X.env:=by rfl) (hpl:(backTo pos (Yg es X.env)).any (·.1)=false:=by rfl):QEM X (.Call (.Name "isinstance" p) (e::es) [] pos) (mCB (g1 isiH) fs):=by
 subst_eqs
 exact ZbO call_isi isi_ok.c hgl hm hv ha (by decide) (by decide) he hpl
theorem ZaE (hgl:Gl X "len")(hm:X.mg "len"=none)(ha:QAM X (e::es) fs)
  (he:Yg (e::es) X.env=(false,eval e X.env)::Yg es X.env:=by rfl) (hpl:(backTo pos (Yg es X.env)).any (·.1)=false:=by rfl):QEM X (.Call (.Name "len" p) (e::es) [] pos) (mCB (g1 lenH) fs):=by
 subst_eqs
 exact ZbO call_len len_ok.c hgl hm PySem.boot_len ha (by decide) (by decide) he hpl
theorem q_em_max (hc:X.calm=true)(hgl:Gl X "max")(hm:X.mg "max"=none)(hv:YX "max"=some (.builtin "max"))(ha:QAM X (e::es) fs)
  (he:Yg (e::es) X.env=(false,eval e X.env)::Yg es X.env:=by rfl) (hpl:(backTo pos (Yg es X.env)).any (·.1)=false:=by rfl):QEM X (.Call (.Name "max" p) (e::es) [] pos) (mCB (g1 maxH) fs):=by
 subst_eqs
 exact ZbO (call_max2 hc) max_ok.c hgl hm hv ha (by decide) (by decide) he hpl
theorem q_em_min (hc:X.calm=true)(hgl:Gl X "min")(hm:X.mg "min"=none)(hv:YX "min"=some (.builtin "min"))(ha:QAM X (e::es) fs)
  (he:Yg (e::es) X.env=(false,eval e X.env)::Yg es X.env:=by rfl) (hpl:(backTo pos (Yg es X.env)).any (·.1)=false:=by rfl):QEM X (.Call (.Name "min" p) (e::es) [] pos) (mCB (g1 minH) fs):=by
 subst_eqs
 exact ZbO (call_min2 hc) min_ok.c hgl hm hv ha (by decide) (by decide) he hpl
theorem Zb5 (hgl:Gl X "int")(hm:X.mg "int"=none)(hv:YX "int"=some (.type "int"))(ha:QAM X (e::es) fs)
  (he:Yg (e::es) X.env=(false,eval e X.env)::Yg es X.env:=by rfl) (hpl:(backTo pos (Yg es X.env)).any (·.1)=false:=by rfl):QEM X (.Call (.Name "int" p) (e::es) [] pos) (mCB (g1 intH) fs):=by
 subst_eqs
 exact Zcc call_int1 intc_ok.c hgl hm hv ha (by decide) (by decide) he hpl
theorem ZcV (hgl:Gl X "tuple")(hm:X.mg "tuple"=none)(hv:YX "tuple"=some (.type "tuple"))(ha:QAM X (e::es) fs)
  (he:Yg (e::es) X.env=(false,eval e X.env)::Yg es X.env:=by rfl) (hpl:(backTo pos (Yg es X.env)).any (·.1)=false:=by rfl):QEM X (.Call (.Name "tuple" p) (e::es) [] pos) (mCB (g1 tupH) fs):=by
 subst_eqs
 exact Zcc call_tuple_of tup_ok.c hgl hm hv ha (by decide) (by decide) he hpl
theorem ZbJ (hc:X.calm=true)(hgl:Gl X "all")(hm:X.mg "all"=none)(hv:YX "all"=some (.builtin "all"))(ha:QAM X (e::es) fs)
  (he:Yg (e::es) X.env=(false,eval e X.env)::Yg es X.env:=by rfl) (hpl:(backTo pos (Yg es X.env)).any (·.1)=false:=by rfl):QEM X (.Call (.Name "all" p) (e::es) [] pos) (mCB (g1 allH) fs):=by
 subst_eqs
 exact ZbO (call_all_bl hc) all_ok.c hgl hm hv ha (by decide) (by decide) he hpl
end
section
variable {X:Cx}{a b e c o i:Expr}{es:List Expr}{fa fb fc fo fi fv:PSt->M SV}{fs:PSt->M (List SV)}{pos p apos cpos:Pos}{x:Str}
theorem q_em_append (ho:QEM X o fo)(ha:QAM X (e::es) fs)(hbase:XM o "append" X.env (eval o X.env)=eval o X.env:=by rfl)
  (hfew:((backTo cpos (Yg (e::es) X.env)).all (fun x=>!x.1)&&(Vx cpos (Wt [] X.env)).all (fun x=>x.1.isSome)
   &&decide ((e::es).length + ([]:List Wu).length + (if ([]:List Wu).isEmpty then 0 else 1) < 30))=true:=by rfl)
  (hline:(apos.endLine==cpos.line)=true:=by rfl) (hs:Yg (e::es) X.env=(false,eval e X.env)::Yg es X.env:=by rfl) (hplain:(backTo cpos (Yg es X.env)).any (·.1)=false:=by rfl):
  QEM X (.Call (.Attribute o "append" apos) (e::es) [] cpos) (mApp fo fs):=by
 subst_eqs
 exact PE.imp (pe_bm WV PySem.F.slot_list_append PySem.F.type_list_append mt_append ho ha hbase hfew hline hs hplain) fun σ H Q h_=>by
    obtain ⟨ι,ρ,C,z,C',sr,e,q⟩:=h_
    obtain ⟨x,C1,e1,g1⟩:=Zag e
    obtain ⟨u,C2,e2,g2⟩:=Zag g1
    obtain ⟨ys,C3,e3,g3⟩:=Zag g2
    obtain ⟨hC,k,ps0,hx,hc0⟩:=Zdo e2
    obtain ⟨k',p',ps,hx',hy,hc,hl,hr,hC'⟩:=appC_some g3
    clear e g1 g2 g3 e2
    subst hC hx hr hC' hy
    cases hx'
    refine ⟨ι,ρ,C,_,_,sr,e1,fun v H1 f1 c1 r1=>?_⟩
    obtain ⟨a,rfl,hk⟩:=r1
    obtain ⟨vs0,h0,_⟩:=Zcd c1 hk hc0
    refine ⟨.inl ⟨rfl,_,.of h0⟩,ι,ρ,_,_,C3,sr.step f1 c1,e3,fun ws H2 f2 c2 r2=>?_⟩
    obtain ⟨w,wr,rfl,rw1,hw⟩:=r2
    cases (show wr=[] from hw)
    obtain ⟨vs,h1,rv⟩:=Zcd c2 hk hc
    obtain ⟨c4,f4⟩:=cr_set c2 hk (rv.append (.cons rw1 .nil))
    exact ⟨a,vs,w,rfl,rfl,h1,by rw[←rv.length];exact Yv hl (k100000 (Yx _)),q _ _ (f1.trans (f2.trans f4)) c4 (show Rep _ _ _ _ _ from repN)⟩
theorem Zdh {spos:Pos}(hv:QEM X e fv)(ho:QEM X o fo)(hi:QEM X i fi)
  (ha:∀v,assign (.Subscript o i spos) X.env v=(do
   let ov ←V1 [v] (eval o X.env)
   let iv ←V1 [v,ov] (eval i X.env)
   standAt spos
   V1 [v,ov,iv] (setItem ov iv v)
   release [v,ov,iv] []):=by intro _;rfl)
  (hs:swapsWithSole [.Subscript o i spos] e pos.line X.env=pure false:=by rfl) (hw:swappedStores [.Subscript o i spos] e X.env=pure none:=by rfl)
  (h1:(Xg [.Subscript o i spos] X.env).map (·.2)=[assign (.Subscript o i spos) X.env]:=by rfl):QSM X (.Assign [.Subscript o i spos] e pos) (mSetIx fv fo fi):=by
 subst_eqs
 exact PS.imp (ps_asg hv (pg_sub ho hi set_list ha) hs hw h1) fun D σ H h_=>by
    obtain ⟨ι,ρ,C,fl,C',sr,e,d⟩:=h_
    obtain ⟨v,C1,e1,g1⟩:=Zag e
    obtain ⟨o,C2,e2,g2⟩:=Zag g1
    obtain ⟨i,C3,e3,g3⟩:=Zag g2
    obtain ⟨k,n,p',ps,j,ho,hi,hv,hc,hj,hf,hC⟩:=setC_some g3
    clear e g1 g2 g3
    subst ho hi hv hf hC
    refine ⟨ι,ρ,C,_,C1,sr,e1,fun x H1 f1 c1 r1=>⟨ι,ρ,C1,_,C2,sr.step f1 c1,e2,fun y H2 f2 c2 r2=>⟨ι,ρ,C2,_,C3,(sr.step f1 c1).step f2 c2,e3,fun w H3 f3 c3 r3=>?_⟩⟩⟩
    obtain ⟨a,rfl,hk⟩:=r2
    have r3:w=.int n:=by unfold RepS Rep at r3;exact r3
    obtain ⟨vs,h1,rv⟩:=Zcd c3 hk hc
    have r1':Rep X.K ι H3 p' x:=Rep.mono c2 f3 _ _ (Rep.mono c1 f2 _ _ r1)
    obtain ⟨c4,f4⟩:=cr_set c3 hk (rv.set j r1')
    refine ⟨a,vs,n,j,rfl,r3,h1,by rw[←rv.length];exact hj,?_⟩
    exact Done.nx0 ((((sr.step f1 c1).step f2 c2).step f3 c3).step f4 c4) (d.fr c4 (f1.trans (f2.trans (f3.trans f4))))
variable {tg l:Expr}
theorem Za1 (hl:QEM X l fa):QIM X tg l (mItems fa):=by
 subst_eqs
 intro pins s σ H R I h
 obtain ⟨ι,ρ,C,xs,C',sr,e,q⟩:=h
 obtain ⟨x,C1,e1,e⟩:=Zag e
 obtain ⟨e2,rfl⟩:=Zav e
 refine thn (hl pins s σ H (fun v H1=>Fr ι H H1/\CR X.K ι H1 C'/\RepS X.K ι H1 x v) I ⟨ι,ρ,C,x,C',sr,e1,fun v H1 f1 c1 r1=>⟨f1,c1,r1⟩⟩) fun v s1 h_=>?_
 obtain ⟨y,H1,I1,r1,f1,c1,rx⟩:=h_
 have fp:∀b∈[s1.heap.objs.size],FpOk X pins H1 b:=fun b hb=>by
  have e:b=s1.heap.objs.size:=by simpa using hb
  subst e
  exact I1.fpOk (Yx _) (I1.hok.fresh (Yx _))
 unfold itemsP at e2
 split at e2
 ·cases e2
  have rx:Rep X.K ι H1 (.lst _) y:=rx
  unfold Rep at rx
  obtain ⟨a,vs,rfl,hq,rv⟩:=rx
  cases r1
  obtain ⟨its,_,p,hz⟩:=I1.list hq.sq
  refine W4 p.isList ?_
  exact ⟨s1.heap.objs.size,[s1.heap.objs.size],_,_,H1,rfl,I1.kept (t':=s1.toks) fun b o e=>Yb _ e,turn_list a _,⟨_,Yh _ rfl,rfl,rfl⟩,fp,q _ H1 f1 c1 (iter_list c1 hq rv)⟩
 ·cases e2
  have rx:Rep X.K ι H1 (.tup _) y:=rx
  unfold Rep at rx
  obtain ⟨a,vs,rfl,hq,rv⟩:=rx
  cases r1
  obtain ⟨its,_,p,hz⟩:=I1.tuple hq.sq
  refine wpAny_pyIter_tuple (show s1.heap.IsTuple a its.toArray from p) ?_
  exact ⟨s1.heap.objs.size,[s1.heap.objs.size],_,_,H1,rfl,I1.kept (t':=s1.toks) fun b o e=>Yb _ e,turn_tuple a _,⟨_,Yh _ rfl,rfl,rfl⟩,fp,q _ H1 f1 c1 (iter_tup c1 hq.sq rv)⟩
 ·cases e2
  have rx:Rep X.K ι H1 (.str _) y:=rx
  rename Str=>z
  unfold Rep at rx
  obtain ⟨rfl,hz⟩:=rx
  obtain ⟨t,rfl⟩:=r1
  cases ha:z.cps.all (· < 128)
  ·exact wpAny_pyIter_wide ha ⟨s1.heap.objs.size,[s1.heap.objs.size],_,_,H1,rfl,I1.kept (t':=s1.toks) fun b o e=>Yb _ e,turn_str (t:=t) (.inr rfl),⟨_,Yh _ rfl,rfl,rfl⟩,fp,q _ H1 f1 c1 iter_str⟩
  ·exact wpAny_pyIter_ascii ha ⟨s1.heap.objs.size,[s1.heap.objs.size],_,_,H1,rfl,I1.kept (t':=s1.toks) fun b o e=>Yb _ e,turn_str (t:=t) (.inl rfl),⟨_,Yh _ rfl,rfl,rfl⟩,fp,q _ H1 f1 c1 iter_str⟩
 ·cases e2
theorem ZbV (hg:Gl X "range")(hm:X.mg "range"=none)(ha:QAM X [a] fs)(hs:Yg [a] X.env=[(false,eval a X.env)]:=by rfl):QIM X tg (.Call (.Name "range" p) [a] [] pos) (mRange1 fs):=by
 subst_eqs
 exact PI.imp (pi_range1 hg hm ha hs) fun σ H R h_=>by
    obtain ⟨ι,ρ,C,xs,C',sr,e,q⟩:=h_
    obtain ⟨zs,C1,e1,g1⟩:=Zag e
    obtain ⟨e2,hC⟩:=Zav g1
    subst hC
    refine ⟨ι,ρ,C,zs,_,sr,e1,fun vs H1 f1 c1 r1=>?_⟩
    obtain ⟨j,rfl,h,rfl⟩:=rng1_some e2
    obtain ⟨v,w,rfl,r1,hw⟩:=r1
    cases (show w=[] from hw)
    have r1:v=.int j:=by unfold RepS Rep at r1;exact r1
    subst r1
    exact ⟨j,rfl,by lia,by lia,q _ H1 f1 c1 iter_range⟩
end
section
variable {X:Cx}{a b e c o i:Expr}{es:List Expr}{fa fb fc fo fi fv:PSt->M SV}{fs:PSt->M (List SV)}{pos p apos cpos p2:Pos}{x:Str}{lo hi:Option Expr}{l h:PSt->M (Option Int)}
theorem ZaK:QOM X none oNo:=by
 subst_eqs
 exact PO.imp po_none fun σ H Q h_=>by obtain ⟨ι,ρ,C,r,C',sr,e,q⟩:=h_;cases e;exact q H .refl sr.cr
theorem ZaD (he:QEM X e fa):QOM X (some e) (oPart fa):=by
 subst_eqs
 exact PO.imp (po_some he) fun σ H Q h_=>by
   obtain ⟨ι,ρ,C,r,C',sr,e,q⟩:=h_
   obtain ⟨z,C1,e1,g1⟩:=Zag e
   obtain ⟨e2,hC⟩:=Zav g1
   subst hC
   refine ⟨ι,ρ,C,z,_,sr,e1,fun v H1 f1 c1 r1=>?_⟩
   unfold intD at e2
   split at e2
   ·rename_i j hd
    cases e2
    have l:=r1.lies c1 hd
    cases l
    exact ⟨j,rfl,q H1 f1 c1⟩
   ·cases e2
theorem ZaR (he:QEM X e fa)(hl:QOM X lo l)(hh:QOM X hi h):QEM X (.Subscript e (.Slice lo hi none p2) pos) (mSlice fa l h):=by
 subst_eqs
 exact PE.imp (pe_slice (SlR.or sl_list (SlR.or sl_tup sl_tupW)) he hl hh) fun σ H Q h_=>by
    obtain ⟨ι,ρ,C,z,C',sr,e,q⟩:=h_
    obtain ⟨x,C1,e1,g1⟩:=Zag e
    obtain ⟨i,C2,e2,g2⟩:=Zag g1
    obtain ⟨j,C3,e3,g3⟩:=Zag g2
    obtain ⟨e4,hC⟩:=Zav g3
    subst hC
    clear e g1 g2 g3
    refine ⟨ι,ρ,C,x,C1,sr,e1,fun v H1 f1 c1 r1=>⟨ι,ρ,C1,i,C2,sr.step f1 c1,e2,fun H2 f2 c2=>⟨ι,ρ,C2,j,_,(sr.step f1 c1).step f2 c2,e3,fun H3 f3 c3=>?_⟩⟩⟩
    have fr:=f1.trans (f2.trans f3)
    have r3:=(r1.mono c1 f2).mono c2 f3
    rcases ZcP e4 with ⟨xs,hd,rfl⟩ | ⟨xs,hd,rfl⟩
    ·obtain ⟨a,vs,rfl,h1,rv⟩:=liesL (r3.lies c3 hd)
     exact .inl ⟨a,vs,rfl,h1,fun p hp=>q _ _ (fr.trans (Fr.new hp)) (c3.new hp) (show Rep _ _ _ _ _ from Zcj c3 hp (ZcA rv i j))⟩
    ·obtain ⟨a,vs,rfl,h1,rv⟩:=liesT (r3.lies c3 hd)
     by_cases hw:HT.sIx vs.length 0 i=0/\HT.sIx vs.length vs.length j=vs.length
     ·refine .inr (.inr ⟨a,vs,rfl,h1.sq,hw,?_⟩)
      rw[←rv.length] at hw
      rw[cut_whole hw] at q
      exact q _ H3 fr c3 (show Rep _ _ _ _ _ by unfold Rep;exact ⟨a,vs,rfl,h1,rv⟩)
     ·exact .inr (.inl ⟨a,vs,rfl,h1.sq,hw,fun p hp=>q _ _ (fr.trans (Fr.new hp)) (c3.new hp) (show Rep _ _ _ _ _ from Zck hp (ZcA rv i j))⟩)
end
section
variable {X:Cx}{a b e c o i:Expr}{es:List Expr}{fa fb fc fo fi fv:PSt->M SV}{fs:PSt->M (List SV)}{pos p apos cpos p2:Pos}{x:Str}
theorem Zbd (ho:QEM X o fo)(ha:QAM X (e::es) fs)(hbase:XM o "join" X.env (eval o X.env)=eval o X.env:=by rfl)
  (hfew:((backTo cpos (Yg (e::es) X.env)).all (fun x=>!x.1)&&(Vx cpos (Wt [] X.env)).all (fun x=>x.1.isSome)
   &&decide ((e::es).length + ([]:List Wu).length + (if ([]:List Wu).isEmpty then 0 else 1) < 30))=true:=by rfl)
  (hline:(apos.endLine==cpos.line)=true:=by rfl) (hs:Yg (e::es) X.env=(false,eval e X.env)::Yg es X.env:=by rfl) (hplain:(backTo cpos (Yg es X.env)).any (·.1)=false:=by rfl):
  QEM X (.Call (.Attribute o "join" apos) (e::es) [] cpos) (mMt "str" joinH fo fs):=by
 subst_eqs
 exact em_mt W0 PySem.F.slot_str_join PySem.F.type_str_join mt_join join_ok ho ha hbase hfew hline hs hplain
theorem q_em_index (ho:QEM X o fo)(ha:QAM X (e::es) fs)(hbase:XM o "index" X.env (eval o X.env)=eval o X.env:=by rfl)
  (hfew:((backTo cpos (Yg (e::es) X.env)).all (fun x=>!x.1)&&(Vx cpos (Wt [] X.env)).all (fun x=>x.1.isSome)
   &&decide ((e::es).length + ([]:List Wu).length + (if ([]:List Wu).isEmpty then 0 else 1) < 30))=true:=by rfl)
  (hline:(apos.endLine==cpos.line)=true:=by rfl) (hs:Yg (e::es) X.env=(false,eval e X.env)::Yg es X.env:=by rfl) (hplain:(backTo cpos (Yg es X.env)).any (·.1)=false:=by rfl):
  QEM X (.Call (.Attribute o "index" apos) (e::es) [] cpos) (mMt "list" indexH fo fs):=by
 subst_eqs
 exact em_mt WV PySem.F.slot_list_index PySem.F.type_list_index mt_index index_ok ho ha hbase hfew hline hs hplain
theorem Zam (hu:X.A.units + 1 < cLine)(ha:QEM X a fa)(hb:QEM X b fb)(hs:PlainIx b:=by exact fun _ _=>rfl):QEM X (.Subscript a b pos) (mOp (g2 ixQ) fa fb):=by
 subst_eqs
 exact em_ix (IxR.or ix_seq (ix_dict hu)) ixQ_ok.r ha hb hs
end
section
variable {X:Cx}{a b e c o i:Expr}{es:List Expr}{fa fb fc fo fi fv:PSt->M SV}{fs:PSt->M (List SV)}{pos p apos cpos p2:Pos}{x:Str}{d:Addr}{tab:List (Str×Addr)}
theorem ZcE (hg:Gl X x)(hm:X.mg x=some (.ref d))(hd:(x==("__debug__":Str))=false:=by decide):QEM X (.Name x pos) (mC (.fn d)):=by
 subst_eqs
 exact Zbu (pe_glob (v:=.ref d) hg hm rfl hd) fun ι H=>by unfold Rep;rfl
theorem Zdi (T:TopD X.K X.w d tab)(ha:QEM X a fa)(hb:QEM X b fb)(hs:PlainIx b:=by exact fun _ _=>rfl):QEM X (.Subscript a b pos) (mOp (topG d tab) fa fb):=by
 subst_eqs
 exact em_ix (ix_top T) topG_ok ha hb hs
theorem q_em_callV {k:Nat}{T:List (Addr×(List SV->M SV))}(i:Nat)(hok:∀a F,T.lookup a=some F->∃fd ps,FnOk X.prog X.w X.K X.mg X.base CX0 k a fd ps (liftSp X.K F)/\Yw X.K (.ref a)=true/\L2.Binds X.K fd ps [])(hr:Room k X.A)(ha:QAM X (e::es) fs)
  (hN:X.N[i]? = some x:=by rfl) (hv:Vis X.env.scope x:=by first | exact Or.inl rfl | exact Or.inr (Or.inl rfl) | exact Or.inr (Or.inr rfl)) (hdb:(x==("__debug__":Str))=false:=by decide) (hcd:(x==("__classdict__":Str))=false:=by decide)
  (he:Yg (e::es) X.env=(false,eval e X.env)::Yg es X.env:=by rfl) (hpl:(backTo pos (Yg es X.env)).any (·.1)=false:=by rfl):
  QEM X (.Call (.Name x p) (e::es) [] pos) (mCallV i T fs):=by
 subst_eqs
 intro pins s σ H Q I h_
 obtain ⟨ι,ρ,C,z,C',sr,e,q⟩:=h_
 obtain ⟨f,C1,e1,g1⟩:=Zag e
 obtain ⟨xs,C2,e2,g2⟩:=Zag g1
 obtain ⟨a,F,rfl,hT,e3⟩:=callV_some g2
 obtain ⟨fd,ps,G,hk,hb⟩:=hok a F hT
 refine WL (thn (em_var i hN hv hdb hcd pins s σ H (fun v H1=>Fr ι H H1/\CR X.K ι H1 C1/\v=.ref a) I ⟨ι,ρ,C,_,C1,sr,e1,fun v H1 f1 c1 r1=>⟨f1,c1,by unfold RepS Rep at r1;exact r1⟩⟩) fun u s1 h_=>?_)
 obtain ⟨v,H1,I1,r1,f1,c1,hv⟩:=h_
 subst hv
 cases r1
 refine W.callWith_K (h₀:=X.base) I.ok.mod.kin hk (thn (ha pos pins s1 σ H1 (fun vs H2=>Fr ι H1 H2/\CR X.K ι H2 C2/\RepSs X.K ι H2 xs vs) I1 ⟨ι,ρ,C1,xs,C2,sr.step f1 c1,e2,fun vs H2 f2 c2 r2=>⟨f2,c2,r2⟩⟩) fun us s2 ⟨vs,H2,I2,r2,f2,c2,rs⟩=>⟨I2.kIn,?_⟩) he hpl
 refine run_fn (dvs:=[]) (ds:=[]) G hr hb .nil pass0 I2 r2 ?_
 rw[YA]
 exact ⟨ι,xs,C2,z,C',c2,rs,e3,fun v H3 f3 c3 r3=>q v H3 (f1.trans (f2.trans f3)) c3 r3⟩
end
theorem q_im_zip {X:Cx}{a b:Expr}{fs:PSt->M (List SV)}{elts:List Expr}{x1:Nat}{tpos p pos:Pos}(hg:Gl X "zip")(hm:X.mg "zip"=none)(ha:QAM X [a,b] fs)
  (hs:Yg [a,b] X.env=[(false,eval a X.env),(false,eval b X.env)]:=by rfl) (hs2:Yg [b] X.env=[(false,eval b X.env)]:=by rfl):QIM X (.Tuple elts x1 tpos) (.Call (.Name "zip" p) [a,b] [] pos) (mZip fs):=by
 subst_eqs
 intro pins s σ H R I h_
 obtain ⟨ι,ρ,C,xs,C',sr,e,q⟩:=h_
 obtain ⟨zs,C1,e1,g1⟩:=Zag e
 obtain ⟨e2,hC⟩:=Zav g1
 subst hC
 obtain ⟨x,y,ps,qs,rfl,hx,hy,rfl⟩:=zipP_some e2
 refine Call_ (Zc1 I hg hm 1e0 (Xm (thn (ha pos pins s σ H (fun vs H1=>Fr ι H H1/\CR X.K ι H1 C'/\RepSs X.K ι H1 [x,y] vs) I ⟨ι,ρ,C,_,C',sr,e1,fun vs H1 f1 c1 r1=>⟨f1,c1,r1⟩⟩) fun us s1 ⟨vs,H1,I1,r1,f1,c1,rs⟩=>?_) (by rw[hs,hs2]) (by rw[hs2];rfl)))
 obtain ⟨v1,w,rfl,rx,hw⟩:=rs
 obtain ⟨v2,w2,rfl,ry,hw⟩:=hw
 cases (show w2=[] from hw)
 obtain ⟨u1,u2,rfl,ru1,ru2⟩:=Vals.two r1
 obtain ⟨S1,rfl,hS1,Z1⟩:=src_of I1 c1 rx hx ru1
 obtain ⟨S2,rfl,hS2,Z2⟩:=src_of I1 c1 ry hy ru2
 refine callType_new PySem.F.called_zip (by decide) (PySem.F.typeCall_zip_2 _ _) (PySem.F.newCall_zip_2 _ _) (fun obj=>Vw obj _ _) PySem.F.entry_zip_new (zip_new S1 S2) ⟨hS1,hS2,?_⟩
 have z1:(s1.heap.push S1.obj).objs.size=s1.heap.objs.size + 1:=Xu ..
 have z2:((s1.heap.push S1.obj).push S2.obj).objs.size=s1.heap.objs.size + 2:=by rw[Xu,z1]
 have z3:(zH3 s1.heap S1 S2).objs.size=s1.heap.objs.size + 3:=by rw[Xu,z2]
 have z4:(zH4 s1.heap S1 S2).objs.size=s1.heap.objs.size + 4:=by rw[Xu,z3]
 have up:∀c o,s1.heap.get? c=some o->(zH5 s1.heap S1 S2).get? c=some o:=fun c o x=>Yb _ (Yb _ (Yb _ (Yb _ (Yb _ x))))
 have g5:(zH5 s1.heap S1 S2).get? (zH4 s1.heap S1 S2).objs.size=some _:=Yh _ rfl
 have g4:(zH5 s1.heap S1 S2).get? (zH3 s1.heap S1 S2).objs.size=some _:=Yb _ (Yh _ rfl)
 have g3:(zH5 s1.heap S1 S2).get? ((s1.heap.push S1.obj).push S2.obj).objs.size=some _:=Yb _ (Yb _ (Yh _ rfl))
 have g2:(zH5 s1.heap S1 S2).get? (s1.heap.push S1.obj).objs.size=some _:=Yb _ (Yb _ (Yb _ (Yh _ (by cases S2<;>rfl))))
 have g1:(zH5 s1.heap S1 S2).get? s1.heap.objs.size=some _:=Yb _ (Yb _ (Yb _ (Yb _ (Yh _ (by cases S1<;>rfl)))))
 show _/\_
 rw[z2,z3,z4] at g5
 rw[z1,z2] at g3
 rw[z3] at g4
 rw[z1] at g2
 rw[z4]
 have at0:∀{S:ZS} {it:Addr} {h:Heap},h.get? it=some S.obj->S.at' it 0 h:=fun {S it h} e=>by
  cases S with
  | l a=>exact ⟨_,e,rfl,rfl⟩
  | t a=>exact ⟨_,e,rfl,rfl⟩
  | s z tk wd=>exact ⟨_,e,rfl,rfl⟩
 have J:Inv X pins σ H1 { s1 with heap:=zH5 s1.heap S1 S2 }:=I1.kept (t':=s1.toks) up
 refine ⟨⟨_,g5,rfl⟩,VJ g5 ⟨s1.heap.objs.size + 4,[s1.heap.objs.size + 4,s1.heap.objs.size + 2,s1.heap.objs.size + 3,s1.heap.objs.size,s1.heap.objs.size + 1],_,_,H1,rfl,J,
  turn_zip (S1:=S1) (S2:=S2) (zne s1.heap.objs.size),⟨g5,g3,⟨_,_,g4⟩,at0 g1,at0 g2⟩,fun b hb=>?_,q _ H1 f1 c1 (iter_zip Z1 Z2)⟩⟩
 have hb':s1.heap.objs.size<=b:=by
  simp only[Ye,Yt,or_false] at hb
  rcases hb with rfl | rfl | rfl | rfl | rfl<;>lia
 exact I1.fpOk hb' (I1.hok.fresh hb')
end Pu
namespace Pu
open PySem PySem.Spec PySem.W PySem.Calls L2 PySem.SeqAt
open PyProof.Rows hiding St Fr
section
variable {X:Cx}{e o i:Expr}{es:List Expr}{fs:PSt->M (List SV)}{p pos pos':Pos}{x:Str}{fv fo fi:PSt->M SV}
theorem q_sm_newT {n:Nat}{dpos:Pos}(hN:X.N.Nodup)(hi:X.N[n]? = some x)(hx:Loc X.env.scope x)(hs:Vk (.Dict [] [] dpos) (some (.Name x pos')) pos.line X.env=pure false:=by rfl)
  (hf:X.fn x=true\/X.env.scope.names.lookup x=some .local:=by first | exact .inl rfl | exact .inr rfl | assumption):QSM X (.Assign [.Name x pos'] (.Dict [] [] dpos) pos) (mNewT n):=by
 subst_eqs
 exact PS.imp (ps_set hN hi hx pe_dnewT hs hf) fun D σ H h_=>by
   obtain ⟨ι,ρ,C,fl,C',sr,e,d⟩:=h_
   cases e
   intro q hq
   have c1:=sr.cr
   have c2:CR X.K (ι++[q]) (upd H q (.dT [])) (C++[.dtt [] []]):=c1.add hq ⟨[],Za0,rfl,.nil⟩
   have x:Ex ι [q] H (upd H q (.dT [])):=⟨Fr.new hq,fun b hb=>by
    have:b=q:=by simpa using hb
    subst this;exact hq⟩
   refine d [q] _ _ x ((sr.ex x c2).set n ⟨q,rfl,?_⟩)
   rw[←c1.len];simp
theorem q_sm_setixT {spos:Pos}(hu:X.A.units + 64 < cLine)(hv:QEM X e fv)(ho:QEM X o fo)(hi:QEM X i fi)
  (hs:Vk e (some (.Subscript o i spos)) pos.line X.env=pure false:=by rfl):QSM X (.Assign [.Subscript o i spos] e pos) (mSetIxT fv fo fi):=by
 subst_eqs
 exact PS.imp (ps_dput (by lia) ho hi hv hs) fun D σ H h_=>by
    obtain ⟨ι,ρ,C,fl,C',sr,e,d⟩:=h_
    obtain ⟨v,C1,e1,g1⟩:=Zag e
    obtain ⟨o,C2,e2,g2⟩:=Zag g1
    obtain ⟨i,C3,e3,g3⟩:=Zag g2
    obtain ⟨k,qs,p',ks,ps,key,ho,hi,hv,hc,hj,hlen,hf,hC⟩:=setT_some g3
    clear e g1 g2 g3
    subst ho hi hv hf hC
    refine ⟨ι,ρ,C,_,C1,sr,e1,fun x H1 f1 c1 r1=>⟨ι,ρ,C1,_,C2,sr.step f1 c1,e2,fun y H2 f2 c2 r2=>⟨ι,ρ,C2,_,C3,(sr.step f1 c1).step f2 c2,e3,fun w H3 f3 c3 r3=>?_⟩⟩⟩
    obtain ⟨a,rfl,hk⟩:=r2
    obtain ⟨vs,h1,hl,rv⟩:=(show CellOk X.K ι H3 a (.dtt ks ps) from c3.ok k a _ hk hc)
    obtain ⟨b,rfl,hb⟩:=rep_tupKeys (show Rep X.K ι H3 (.tup qs) w from r3) hj
    have r1':Rep X.K ι H3 p' x:=Rep.mono c2 f3 _ _ (Rep.mono c1 f2 _ _ r1)
    obtain ⟨z1,z2⟩:=put_zip (k:=key) (v:=x) hl
    have fr:Fr ι H3 (upd H3 a (.dT (putK (ks.zip vs) key x))):=fun b u n e=>by
     rw[Zas (fun z=>n (by rw[z];exact Xd hk))];exact e
    have c4:CR X.K ι (upd H3 a (.dT (putK (ks.zip vs) key x))) (C3.set k (.dtt (putKs ks key) (putVs ks ps key p'))):=
     c3.put hk ⟨putVs ks vs key x,by rw[←z1];exact Za0,z2,Reps.mono c3 fr _ _ (reps_put r1' rv)⟩
    refine ⟨a,_,rfl,DPut.t h1 hb (by rw[List.length_zip,YE];lia),?_⟩
    exact Done.nx0 ((((sr.step f1 c1).step f2 c2).step f3 c3).step fr c4) (d.fr c4 (f1.trans (f2.trans (f3.trans fr))))
end
end Pu
namespace Pu
open PySem PySem.Spec PySem.W PySem.Calls L2
open PyProof.Rows hiding St Fr
section
variable {X:Cx}{a b e:Expr}{fa fb:PSt->M SV}{pos p:Pos}{es:List Expr}{fs:PSt->M (List SV)}
theorem Zb4 (ha:QEM X a fa)(hb:QEM X b fb):QEM X (.BinOp a .Mult b pos) (mOp (g2 mulSP) fa fb):=by
 subst_eqs
 exact em_op op_mulS mulS_ok.r ha hb
end
end Pu
namespace Pu
open PySem PySem.Spec PySem.W PySem.Calls L2 PySem.SeqAt
open PyProof.Rows hiding St Fr
section
variable {X:Cx}
theorem q_fm_sorted3 {e:Expr}{es:List Expr}{fs:PSt->M (List SV)}{p pos:Pos}(hcm:X.calm=true)(hu:X.A.units + 64 < cLine)(hgl:Gl X "sorted")(hm:X.mg "sorted"=none)(hv:YX "sorted"=some (.builtin "sorted"))(ha:QAM X (e::es) fs)
  (he:Yg (e::es) X.env=(false,eval e X.env)::Yg es X.env:=by rfl) (hpl:(backTo pos (Yg es X.env)).any (·.1)=false:=by rfl):QFM X (.Call (.Name "sorted" p) (e::es) [] pos) (mSorted3 fs):=by
 subst_eqs
 exact PE.imp (PE.or (fm_sorted2 (p:=p) (pos:=pos) hcm hu hgl hm hv ha he hpl) (pe_callB (call_sortedK hcm hu) hgl hm hv ha (by decide) (by decide) he hpl)) fun σ H Q h_=>by
    obtain ⟨ι,ρ,C,z,C',sr,e,q⟩:=h_
    obtain ⟨xs,C1,e1,e⟩:=Zag e
    obtain ⟨e2,rfl⟩:=Zav e
    unfold sortedH3 at e2
    split at e2
    ·rename_i x
     split at e2
     ·rename_i ks vs hd
      split at e2
      ·rename_i qs hk
       by_cases ho:qs.all keyOk=true
       ·rw[if_pos ho] at e2
        refine .inr ⟨ι,ρ,C,[x],_,sr,e1,fun vs H1 f1 c1 r1=>?_⟩
        obtain ⟨v,w,rfl,r1,hw⟩:=r1
        cases (show w=[] from hw)
        obtain ⟨a,qs',ws,rfl,rfl,hd',hl,r⟩:=liesD (r1.lies c1 hd)
        rw[keysP_kP] at hk
        cases hk
        have ek:((qs.zip ws).map fun q=>kP q.1)=qs.map kP:=by
         have:(qs.zip ws).map V6=qs:=WC (by lia)
         exact (Y9 (f:=V6) (g:=kP) (l:=qs.zip ws)).symm.trans (by rw[this])
        have ev:((qs.zip ws).map fun q=>kV q.1)=qs.map kV:=by
         have:(qs.zip ws).map V6=qs:=WC (by lia)
         exact (Y9 (f:=V6) (g:=kV) (l:=qs.zip ws)).symm.trans (by rw[this])
        have ef:(qs.zip ws).map (·.1)=qs:=WC (by lia)
        refine ⟨a,qs.zip ws,rfl,hd',by rw[ef];exact ho,by rw[ek,e2];rfl,fun l hl=>?_⟩
        refine q l _ H1 f1 c1 hl ?_
        rw[Zcz e2,ek,ev]
        exact Zb1 (reps_kP ho) fun i hi=>ZbB i hi
       ·rw[if_neg ho] at e2;cases e2
      ·cases e2
     ·exact .inl ⟨ι,ρ,C,z,_,sr,by unfold mSorted2;show bnd (fs ρ) _ C=_;unfold bnd;rw[e1];show opM _ _=_;unfold opM;dsimp only;rw[e2],q⟩
    ·cases e2
end
end Pu
namespace Pu
open PySem PySem.Spec L2
open PyProof.Rows hiding St Fr
section
variable {X:Cx}{l:Expr}{elts:List Expr}{x1:Nat}{tpos p pos:Pos}
theorem q_im_enum {fs:PSt->M (List SV)}(hg:Gl X "enumerate")(hm:X.mg "enumerate"=none)(ha:QAM X [l] fs)(hs:Yg [l] X.env=[(false,eval l X.env)]:=by rfl):QIM X (.Tuple elts x1 tpos) (.Call (.Name "enumerate" p) [l] [] pos) (mEnum fs):=by
 subst_eqs
 exact PI.imp (pi_enum hg hm ha hs) fun σ H R h_=>by
    obtain ⟨ι,ρ,C,xs,C',sr,e,q⟩:=h_
    obtain ⟨zs,C1,e1,g1⟩:=Zag e
    obtain ⟨e2,hC⟩:=Zav g1
    subst hC
    refine ⟨ι,ρ,C,zs,_,sr,e1,fun vs H1 f1 c1 r1=>?_⟩
    unfold enumP at e2
    split at e2
    ·cases e2
     obtain ⟨v,w,rfl,r1,hw⟩:=r1
     cases (show w=[] from hw)
     replace r1:Rep X.K ι H1 (.lst _) v:=r1
     unfold Rep at r1
     obtain ⟨a,vs,rfl,hq,rv⟩:=r1
     exact ⟨a,rfl,⟨vs,hq.sq⟩,q _ H1 f1 c1 (iter_enum c1 hq rv)⟩
    ·cases e2
end
end Pu
namespace Pu
open PySem PySem.Spec PySem.W PySem.Calls L2
open PyProof.Rows hiding St Fr strKind
open PySem.Builtin.Str (partsBetween occurrences strKind)
section
variable {X:Cx}{e:Expr}{es:List Expr}{f:PSt->M SV}{fs:PSt->M (List SV)}{p pos:Pos}
theorem q_sm_raise {a b:Option Expr}:QSM X (.Raise a b pos) mNo:=by
 subst_eqs
 exact fun pins s σ H D I h_=>by obtain ⟨ι,ρ,C,fl,C',sr,e,d⟩:=h_;cases e
theorem ZbA (hgl:Gl X "str")(hm:X.mg "str"=none)(hv:YX "str"=some (.type "str"))(ha:QAM X (e::es) fs)
  (he:Yg (e::es) X.env=(false,eval e X.env)::Yg es X.env:=by rfl) (hpl:(backTo pos (Yg es X.env)).any (·.1)=false:=by rfl):QEM X (.Call (.Name "str" p) (e::es) [] pos) (mCB (g1 strH) fs):=by
 subst_eqs
 exact Zcc call_strR strc_ok.c hgl hm hv ha (by decide) (by decide) he hpl
theorem q_em_intT (hgl:Gl X "int")(hm:X.mg "int"=none)(hv:YX "int"=some (.type "int"))(ha:QAM X (e::es) fs)
  (he:Yg (e::es) X.env=(false,eval e X.env)::Yg es X.env:=by rfl) (hpl:(backTo pos (Yg es X.env)).any (·.1)=false:=by rfl):QEM X (.Call (.Name "int" p) (e::es) [] pos) (mCB (g1 intTH) fs):=by
 subst_eqs
 exact Zcc call_intR intT_ok.c hgl hm hv ha (by decide) (by decide) he hpl
variable {o:Expr}{fo:PSt->M SV}{apos cpos:Pos}
theorem Zdj (ho:QEM X o fo)(ha:QAM X (e::es) fs)(hbase:XM o "split" X.env (eval o X.env)=eval o X.env:=by rfl)
  (hfew:((backTo cpos (Yg (e::es) X.env)).all (fun x=>!x.1)&&(Vx cpos (Wt [] X.env)).all (fun x=>x.1.isSome)
   &&decide ((e::es).length + ([]:List Wu).length + (if ([]:List Wu).isEmpty then 0 else 1) < 30))=true:=by rfl)
  (hline:(apos.endLine==cpos.line)=true:=by rfl) (hs:Yg (e::es) X.env=(false,eval e X.env)::Yg es X.env:=by rfl) (hplain:(backTo cpos (Yg es X.env)).any (·.1)=false:=by rfl):
  QEM X (.Call (.Attribute o "split" apos) (e::es) [] cpos) (mMt "str" splitH fo fs):=by
 subst_eqs
 exact em_mt W0 PySem.F.slot_str_split PySem.F.type_str_split mt_split split_ok ho ha hbase hfew hline hs hplain
theorem Za3 (h:QEM X e f):QEM X (.FormattedValue e (-1) none pos) (mFmt f):=by
 subst_eqs
 intro pins s σ H Q I h_
 obtain ⟨ι,ρ,C,z,C',sr,e0,q⟩:=h_
 obtain ⟨x,C1,e1,g1⟩:=Zag e0
 obtain ⟨e3,hC⟩:=Zav g1
 subst hC
 refine FormattedValue_plain (thn (h pins s σ H (fun v H1=>Pu.Fr ι H H1/\CR X.K ι H1 C'/\RepS X.K ι H1 x v) I ⟨ι,ρ,C,x,C',sr,e1,fun v H1 f1 c1 r1=>⟨f1,c1,r1⟩⟩) fun v s1 h_=>?_)
 obtain ⟨y,H1,I1,r1,f1,c1,rx⟩:=h_
 unfold fmtH at e3
 split at e3
 ·rename_i i hd
  split at e3
  ·rename_i hi
   cases e3
   have l:=rx.lies c1 hd
   cases l
   obtain ⟨t,rfl⟩:=r1
   refine formatField_int_small hi ⟨.str _,H1,(I1.tok _).tok _,⟨_,rfl⟩,q _ H1 f1 c1 (show Rep X.K ι H1 (.str (numS i)) _ from repS (num_fits hi))⟩
  ·cases e3
 ·rename_i y hd
  cases e3
  obtain ⟨rfl,hy⟩:=liesS (rx.lies c1 hd)
  obtain ⟨t,rfl⟩:=r1
  exact formatField_str (fun t' tk=>⟨.str _,H1,I1.tok _,⟨_,rfl⟩,q _ H1 f1 c1 (show Rep X.K ι H1 (.str y) _ from repS hy)⟩) hy
 ·cases e3
theorem q_em_joined1 (h:QEM X e f):QEM X (.JoinedStr [e] pos) f:=by
 subst_eqs
 exact fun pins s σ H Q I q=>JoinedStr_one (h pins s σ H Q I q)
theorem Zb2:QJM X [] aNil:=by
 subst_eqs
 exact fun pins s σ H Q out I h_=>by
   obtain ⟨ι,ρ,C,xs,C',z,sr,e,ez,ho,q⟩:=h_
   cases e
   cases ez
   exact joinParts_nil ⟨.str _,H,I.tok _,⟨_,rfl⟩,q H .refl sr.cr (repS (k1000000 ho))⟩ (k1000000 ho)
theorem Zaz {f:PSt->M SV}{g:PSt->M (List SV)}(h:QEM X e f)(k:QJM X es g):QJM X (e::es) (aCons f g):=by
 subst_eqs
 exact fun pins s σ H Q out I h_=>by
   obtain ⟨ι,ρ,C,xs,C',z,sr,e0,ez,ho,q⟩:=h_
   obtain ⟨x,C1,e1,e2⟩:=Zag e0
   obtain ⟨ys,C2,e3,e4⟩:=Zag e2
   cases e4
   have hx:∃y:Str,x=.v (.str y)/\(out++y).length<=1000000/\catS (out++y) ys=some z:=by
    cases x with
    | c k=>cases ez
    | v p=>
     cases p with
     | str y=>
      by_cases hl:(out++y).length<=1000000
      ·exact ⟨y,rfl,hl,by rw[catS,if_pos hl] at ez;exact ez⟩
      ·rw[catS,if_neg hl] at ez;cases ez
     | _=>cases ez
   obtain ⟨y,rfl,hl,ez'⟩:=hx
   refine joinParts_cons (thn (h pins s σ H (fun v H1=>Pu.Fr ι H H1/\CR X.K ι H1 C1/\RepS X.K ι H1 (.v (.str y)) v) I ⟨ι,ρ,C,_,C1,sr,e1,fun v H1 f1 c1 r1=>⟨f1,c1,r1⟩⟩) fun v s1 h_=>?_)
   obtain ⟨w,H1,I1,r1,f1,c1,rx⟩:=h_
   have hw:w=.str y:=by unfold RepS Rep at rx;exact rx.1
   subst hw
   obtain ⟨t,rfl⟩:=r1
   exact ⟨k1000000 hl,k pins s1 σ H1 Q (out++y) I1 ⟨ι,ρ,C1,ys,_,z,sr.step f1 c1,e3,ez',hl,fun H2 f2 c2 r2=>q H2 (f1.trans f2) c2 r2⟩⟩
theorem Zbc {e2:Expr}(h:QJM X (e::e2::es) fs):QEM X (.JoinedStr (e::e2::es) pos) (mJoined fs):=by
 subst_eqs
 exact fun pins s σ H Q I h_=>by
   obtain ⟨ι,ρ,C,z,C',sr,e0,q⟩:=h_
   obtain ⟨xs,C1,e1,g1⟩:=Zag e0
   obtain ⟨e3,hC⟩:=Zav g1
   subst hC
   cases hz:catS YW xs with
   | none=>rw[hz] at e3;cases e3
   | some y=>
    rw[hz] at e3;cases e3
    exact JoinedStr_many (h pins s σ H Q YW I ⟨ι,ρ,C,xs,_,y,sr,e1,hz,by decide,fun H' f c r=>q _ H' f c r⟩)
theorem q_em_mulT {a b:Expr}{fa fb:PSt->M SV}(ha:QEM X a fa)(hb:QEM X b fb):QEM X (.BinOp a .Mult b pos) (mOp (g2 mulTP) fa fb):=by
 subst_eqs
 exact em_op op_mulT mulT_ok.r ha hb
theorem q_em_sliceS {lo hi:Option Expr}{l h:PSt->M (Option Int)}{fa:PSt->M SV}{p2:Pos}(he:QEM X e fa)(hl:QOM X lo l)(hh:QOM X hi h):QEM X (.Subscript e (.Slice lo hi none p2) pos) (mSliceS fa l h):=by
 subst_eqs
 exact PE.imp (pe_slice sl_str he hl hh) fun σ H Q h_=>by
    obtain ⟨ι,ρ,C,z,C',sr,e,q⟩:=h_
    obtain ⟨x,C1,e1,g1⟩:=Zag e
    obtain ⟨i,C2,e2,g2⟩:=Zag g1
    obtain ⟨j,C3,e3,g3⟩:=Zag g2
    obtain ⟨e4,hC⟩:=Zav g3
    subst hC
    clear e g1 g2 g3
    refine ⟨ι,ρ,C,x,C1,sr,e1,fun v H1 f1 c1 r1=>⟨ι,ρ,C1,i,C2,sr.step f1 c1,e2,fun H2 f2 c2=>⟨ι,ρ,C2,j,_,(sr.step f1 c1).step f2 c2,e3,fun H3 f3 c3=>?_⟩⟩⟩
    have fr:=f1.trans (f2.trans f3)
    have r3:=(r1.mono c1 f2).mono c2 f3
    unfold sliceSD at e4
    split at e4
    ·rename_i y hd
     cases e4
     obtain ⟨rfl,hy⟩:=liesS (r3.lies c3 hd)
     exact ⟨y,rfl,hy,q _ H3 fr c3 (show Rep X.K ι H3 (.str _) _ from repS (YB (Txt.slice_le _ _ _) hy))⟩
    ·cases e4
theorem q_em_fdivW {a b:Expr}{fa fb:PSt->M SV}(ha:QEM X a fa)(hb:QEM X b fb):QEM X (.BinOp a .FloorDiv b pos) (mOp (g2 fdivWP) fa fb):=by
 subst_eqs
 exact em_op op_fdivW (int_ok fun i j h=>(of_decide_eq_true h:0 < j/\j < 2 ^ 200)).r ha hb
end
end Pu
namespace Pu
open PySem PySem.Spec PySem.W PySem.Calls L2
open PyProof.Rows hiding St Fr
section
variable {X:Cx}{e o:Expr}{es:List Expr}{f fo fa:PSt->M SV}{fs:PSt->M (List SV)}{p pos apos cpos:Pos}
theorem q_em_ends (ho:QEM X o fo)(ha:QAM X (e::es) fs)(hbase:XM o "endswith" X.env (eval o X.env)=eval o X.env:=by rfl)
  (hfew:((backTo cpos (Yg (e::es) X.env)).all (fun x=>!x.1)&&(Vx cpos (Wt [] X.env)).all (fun x=>x.1.isSome)
   &&decide ((e::es).length + ([]:List Wu).length + (if ([]:List Wu).isEmpty then 0 else 1) < 30))=true:=by rfl)
  (hline:(apos.endLine==cpos.line)=true:=by rfl) (hs:Yg (e::es) X.env=(false,eval e X.env)::Yg es X.env:=by rfl) (hplain:(backTo cpos (Yg es X.env)).any (·.1)=false:=by rfl):
  QEM X (.Call (.Attribute o "endswith" apos) (e::es) [] cpos) (mMt "str" endsH fo fs):=by
 subst_eqs
 exact em_mt W0 PySem.F.slot_str_endswith PySem.F.type_str_endswith mt_ends ends_ok ho ha hbase hfew hline hs hplain
theorem q_sm_augS {i:Nat}{x:Str}{pos':Pos}(hN:X.N.Nodup)(hi:X.N[i]? = some x)(hx:Loc X.env.scope x)(h:QEM X e f)(hf:X.fn x=true\/X.env.scope.names.lookup x=some .local:=by first | exact .inl rfl | exact .inr rfl | assumption):
  QSM X (.AugAssign (.Name x pos') .Add e pos) (mAugS i f):=by
 subst_eqs
 exact PS.imp (ps_aug hN hi hx h (ho:=iop_add_str) hf) fun D σ H h_=>by
    obtain ⟨ι,ρ,C,fl,C',sr,e0,d⟩:=h_
    obtain ⟨x,C1,e1,g1⟩:=Zag e0
    obtain ⟨y,C2,e2,g2⟩:=Zag g1
    obtain ⟨z,C3,e3,g3⟩:=Zag g2
    obtain ⟨e4,hC⟩:=Zav e3
    subst hC
    cases g3
    unfold augS at e4
    split at e4
    ·rename_i a b hd
     split at e4
     ·rename_i hl
      cases e4
      unfold mVar at e1
      split at e1
      ·rename_i w hw
       cases e1
       obtain ⟨v,hv,rv⟩:=sr.loc i _ hw
       have hv2:v=.str a/\a.length<=sizeLine:=by unfold RepS Rep at rv;exact rv
       obtain ⟨rfl,ha⟩:=hv2
       refine ⟨.str a,hv,ι,ρ,_,y,C',sr,e2,fun u H1 f1 c1 r1=>?_⟩
       obtain ⟨rfl,hb⟩:=liesS (r1.lies c1 hd)
       exact ⟨a,b,rfl,rfl,k1000000 hl,Done.nx0 ((sr.step f1 c1).set i (show RepS X.K ι H1 (.v (.str (a++b))) (.str (a++b)) from (show Rep X.K ι H1 (.str (a++b)) (.str (a++b)) from repS (by rw[XZ];exact k1000000 hl)))) (d.fr c1 f1)⟩
      ·cases e1
     ·cases e4
    ·cases e4
theorem q_em_insert (ho:QEM X o fo)(ha:QAM X (e::es) fs)(hbase:XM o "insert" X.env (eval o X.env)=eval o X.env:=by rfl)
  (hfew:((backTo cpos (Yg (e::es) X.env)).all (fun x=>!x.1)&&(Vx cpos (Wt [] X.env)).all (fun x=>x.1.isSome)
   &&decide ((e::es).length + ([]:List Wu).length + (if ([]:List Wu).isEmpty then 0 else 1) < 30))=true:=by rfl)
  (hline:(apos.endLine==cpos.line)=true:=by rfl) (hs:Yg (e::es) X.env=(false,eval e X.env)::Yg es X.env:=by rfl) (hplain:(backTo cpos (Yg es X.env)).any (·.1)=false:=by rfl):
  QEM X (.Call (.Attribute o "insert" apos) (e::es) [] cpos) (mIns fo fs):=by
 subst_eqs
 exact PE.imp (pe_bm WV PySem.F.slot_list_insert PySem.F.type_list_insert mt_ins ho ha hbase hfew hline hs hplain) fun σ H Q h_=>by
    obtain ⟨ι,ρ,C,z,C',sr,e,q⟩:=h_
    obtain ⟨x,C1,e1,g1⟩:=Zag e
    obtain ⟨u,C2,e2,g2⟩:=Zag g1
    obtain ⟨ys,C3,e3,g3⟩:=Zag g2
    obtain ⟨hC,k,ps0,hx,hc0⟩:=Zdo e2
    obtain ⟨k',n,p',ps,hx',hy,hc,hl,hr,hC'⟩:=insC_some g3
    clear e g1 g2 g3 e2
    subst hC hx hr hC' hy
    cases hx'
    refine ⟨ι,ρ,C,_,_,sr,e1,fun v H1 f1 c1 r1=>?_⟩
    obtain ⟨a,rfl,hk⟩:=r1
    obtain ⟨vs0,h0,_⟩:=Zcd c1 hk hc0
    refine ⟨.inl ⟨rfl,_,.of h0⟩,ι,ρ,_,_,C3,sr.step f1 c1,e3,fun ws H2 f2 c2 r2=>?_⟩
    obtain ⟨w0,wr,rfl,rw0,w,wr2,rfl,rw1,hw⟩:=r2
    cases (show wr2=[] from hw)
    have hw0:w0=.int n:=by unfold RepS Rep at rw0;exact rw0
    subst hw0
    obtain ⟨vs,h1,rv⟩:=Zcd c2 hk hc
    obtain ⟨c4,f4⟩:=cr_set c2 hk ((rv.take n.toNat).append (.cons rw1 (rv.drop n.toNat)))
    exact ⟨a,vs,n,w,rfl,rfl,h1,hl.1,by rw[←rv.length];exact hl.2.1,by rw[←rv.length];lia,q _ _ (f1.trans (f2.trans f4)) c4 (show Rep _ _ _ _ _ from repN)⟩
theorem Zbs {lo hi:Option Expr}{l h:PSt->M (Option Int)}{p2:Pos}(he:QEM X e fa)(hl:QOM X lo l)(hh:QOM X hi h):QEM X (.Subscript e (.Slice lo hi none p2) pos) (mSliceA fa l h):=by
 subst_eqs
 exact PE.imp (pe_slice (SlR.or sl_str (SlR.or sl_list (SlR.or sl_tup sl_tupW))) he hl hh) fun σ H Q h_=>by
    obtain ⟨ι,ρ,C,z,C',sr,e,q⟩:=h_
    obtain ⟨x,C1,e1,g1⟩:=Zag e
    obtain ⟨i,C2,e2,g2⟩:=Zag g1
    obtain ⟨j,C3,e3,g3⟩:=Zag g2
    obtain ⟨e4,hC⟩:=Zav g3
    subst hC
    clear e g1 g2 g3
    refine ⟨ι,ρ,C,x,C1,sr,e1,fun v H1 f1 c1 r1=>⟨ι,ρ,C1,i,C2,sr.step f1 c1,e2,fun H2 f2 c2=>⟨ι,ρ,C2,j,_,(sr.step f1 c1).step f2 c2,e3,fun H3 f3 c3=>?_⟩⟩⟩
    have fr:=f1.trans (f2.trans f3)
    have r3:=(r1.mono c1 f2).mono c2 f3
    unfold sliceAD at e4
    split at e4
    ·rename_i y hd
     cases e4
     obtain ⟨rfl,hy⟩:=liesS (r3.lies c3 hd)
     exact .inl ⟨y,rfl,hy,q _ H3 fr c3 (show Rep X.K ι H3 (.str _) _ from repS (YB (Txt.slice_le _ _ _) hy))⟩
    ·rename_i p hn hd
     have e5:sliceD C' x i j=some z:=by unfold sliceD;rw[hd];exact e4
     rcases ZcP e5 with ⟨xs,hd,rfl⟩ | ⟨xs,hd,rfl⟩
     ·obtain ⟨a,vs,rfl,h1,rv⟩:=liesL (r3.lies c3 hd)
      exact .inr (.inl ⟨a,vs,rfl,h1,fun p hp=>q _ _ (fr.trans (Fr.new hp)) (c3.new hp) (show Rep _ _ _ _ _ from Zcj c3 hp (ZcA rv i j))⟩)
     ·obtain ⟨a,vs,rfl,h1,rv⟩:=liesT (r3.lies c3 hd)
      by_cases hw:HT.sIx vs.length 0 i=0/\HT.sIx vs.length vs.length j=vs.length
      ·refine .inr (.inr (.inr ⟨a,vs,rfl,h1.sq,hw,?_⟩))
       rw[←rv.length] at hw
       rw[cut_whole hw] at q
       exact q _ H3 fr c3 (show Rep _ _ _ _ _ by unfold Rep;exact ⟨a,vs,rfl,h1,rv⟩)
      ·exact .inr (.inr (.inl ⟨a,vs,rfl,h1.sq,hw,fun p hp=>q _ _ (fr.trans (Fr.new hp)) (c3.new hp) (show Rep _ _ _ _ _ from Zck hp (ZcA rv i j))⟩))
    ·cases e4
theorem q_fm_cat {a b:Expr}{fb:PSt->M SV}(ha:QEM X a fa)(hb:QEM X b fb):QFM X (.BinOp a .Add b pos) (mCatL fa fb):=by
 subst_eqs
 exact PE.imp (pe_op op_catL ha hb) fun σ H Q h_=>by
    obtain ⟨ι,ρ,C,z,C',sr,e,q⟩:=h_
    obtain ⟨x,C1,e1,g1⟩:=Zag e
    obtain ⟨y,C2,e2,g2⟩:=Zag g1
    obtain ⟨e4,hC⟩:=Zav g2
    subst hC
    refine ⟨ι,ρ,C,x,C1,sr,e1,fun v H1 f1 c1 r1=>⟨ι,ρ,C1,y,_,sr.step f1 c1,e2,fun w H2 f2 c2 r2=>?_⟩⟩
    unfold catL2 at e4
    split at e4
    ·rename_i xs ys hx hy
     split at e4
     ·rename_i hl
      cases e4
      obtain ⟨a,vs,rfl,h1,rv⟩:=liesL ((r1.mono c1 f2).lies c2 hx)
      obtain ⟨b,ws,rfl,h2,rw⟩:=liesL (r2.lies c2 hy)
      exact ⟨a,b,vs,ws,rfl,rfl,h1,h2,by rw[←rv.length,←rw.length];exact k1000000 (by lia),fun p hp=>q p _ H2 (f1.trans f2) c2 hp (rv.append rw)⟩
     ·cases e4
    ·cases e4
end
end Pu
namespace Pu
open PySem PySem.Spec L2
open PyProof.Rows hiding St Fr
section
variable {X:Cx}{e:Expr}{es:List Expr}{fs:PSt->M (List SV)}{p pos:Pos}{TT:List (Addr×List Str)}
theorem q_em_lenT (hT:TupT X.K TT)(hgl:Gl X "len")(hm:X.mg "len"=none)(ha:QAM X (e::es) fs)
  (he:Yg (e::es) X.env=(false,eval e X.env)::Yg es X.env:=by rfl) (hpl:(backTo pos (Yg es X.env)).any (·.1)=false:=by rfl):QEM X (.Call (.Name "len" p) (e::es) [] pos) (mCB (g1 (lenTH TT)) fs):=by
 subst_eqs
 exact ZbO call_len (lenT_ok hT).c hgl hm PySem.boot_len ha (by decide) (by decide) he hpl
end
theorem q_im_zipT {X:Cx}{TT:List (Addr×List Str)}(hT:TupT X.K TT){a b:Expr}{fs:PSt->M (List SV)}{elts:List Expr}{x1:Nat}{tpos p pos:Pos}(hg:Gl X "zip")(hm:X.mg "zip"=none)(ha:QAM X [a,b] fs)
  (hs:Yg [a,b] X.env=[(false,eval a X.env),(false,eval b X.env)]:=by rfl) (hs2:Yg [b] X.env=[(false,eval b X.env)]:=by rfl):QIM X (.Tuple elts x1 tpos) (.Call (.Name "zip" p) [a,b] [] pos) (mZipT TT fs):=by
 subst_eqs
 intro pins s σ H R I h_
 obtain ⟨ι,ρ,C,xs,C',sr,e,q⟩:=h_
 obtain ⟨zs,C1,e1,g1⟩:=Zag e
 obtain ⟨e2,hC⟩:=Zav g1
 subst hC
 obtain ⟨x,y,ps,qs,rfl,hx,hy,rfl⟩:=zipTP_some e2
 refine Call_ (Zc1 I hg hm 1e0 (Xm (thn (ha pos pins s σ H (fun vs H1=>Fr ι H H1/\CR X.K ι H1 C'/\RepSs X.K ι H1 [x,y] vs) I ⟨ι,ρ,C,_,C',sr,e1,fun vs H1 f1 c1 r1=>⟨f1,c1,r1⟩⟩) fun us s1 ⟨vs,H1,I1,r1,f1,c1,rs⟩=>?_) (by rw[hs,hs2]) (by rw[hs2];rfl)))
 obtain ⟨v1,w,rfl,rx,hw⟩:=rs
 obtain ⟨v2,w2,rfl,ry,hw⟩:=hw
 cases (show w2=[] from hw)
 obtain ⟨u1,u2,rfl,ru1,ru2⟩:=Vals.two r1
 obtain ⟨S1,rfl,hS1,Z1⟩:=src_T hT I1 rx hx ru1
 obtain ⟨S2,rfl,hS2,Z2⟩:=src_of I1 c1 ry hy ru2
 refine callType_new PySem.F.called_zip (by decide) (PySem.F.typeCall_zip_2 _ _) (PySem.F.newCall_zip_2 _ _) (fun obj=>Vw obj _ _) PySem.F.entry_zip_new (zip_new S1 S2) ⟨hS1,hS2,?_⟩
 have z1:(s1.heap.push S1.obj).objs.size=s1.heap.objs.size + 1:=Xu ..
 have z2:((s1.heap.push S1.obj).push S2.obj).objs.size=s1.heap.objs.size + 2:=by rw[Xu,z1]
 have z3:(zH3 s1.heap S1 S2).objs.size=s1.heap.objs.size + 3:=by rw[Xu,z2]
 have z4:(zH4 s1.heap S1 S2).objs.size=s1.heap.objs.size + 4:=by rw[Xu,z3]
 have up:∀c o,s1.heap.get? c=some o->(zH5 s1.heap S1 S2).get? c=some o:=fun c o x=>Yb _ (Yb _ (Yb _ (Yb _ (Yb _ x))))
 have g5:(zH5 s1.heap S1 S2).get? (zH4 s1.heap S1 S2).objs.size=some _:=Yh _ rfl
 have g4:(zH5 s1.heap S1 S2).get? (zH3 s1.heap S1 S2).objs.size=some _:=Yb _ (Yh _ rfl)
 have g3:(zH5 s1.heap S1 S2).get? ((s1.heap.push S1.obj).push S2.obj).objs.size=some _:=Yb _ (Yb _ (Yh _ rfl))
 have g2:(zH5 s1.heap S1 S2).get? (s1.heap.push S1.obj).objs.size=some _:=Yb _ (Yb _ (Yb _ (Yh _ (by cases S2<;>rfl))))
 have g1:(zH5 s1.heap S1 S2).get? s1.heap.objs.size=some _:=Yb _ (Yb _ (Yb _ (Yb _ (Yh _ (by cases S1<;>rfl)))))
 show _/\_
 rw[z2,z3,z4] at g5
 rw[z1,z2] at g3
 rw[z3] at g4
 rw[z1] at g2
 rw[z4]
 have at0:∀{S:ZS} {it:Addr} {h:Heap},h.get? it=some S.obj->S.at' it 0 h:=fun {S it h} e=>by
  cases S with
  | l a=>exact ⟨_,e,rfl,rfl⟩
  | t a=>exact ⟨_,e,rfl,rfl⟩
  | s z tk wd=>exact ⟨_,e,rfl,rfl⟩
 have J:Inv X pins σ H1 { s1 with heap:=zH5 s1.heap S1 S2 }:=I1.kept (t':=s1.toks) up
 refine ⟨⟨_,g5,rfl⟩,VJ g5 ⟨s1.heap.objs.size + 4,[s1.heap.objs.size + 4,s1.heap.objs.size + 2,s1.heap.objs.size + 3,s1.heap.objs.size,s1.heap.objs.size + 1],_,_,H1,rfl,J,
  turn_zip (S1:=S1) (S2:=S2) (zne s1.heap.objs.size),⟨g5,g3,⟨_,_,g4⟩,at0 g1,at0 g2⟩,fun b hb=>?_,q _ H1 f1 c1 (iter_zip Z1 Z2)⟩⟩
 have hb':s1.heap.objs.size<=b:=by
  simp only[Ye,Yt,or_false] at hb
  rcases hb with rfl | rfl | rfl | rfl | rfl<;>lia
 exact I1.fpOk hb' (I1.hok.fresh hb')
end Pu
namespace Pu
open PySem PySem.Spec PySem.Calls L2
open PyProof.Rows hiding St Fr
section
variable {X:Cx}{es:List Expr}{pos:Pos}
theorem q_gm_lst {gs:List PV->PSt->Option PSt}{k n:Nat}(hc:X.calm=true)(h:QGMs X es gs)(hn:(Xg es X.env).length=n:=by rfl)(hst:(Xg es X.env).findIdx? (·.1)=none:=by rfl):QGM X (.Tuple es k pos) (hLst gs n):=by
 subst_eqs
 exact PG.imp (pg_lst hc h hn hst) fun v σ H Q h_=>by
    obtain ⟨ι,ρ,C,p,ρ',sr,r,e,q⟩:=h_
    cases p with
    | lst ps=>
     unfold Rep at r
     obtain ⟨a,vs,rfl,sq,rs⟩:=r
     replace e:(if ps.length=n then gs ps ρ else none)=some ρ':=e
     by_cases hl:ps.length=n
     ·rw[if_pos hl] at e
      exact ⟨a,vs,rfl,sq.sq,by rw[←rs.length];exact hl,ι,ρ,C,ps,ρ',sr,rs,e,q⟩
     ·rw[if_neg hl] at e;cases e
    | _=>cases e
end
end Pu
namespace K80
open PySem PySem.Spec L2 Pu
open PyProof.Rows hiding St Fr
def Zbm (f_qaz f_qbk f_qbj f_qbh f_qbi:Addr):List (Str×Addr):=[("join",f_qaz),("say",f_qbk),("do",f_qbj),("free",f_qbh),("ready",f_qbh),("hand",f_qbi),("quit",f_qbh),("note",f_qaz)]
def Zax (f_DEED_FORMS_0 f_DEED_FORMS_1 f_DEED_FORMS_2 f_DEED_FORMS_3 f_DEED_FORMS_4 f_DEED_FORMS_5 f_DEED_FORMS_6 f_DEED_FORMS_7:Addr):List (Str×Addr):=[("join",f_DEED_FORMS_0),("say",f_DEED_FORMS_1),("do",f_DEED_FORMS_2),("free",f_DEED_FORMS_3),("ready",f_DEED_FORMS_4),("hand",f_DEED_FORMS_5),("quit",f_DEED_FORMS_6),("note",f_DEED_FORMS_7)]
def Zan (f_DEED_FORMS_0 f_DEED_FORMS_1 f_DEED_FORMS_2 f_DEED_FORMS_3 f_DEED_FORMS_4 f_DEED_FORMS_5 f_DEED_FORMS_6 f_DEED_FORMS_7:Addr):List (Addr×List Str):=[(f_DEED_FORMS_0,[]),(f_DEED_FORMS_1,["word"]),(f_DEED_FORMS_2,["number","number"]),(f_DEED_FORMS_3,["number"]),(f_DEED_FORMS_4,["number"]),(f_DEED_FORMS_5,["number","to","word"]),(f_DEED_FORMS_6,["number"]),(f_DEED_FORMS_7,[])]
abbrev B_qbf:PSt->M PF:=(mRet (mAndV (mCB (g1 isiH) (aCons (mVar 0) (aCons (mC (.ty "int")) aNil))) (mAndV (mNotV (mCB (g1 isiH) (aCons (mVar 0) (aCons (mC (.ty "bool")) aNil)))) (mOp (g2 geP) (mVar 0) (mVar 1)))))
def F_qbf:List SV->M SV:=mDef 2 0 (B_qbf)
abbrev B_qbg:PSt->M PF:=(mRet (mAndV (mFn F_qbf (aCons (mVar 0) (aCons (mC (.int 0)) aNil))) (mOp (g2 ltP) (mVar 0) (mVar 1))))
def F_qbg:List SV->M SV:=mDef 2 0 (B_qbg)
abbrev B_qbl:PSt->M PF:=(mRet (mAndV (mCB (g1 isiH) (aCons (mVar 0) (aCons (mC (.ty "tuple")) aNil))) (mChain (g2 leP) (g2 leP) (mVar 1) (mCB (g1 lenH) (aCons (mVar 0) aNil)) (mVar 2))))
def F_qbl:List SV->M SV:=mDef 3 0 (B_qbl)
abbrev B_qbm:PSt->M PF:=(mSeq (mIfS (mOrT (mNotT (mTru (mCB (g1 isiH) (aCons (mVar 0) (aCons (mC (.ty "str")) aNil))))) (mNotT (mTest (mChain (g2 leP) (g2 leP) (mC (.int 1)) (mCB (g1 lenH) (aCons (mVar 0) aNil)) (mC (.int 12)))))) (mRet (mC (.bl false))) mSkip) (mRet (mCB (g1 allH) (aCons (mVal (mComp (mItems (mVar 0)) ["sign"] [] (hName 0) tOk (mOp (g2 inP) (mVar 0) (mC (.str "abcdefghijklmnopqrstuvwxyz"))))) aNil))))
def F_qbm:List SV->M SV:=mDef 1 0 (B_qbm)
abbrev B_qba:PSt->M PF:=(mRet (mFn F_qbg (aCons (mVar 0) (aCons (mC (.int 12)) aNil))))
def F_qba:List SV->M SV:=mDef 1 0 (B_qba)
abbrev B_qaz:PSt->M PF:=(mRet (mOp (g2 eqP) (mCB (g1 lenH) (aCons (mVar 0) aNil)) (mC (.int 0))))
def F_qaz:List SV->M SV:=mDef 1 0 (B_qaz)
abbrev B_qbk:PSt->M PF:=(mRet (mAndV (mOp (g2 eqP) (mCB (g1 lenH) (aCons (mVar 0) aNil)) (mC (.int 1))) (mFn F_qbm (aCons (mOp (g2 ixQ) (mVar 0) (mC (.int 0))) aNil))))
def F_qbk:List SV->M SV:=mDef 1 0 (B_qbk)
abbrev B_qbh:PSt->M PF:=(mRet (mAndV (mOp (g2 eqP) (mCB (g1 lenH) (aCons (mVar 0) aNil)) (mC (.int 1))) (mFn F_qba (aCons (mOp (g2 ixQ) (mVar 0) (mC (.int 0))) aNil))))
def F_qbh:List SV->M SV:=mDef 1 0 (B_qbh)
abbrev B_qbj:PSt->M PF:=(mRet (mAndV (mOp (g2 eqP) (mCB (g1 lenH) (aCons (mVar 0) aNil)) (mC (.int 2))) (mAndV (mFn F_qba (aCons (mOp (g2 ixQ) (mVar 0) (mC (.int 0))) aNil)) (mFn F_qbg (aCons (mOp (g2 ixQ) (mVar 0) (mC (.int 1))) (aCons (mC (.int 9)) aNil))))))
def F_qbj:List SV->M SV:=mDef 1 0 (B_qbj)
abbrev B_qbi:PSt->M PF:=(mRet (mAndV (mOp (g2 eqP) (mCB (g1 lenH) (aCons (mVar 0) aNil)) (mC (.int 2))) (mAndV (mFn F_qba (aCons (mOp (g2 ixQ) (mVar 0) (mC (.int 0))) aNil)) (mAndV (mFn F_qbm (aCons (mOp (g2 ixQ) (mVar 0) (mC (.int 1))) aNil)) (mOp (g2 neP) (mOp (g2 ixQ) (mVar 0) (mC (.int 1))) (mC (.str "bell")))))))
def F_qbi:List SV->M SV:=mDef 1 0 (B_qbi)
def ZaT (f_qaz f_qbk f_qbj f_qbh f_qbi:Addr):List (Addr×(List SV->M SV)):=[(f_qaz,F_qaz),(f_qbk,F_qbk),(f_qbj,F_qbj),(f_qbh,F_qbh),(f_qbi,F_qbi)]
abbrev B_qbb (d_DEEDS f_qaz f_qbk f_qbj f_qbh f_qbi:Addr):PSt->M PF:=(mSeq (mIfS (mOrT (mNotT (mTru (mCB (g1 isiH) (aCons (mVar 0) (aCons (mC (.ty "tuple")) aNil))))) (mOrT (mNotT (mTru (mVar 0))) (mOrT (mNotT (mTru (mCB (g1 isiH) (aCons (mOp (g2 ixQ) (mVar 0) (mC (.int 0))) (aCons (mC (.ty "str")) aNil))))) (mTest (mOp (topI d_DEEDS (Zbm f_qaz f_qbk f_qbj f_qbh f_qbi) true) (mOp (g2 ixQ) (mVar 0) (mC (.int 0))) (mC (.fn d_DEEDS))))))) (mRet (mC (.bl false))) mSkip) (mSeq (mSet 1 (mOp (topG d_DEEDS (Zbm f_qaz f_qbk f_qbj f_qbh f_qbi)) (mC (.fn d_DEEDS)) (mOp (g2 ixQ) (mVar 0) (mC (.int 0))))) (mRet (mCallV 1 (ZaT f_qaz f_qbk f_qbj f_qbh f_qbi) (aCons (mSlice (mVar 0) (oPart (mC (.int 1))) oNo) aNil)))))
def F_qbb (d_DEEDS f_qaz f_qbk f_qbj f_qbh f_qbi:Addr):List SV->M SV:=mDef 1 1 (B_qbb d_DEEDS f_qaz f_qbk f_qbj f_qbh f_qbi)
abbrev B_qbe:PSt->M PF:=(mRet (mAndV (mFn F_qbl (aCons (mVar 0) (aCons (mC (.int 3)) (aCons (mC (.int 3)) aNil)))) (mAndV (mFn F_qbm (aCons (mOp (g2 ixQ) (mVar 0) (mC (.int 0))) aNil)) (mAndV (mFn F_qbm (aCons (mOp (g2 ixQ) (mVar 0) (mC (.int 1))) aNil)) (mFn F_qbf (aCons (mOp (g2 ixQ) (mVar 0) (mC (.int 2))) (aCons (mC (.int 1)) aNil)))))))
def F_qbe:List SV->M SV:=mDef 1 0 (B_qbe)
abbrev B_qay:PSt->M PF:=(mSeq (mIfS (mOrT (mNotT (mTru (mFn F_qbl (aCons (mVar 0) (aCons (mC (.int 0)) (aCons (mC (.int 30)) aNil)))))) (mNotT (mTru (mCB (g1 allH) (aCons (mVal (mComp (mItems (mVar 0)) ["name"] [] (hName 0) tOk (mFn F_qbe (aCons (mVar 0) aNil)))) aNil))))) (mRet (mC (.bl false))) mSkip) (mSeq (mIfS (mNotT (mTru (mCB (g1 allH) (aCons (mVal (mComp (mZip (aCons (mVar 0) (aCons (mSlice (mVar 0) (oPart (mC (.int 1))) oNo) aNil))) ["low","high"] [] (hTup (hCons (hName 0) (hCons (hName 1) hNil)) 2) tOk (mOp (g2 ltDP) (mVar 0) (mVar 1)))) aNil)))) (mRet (mC (.bl false))) mSkip) (mRet (mCB (g1 allH) (aCons (mVal (mComp (mItems (mVar 0)) ["name"] [1,2] (hName 0) tOk (mOp (g2 (deepP fun p q=>!eqD p q)) (mSlice (mVar 0) oNo (oPart (mC (.int 2)))) (mTup (aCons (mVar 1) (aCons (mVar 2) aNil)))))) aNil)))))
def F_qay:List SV->M SV:=mDef 3 0 (B_qay)
abbrev B_qbd (d_DEEDS f_qaz f_qbk f_qbj f_qbh f_qbi:Addr):PSt->M PF:=(mSeq (mIfS (mOrT (mNotT (mTru (mFn F_qbl (aCons (mVar 0) (aCons (mC (.int 7)) (aCons (mC (.int 7)) aNil)))))) (mNotT (mTru (mFn F_qbe (aCons (mSlice (mVar 0) oNo (oPart (mC (.int 3)))) aNil))))) (mRet (mC (.bl false))) mSkip) (mSeq (mAsg (mVar 0) (hTup (hCons (hName 1) (hCons (hName 2) (hCons (hName 3) (hCons (hName 4) (hCons (hName 5) (hCons (hName 6) (hCons (hName 7) hNil))))))) 7)) (mRet (mAndV (mFn F_qbf (aCons (mVar 4) (aCons (mC (.int 0)) aNil))) (mAndV (mFn F_qay (aCons (mVar 5) (aCons (mVar 1) (aCons (mVar 2) aNil)))) (mAndV (mFn F_qbf (aCons (mVar 6) (aCons (mC (.int 0)) aNil))) (mFn (F_qbb d_DEEDS f_qaz f_qbk f_qbj f_qbh f_qbi) (aCons (mVar 7) aNil))))))))
def F_qbd (d_DEEDS f_qaz f_qbk f_qbj f_qbh f_qbi:Addr):List SV->M SV:=mDef 1 7 (B_qbd d_DEEDS f_qaz f_qbk f_qbj f_qbh f_qbi)
abbrev B_qby:PSt->M PF:=(mRetF (mComp (mItems (mMt "str" splitH (mVar 0) (aCons (mC (.str " ")) aNil))) ["word"] [] (hName 0) (mTru (mVar 0)) (mVar 0)))
def F_qby:List SV->M SV:=mDef 1 0 (B_qby)
abbrev B_qbc:PSt->M PF:=(mRet (mOrV (mOp (g2 eqP) (mVar 0) (mC (.str "0"))) (mAndV (mOp (g2 neP) (mVar 0) (mC (.str ""))) (mAndV (mOp (g2 neP) (mOp (g2 ixQ) (mVar 0) (mC (.int 0))) (mC (.str "0"))) (mCB (g1 allH) (aCons (mVal (mComp (mItems (mVar 0)) ["sign"] [] (hName 0) tOk (mOp (g2 inP) (mVar 0) (mC (.str "0123456789"))))) aNil))))))
def F_qbc:List SV->M SV:=mDef 1 0 (B_qbc)
abbrev B_qbo:PSt->M PF:=(mIfS (mNotT (mTru (mVar 0))) mNo mSkip)
def F_qbo:List SV->M SV:=mDef 1 0 (B_qbo)
abbrev B_qbx:PSt->M PF:=(mSeq (mAsg (mVar 0) (hTup (hCons (hName 1) (hCons (hName 2) (hCons (hName 3) hNil))) 3)) (mRet (mJoined (aCons (mFmt (mVar 1)) (aCons (mC (.str ".")) (aCons (mFmt (mVar 2)) (aCons (mC (.str ".")) (aCons (mFmt (mVar 3)) aNil))))))))
def F_qbx:List SV->M SV:=mDef 1 3 (B_qbx)
abbrev B_qbv:PSt->M PF:=(mSeq (mIfS (mTest (mOp (g2 eqP) (mOp (g2 ixQ) (mVar 0) (mC (.int 0))) (mC (.str "hand")))) (mRet (mJoined (aCons (mC (.str "hand ")) (aCons (mFmt (mOp (g2 ixQ) (mVar 0) (mC (.int 1)))) (aCons (mC (.str " to ")) (aCons (mFmt (mOp (g2 ixQ) (mVar 0) (mC (.int 2)))) aNil)))))) mSkip) (mRet (mMt "str" joinH (mC (.str " ")) (aCons (mVal (mComp (mItems (mVar 0)) ["part"] [] (hName 0) tOk (mFmt (mVar 0)))) aNil))))
def F_qbv:List SV->M SV:=mDef 1 0 (B_qbv)
abbrev B_qbw:PSt->M PF:=(mSeq (mAsg (mVar 0) (hTup (hCons (hName 1) (hCons (hName 2) (hCons (hName 3) (hCons (hName 4) (hCons (hName 5) (hCons (hName 6) (hCons (hName 7) hNil))))))) 7)) (mSeq (mSet 8 (mJoined (aCons (mFmt (mVar 1)) (aCons (mC (.str " ")) (aCons (mFmt (mVar 2)) (aCons (mC (.str " ")) (aCons (mFmt (mVar 3)) aNil))))))) (mSeq (mIfS (mTest (mOp (g2 neP) (mVar 4) (mC (.int 0)))) (mAugS 8 (mJoined (aCons (mC (.str " after ")) (aCons (mFmt (mVar 4)) aNil)))) mSkip) (mSeq (mIfS (mTru (mVar 5)) (mAugS 8 (mOp (g2 addP) (mC (.str " got ")) (mMt "str" joinH (mC (.str " ")) (aCons (mVal (mComp (mItems (mVar 5)) ["name"] [] (hName 0) tOk (mFn F_qbx (aCons (mVar 0) aNil)))) aNil)))) mSkip) (mRet (mOp (g2 addP) (mOp (g2 addP) (mVar 8) (mJoined (aCons (mC (.str " at ")) (aCons (mFmt (mVar 6)) (aCons (mC (.str ": ")) aNil))))) (mFn F_qbv (aCons (mVar 7) aNil))))))))
def F_qbw:List SV->M SV:=mDef 1 8 (B_qbw)
abbrev B_qbz:PSt->M PF:=(mSeq (mDrop (mFn F_qbo (aCons (mCB (g1 isiH) (aCons (mVar 0) (aCons (mC (.ty "str")) aNil))) aNil))) (mRet (mFn F_qby (aCons (mVar 0) aNil))))
def F_qbz:List SV->M SV:=mDef 1 0 (B_qbz)
abbrev B_qbt:PSt->M PF:=(mSeq (mDrop (mFn F_qbo (aCons (mFn F_qbc (aCons (mVar 0) aNil)) aNil))) (mRet (mCB (g1 intTH) (aCons (mVar 0) aNil))))
def F_qbt:List SV->M SV:=mDef 1 0 (B_qbt)
abbrev B_qbs:PSt->M PF:=(mSeq (mSet 1 (mMt "str" splitH (mVar 0) (aCons (mC (.str ".")) aNil))) (mSeq (mDrop (mFn F_qbo (aCons (mOp (g2 eqP) (mCB (g1 lenH) (aCons (mVar 1) aNil)) (mC (.int 3))) aNil))) (mRet (mTup (aCons (mOp (g2 ixQ) (mVar 1) (mC (.int 0))) (aCons (mOp (g2 ixQ) (mVar 1) (mC (.int 1))) (aCons (mFn F_qbt (aCons (mOp (g2 ixQ) (mVar 1) (mC (.int 2))) aNil)) aNil)))))))
def F_qbs:List SV->M SV:=mDef 1 1 (B_qbs)
abbrev B_qbu:PSt->M PF:=(mSeq (mIfS (mTest (mOp (g2 (deepP fun p q=>!eqD p q)) (mSlice (mVar 0) oNo (oPart (mC (.int 1)))) (mVal (mLst (aCons (mC (.str "after")) aNil))))) (mRet (mTup (aCons (mC (.int 0)) (aCons (mVar 0) aNil)))) mSkip) (mSeq (mDrop (mFn F_qbo (aCons (mOp (g2 gtP) (mCB (g1 lenH) (aCons (mVar 0) aNil)) (mC (.int 1))) aNil))) (mSeq (mSet 1 (mFn F_qbt (aCons (mOp (g2 ixQ) (mVar 0) (mC (.int 1))) aNil))) (mSeq (mDrop (mFn F_qbo (aCons (mOp (g2 gtP) (mVar 1) (mC (.int 0))) aNil))) (mRet (mTup (aCons (mVar 1) (aCons (mSlice (mVar 0) (oPart (mC (.int 2))) oNo) aNil))))))))
def F_qbu:List SV->M SV:=mDef 1 1 (B_qbu)
abbrev B_qbq:PSt->M PF:=(mSeq (mIfS (mTest (mOp (g2 (deepP fun p q=>!eqD p q)) (mSlice (mVar 0) oNo (oPart (mC (.int 1)))) (mVal (mLst (aCons (mC (.str "got")) aNil))))) (mRet (mTup (aCons (mTup aNil) (aCons (mVar 0) aNil)))) mSkip) (mSeq (mDrop (mFn F_qbo (aCons (mOp (g2 inP) (mC (.str "at")) (mVar 0)) aNil))) (mSeq (mSet 1 (mMt "list" indexH (mVar 0) (aCons (mC (.str "at")) aNil))) (mSeq (mDrop (mFn F_qbo (aCons (mOp (g2 gtP) (mVar 1) (mC (.int 1))) aNil))) (mRet (mTup (aCons (mCB (g1 tupH) (aCons (mVal (mComp (mItems (mSlice (mVar 0) (oPart (mC (.int 1))) (oPart (mVar 1)))) ["word"] [] (hName 0) tOk (mFn F_qbs (aCons (mVar 0) aNil)))) aNil)) (aCons (mSlice (mVar 0) (oPart (mVar 1)) oNo) aNil))))))))
def F_qbq:List SV->M SV:=mDef 1 1 (B_qbq)
abbrev B_qbp (d_DEED_FORMS f_DEED_FORMS_0 f_DEED_FORMS_1 f_DEED_FORMS_2 f_DEED_FORMS_3 f_DEED_FORMS_4 f_DEED_FORMS_5 f_DEED_FORMS_6 f_DEED_FORMS_7:Addr):PSt->M PF:=(mSeq (mDrop (mFn F_qbo (aCons (mOp (topI d_DEED_FORMS (Zax f_DEED_FORMS_0 f_DEED_FORMS_1 f_DEED_FORMS_2 f_DEED_FORMS_3 f_DEED_FORMS_4 f_DEED_FORMS_5 f_DEED_FORMS_6 f_DEED_FORMS_7) false) (mOp (g2 ixQ) (mVar 0) (mC (.int 0))) (mC (.fn d_DEED_FORMS))) aNil))) (mSeq (mSet 1 (mOp (topG d_DEED_FORMS (Zax f_DEED_FORMS_0 f_DEED_FORMS_1 f_DEED_FORMS_2 f_DEED_FORMS_3 f_DEED_FORMS_4 f_DEED_FORMS_5 f_DEED_FORMS_6 f_DEED_FORMS_7)) (mC (.fn d_DEED_FORMS)) (mOp (g2 ixQ) (mVar 0) (mC (.int 0))))) (mSeq (mDrop (mFn F_qbo (aCons (mOp (g2 eqP) (mCB (g1 lenH) (aCons (mVar 0) aNil)) (mOp (g2 addP) (mCB (g1 (lenTH (Zan f_DEED_FORMS_0 f_DEED_FORMS_1 f_DEED_FORMS_2 f_DEED_FORMS_3 f_DEED_FORMS_4 f_DEED_FORMS_5 f_DEED_FORMS_6 f_DEED_FORMS_7))) (aCons (mVar 1) aNil)) (mC (.int 1)))) aNil))) (mSeq (mNew 2 (mLst (aCons (mOp (g2 ixQ) (mVar 0) (mC (.int 0))) aNil))) (mSeq (mFor (mZipT (Zan f_DEED_FORMS_0 f_DEED_FORMS_1 f_DEED_FORMS_2 f_DEED_FORMS_3 f_DEED_FORMS_4 f_DEED_FORMS_5 f_DEED_FORMS_6 f_DEED_FORMS_7) (aCons (mVar 1) (aCons (mSlice (mVar 0) (oPart (mC (.int 1))) oNo) aNil))) (hTup (hCons (hName 3) (hCons (hName 4) hNil)) 2) (mIfS (mTest (mOp (g2 eqP) (mVar 3) (mC (.str "to")))) (mDrop (mFn F_qbo (aCons (mOp (g2 eqP) (mVar 4) (mC (.str "to"))) aNil))) (mDrop (mApp (mVar 2) (aCons (mIf (mTest (mOp (g2 eqP) (mVar 3) (mC (.str "number")))) (mFn F_qbt (aCons (mVar 4) aNil)) (mVar 4)) aNil))))) (mRet (mCB (g1 tupH) (aCons (mVar 2) aNil))))))))
def F_qbp (d_DEED_FORMS f_DEED_FORMS_0 f_DEED_FORMS_1 f_DEED_FORMS_2 f_DEED_FORMS_3 f_DEED_FORMS_4 f_DEED_FORMS_5 f_DEED_FORMS_6 f_DEED_FORMS_7:Addr):List SV->M SV:=mDef 1 4 (B_qbp d_DEED_FORMS f_DEED_FORMS_0 f_DEED_FORMS_1 f_DEED_FORMS_2 f_DEED_FORMS_3 f_DEED_FORMS_4 f_DEED_FORMS_5 f_DEED_FORMS_6 f_DEED_FORMS_7)
abbrev B_qbr (d_DEEDS f_qaz f_qbk f_qbj f_qbh f_qbi d_DEED_FORMS f_DEED_FORMS_0 f_DEED_FORMS_1 f_DEED_FORMS_2 f_DEED_FORMS_3 f_DEED_FORMS_4 f_DEED_FORMS_5 f_DEED_FORMS_6 f_DEED_FORMS_7:Addr):PSt->M PF:=(mSeq (mSet 1 (mFn F_qbz (aCons (mVar 0) aNil))) (mSeq (mDrop (mFn F_qbo (aCons (mOp (g2 gtP) (mCB (g1 lenH) (aCons (mVar 1) aNil)) (mC (.int 3))) aNil))) (mSeq (mAsg (mSliceA (mVar 1) oNo (oPart (mC (.int 2)))) (hLst (hCons (hName 2) (hCons (hName 3) hNil)) 2)) (mSeq (mSet 4 (mFn F_qbt (aCons (mOp (g2 ixQ) (mVar 1) (mC (.int 2))) aNil))) (mSeq (mAsg (mFn F_qbu (aCons (mSliceA (mVar 1) (oPart (mC (.int 3))) oNo) aNil)) (hTup (hCons (hName 5) (hCons (hName 1) hNil)) 2)) (mSeq (mAsg (mFn F_qbq (aCons (mVar 1) aNil)) (hTup (hCons (hName 6) (hCons (hName 1) hNil)) 2)) (mSeq (mDrop (mFn F_qbo (aCons (mAndV (mOp (g2 gtP) (mCB (g1 lenH) (aCons (mVar 1) aNil)) (mC (.int 2))) (mAndV (mOp (g2 eqP) (mOp (g2 ixQ) (mVar 1) (mC (.int 0))) (mC (.str "at"))) (mMt "str" endsH (mOp (g2 ixQ) (mVar 1) (mC (.int 1))) (aCons (mC (.str ":")) aNil)))) aNil))) (mSeq (mSet 7 (mTup (aCons (mVar 2) (aCons (mVar 3) (aCons (mVar 4) (aCons (mVar 5) (aCons (mVar 6) (aCons (mFn F_qbt (aCons (mSliceA (mOp (g2 ixQ) (mVar 1) (mC (.int 1))) oNo (oPart (mNeg (mC (.int 1))))) aNil)) (aCons (mFn (F_qbp d_DEED_FORMS f_DEED_FORMS_0 f_DEED_FORMS_1 f_DEED_FORMS_2 f_DEED_FORMS_3 f_DEED_FORMS_4 f_DEED_FORMS_5 f_DEED_FORMS_6 f_DEED_FORMS_7) (aCons (mSliceA (mVar 1) (oPart (mC (.int 2))) oNo) aNil)) aNil))))))))) (mSeq (mDrop (mFn F_qbo (aCons (mFn (F_qbd d_DEEDS f_qaz f_qbk f_qbj f_qbh f_qbi) (aCons (mVar 7) aNil)) aNil))) (mRet (mVar 7)))))))))))
def F_qbr (d_DEEDS f_qaz f_qbk f_qbj f_qbh f_qbi d_DEED_FORMS f_DEED_FORMS_0 f_DEED_FORMS_1 f_DEED_FORMS_2 f_DEED_FORMS_3 f_DEED_FORMS_4 f_DEED_FORMS_5 f_DEED_FORMS_6 f_DEED_FORMS_7:Addr):List SV->M SV:=mDef 1 7 (B_qbr d_DEEDS f_qaz f_qbk f_qbj f_qbh f_qbi d_DEED_FORMS f_DEED_FORMS_0 f_DEED_FORMS_1 f_DEED_FORMS_2 f_DEED_FORMS_3 f_DEED_FORMS_4 f_DEED_FORMS_5 f_DEED_FORMS_6 f_DEED_FORMS_7)
abbrev B_qaa:PSt->M PF:=(mSeq (mIfS (mTest (mOp (g2 ltP) (mVar 1) (mCB (g1 lenH) (aCons (mVar 0) aNil)))) (mRet (mOp (g2 ixQ) (mVar 0) (mVar 1))) mSkip) (mRet (mC (.int 0))))
def F_qaa:List SV->M SV:=mDef 2 0 (B_qaa)
abbrev B_qae:PSt->M PF:=(mSeq (mSet 2 (mFn F_qaa (aCons (mVar 0) (aCons (mOp (g2 modP) (mVar 1) (mCB (g1 maxH) (aCons (mC (.int 1)) (aCons (mCB (g1 lenH) (aCons (mVar 0) aNil)) aNil)))) aNil)))) (mSeq (mSet 3 (mOp (g2 modP) (mOp (g2 mulP) (mOp (g2 addP) (mOp (g2 addP) (mOp (g2 modP) (mVar 2) (mC (.int 2147483629))) (mOp (g2 mulP) (mOp (g2 mulP) (mC (.int 7919)) (mVar 1)) (mVar 1))) (mC (.int 11))) (mC (.int 48271))) (mC (.int 2147483647)))) (mSeq (mIfS (mTest (mOp (g2 eqP) (mOp (g2 modP) (mFn F_qaa (aCons (mVar 0) (aCons (mC (.int 0)) aNil))) (mC (.int 2))) (mC (.int 0)))) (mSet 2 (mC (.int 0))) mSkip) (mRetF (mLst (aCons (mOp (g2 modP) (mVar 2) (mOp (g2 powP) (mC (.int 10)) (mC (.int 40)))) (aCons (mVar 3) aNil)))))))
def F_qae:List SV->M SV:=mDef 2 2 (B_qae)
def FF_qae:List SV->M (List PV):=mDefF 2 2 (B_qae)
abbrev B_qaq:PSt->M PF:=(mSeq (mIfS (mTest (mOp (g2 gtP) (mOp (g2 ixQ) (mVar 0) (mC (.int 0))) (mC (.int 0)))) (mSeq (mSet 2 (mOp (g2 modP) (mOp (g2 ixQ) (mVar 0) (mC (.int 0))) (mVar 1))) (mSeq (mSetIx (mOp (g2 fdivWP) (mOp (g2 ixQ) (mVar 0) (mC (.int 0))) (mVar 1)) (mVar 0) (mC (.int 0))) (mRet (mVar 2)))) mSkip) (mSeq (mSetIx (mOp (g2 modP) (mOp (g2 addP) (mOp (g2 mulP) (mOp (g2 ixQ) (mVar 0) (mC (.int 1))) (mC (.int 48271))) (mC (.int 12345))) (mC (.int 2147483647))) (mVar 0) (mC (.int 1))) (mRet (mOp (g2 modP) (mOp (g2 modP) (mOp (g2 mulP) (mOp (g2 ixQ) (mVar 0) (mC (.int 1))) (mOp (g2 ixQ) (mVar 0) (mC (.int 1)))) (mC (.int 1999999973))) (mVar 1)))))
def F_qaq:List SV->M SV:=mDef 2 1 (B_qaq)
abbrev B_qao:PSt->M PF:=(mSeq (mSet 1 (mOp (g2 ixQ) (mVal (mLst (aCons (mC (.int 9)) (aCons (mC (.int 100)) (aCons (mOp (g2 powP) (mC (.int 10)) (mC (.int 29))) (aCons (mOp (g2 powP) (mC (.int 10)) (mC (.int 30))) aNil)))))) (mFn F_qaq (aCons (mVar 0) (aCons (mC (.int 4)) aNil))))) (mRet (mOp (g2 ixQ) (mVal (mLst (aCons (mFn F_qaq (aCons (mVar 0) (aCons (mVar 1) aNil))) (aCons (mOp (g2 subP) (mOp (g2 subP) (mVar 1) (mC (.int 1))) (mFn F_qaq (aCons (mVar 0) (aCons (mC (.int 3)) aNil)))) aNil)))) (mFn F_qaq (aCons (mVar 0) (aCons (mC (.int 2)) aNil))))))
def F_qao:List SV->M SV:=mDef 1 1 (B_qao)
abbrev B_qaw:PSt->M PF:=(mSeq (mSet 1 (mC (.str "abcdefghijklmnopqrstuvwxyz"))) (mSeq (mSet 2 (mVal (mLst (aCons (mC (.str "bell")) (aCons (mC (.str "at")) (aCons (mC (.str "got")) (aCons (mC (.str "after")) (aCons (mC (.str "to")) (aCons (mC (.str "join")) (aCons (mC (.str "say")) (aCons (mC (.str "do")) (aCons (mC (.str "free")) (aCons (mC (.str "hand")) (aCons (mC (.str "note")) (aCons (mC (.str "held")) (aCons (mC (.str "twin")) (aCons (mC (.str "a")) aNil))))))))))))))))) (mSeq (mSet 3 (mOp (g2 ixQ) (mVal (mLst (aCons (mC (.int 1)) (aCons (mC (.int 2)) (aCons (mC (.int 3)) (aCons (mC (.int 12)) (aCons (mOp (g2 addP) (mC (.int 1)) (mFn F_qaq (aCons (mVar 0) (aCons (mC (.int 12)) aNil)))) aNil))))))) (mFn F_qaq (aCons (mVar 0) (aCons (mC (.int 5)) aNil))))) (mSeq (mSet 4 (mMt "str" joinH (mC (.str "")) (aCons (mVal (mComp (mRange1 (aCons (mC (.int 4)) aNil)) ["_law_k"] [1,0] (hName 0) tOk (mOp (g2 ixQ) (mVar 1) (mFn F_qaq (aCons (mVar 2) (aCons (mC (.int 26)) aNil)))))) aNil))) (mRet (mOp (g2 ixQ) (mVal (mLst (aCons (mSliceS (mOp (g2 mulTP) (mVar 4) (mC (.int 3))) oNo (oPart (mVar 3))) (aCons (mOp (g2 ixQ) (mVar 2) (mFn F_qaq (aCons (mVar 0) (aCons (mC (.int 14)) aNil)))) aNil)))) (mCB (g1 intH) (aCons (mOp (g2 eqP) (mFn F_qaq (aCons (mVar 0) (aCons (mC (.int 4)) aNil))) (mC (.int 0))) aNil))))))))
def F_qaw:List SV->M SV:=mDef 1 4 (B_qaw)
abbrev B_qak:PSt->M PF:=(mSeq (mSet 1 (mFn F_qaw (aCons (mVar 0) aNil))) (mSeq (mSet 2 (mFn F_qaw (aCons (mVar 0) aNil))) (mRet (mTup (aCons (mVar 1) (aCons (mVar 2) (aCons (mOp (g2 addP) (mC (.int 1)) (mOp (g2 modP) (mFn F_qao (aCons (mVar 0) aNil)) (mOp (g2 subP) (mOp (g2 powP) (mC (.int 10)) (mC (.int 30))) (mC (.int 1))))) aNil)))))))
def F_qak:List SV->M SV:=mDef 1 2 (B_qak)
abbrev B_qac:PSt->M PF:=(mSeq (mSet 1 (mFn F_qaq (aCons (mVar 0) (aCons (mC (.int 12)) aNil)))) (mSeq (mSet 2 (mFn F_qaq (aCons (mVar 0) (aCons (mC (.int 9)) aNil)))) (mSeq (mSet 3 (mFn F_qaw (aCons (mVar 0) aNil))) (mSeq (mSet 4 (mOp (g2 ixQ) (mVal (mLst (aCons (mVar 3) (aCons (mC (.str "belle")) aNil)))) (mCB (g1 intH) (aCons (mOp (g2 eqP) (mVar 3) (mC (.str "bell"))) aNil)))) (mSeq (mSet 5 (mVal (mLst (aCons (mTup (aCons (mC (.str "join")) aNil)) (aCons (mTup (aCons (mC (.str "say")) (aCons (mVar 3) aNil))) (aCons (mTup (aCons (mC (.str "do")) (aCons (mVar 1) (aCons (mVar 2) aNil)))) (aCons (mTup (aCons (mC (.str "free")) (aCons (mVar 1) aNil))) (aCons (mTup (aCons (mC (.str "ready")) (aCons (mVar 1) aNil))) (aCons (mTup (aCons (mC (.str "hand")) (aCons (mVar 1) (aCons (mVar 4) aNil)))) aNil))))))))) (mRet (mOp (g2 ixQ) (mOp (g2 addP) (mVar 5) (mVal (mLst (aCons (mTup (aCons (mC (.str "quit")) (aCons (mVar 1) aNil))) (aCons (mTup (aCons (mC (.str "note")) aNil)) aNil))))) (mFn F_qaq (aCons (mVar 0) (aCons (mC (.int 8)) aNil))))))))))
def F_qac:List SV->M SV:=mDef 1 5 (B_qac)
abbrev B_qag:PSt->M PF:=(mSeq (mAsg (mFn F_qak (aCons (mVar 0) aNil)) (hTup (hCons (hName 1) (hCons (hName 2) (hCons (hName 3) hNil))) 3)) (mSeq (mSet 4 (mOp (g2 ixQ) (mVal (mLst (aCons (mC (.int 0)) (aCons (mFn F_qao (aCons (mVar 0) aNil)) (aCons (mC (.int 0)) (aCons (mC (.int 1)) aNil)))))) (mFn F_qaq (aCons (mVar 0) (aCons (mC (.int 4)) aNil))))) (mSeq (mNewT 5) (mSeq (mFor (mRange1 (aCons (mOp (g2 ixQ) (mVal (mLst (aCons (mC (.int 0)) (aCons (mC (.int 1)) (aCons (mC (.int 0)) (aCons (mC (.int 2)) (aCons (mC (.int 7)) (aCons (mC (.int 30)) aNil)))))))) (mFn F_qaq (aCons (mVar 0) (aCons (mC (.int 6)) aNil)))) aNil)) (hName 6) (mSeq (mSet 7 (mFn F_qak (aCons (mVar 0) aNil))) (mSeq (mIfS (mTest (mOp (g2 eqP) (mOp (g2 modP) (mVar 6) (mC (.int 3))) (mC (.int 2)))) (mSet 7 (mTup (aCons (mOp (g2 ixQ) (mVar 7) (mC (.int 0))) (aCons (mOp (g2 addP) (mVar 2) (mOp (g2 mulSP) (mC (.str "b")) (mCB (g1 intH) (aCons (mOp (g2 ltP) (mCB (g1 lenH) (aCons (mVar 2) aNil)) (mC (.int 12))) aNil)))) (aCons (mOp (g2 ixQ) (mVar 7) (mC (.int 2))) aNil))))) mSkip) (mIfS (mTest (mOp (g2 (deepP fun p q=>!eqD p q)) (mSlice (mVar 7) oNo (oPart (mC (.int 2)))) (mTup (aCons (mVar 1) (aCons (mVar 2) aNil))))) (mSetIxT (mC (.bl true)) (mVar 5) (mVar 7)) mSkip)))) (mRet (mTup (aCons (mVar 1) (aCons (mVar 2) (aCons (mVar 3) (aCons (mVar 4) (aCons (mCB (g1 tupH) (aCons (mVal (mSorted3 (aCons (mVar 5) aNil))) aNil)) (aCons (mFn F_qao (aCons (mVar 0) aNil)) (aCons (mFn F_qac (aCons (mVar 0) aNil)) aNil)))))))))))))
def F_qag:List SV->M SV:=mDef 1 7 (B_qag)
abbrev B_qam:PSt->M PF:=(mRet (mMt "str" joinH (mC (.str ".")) (aCons (mVal (mComp (mItems (mVar 0)) ["_law_part"] [] (hName 0) tOk (mCB (g1 strH) (aCons (mVar 0) aNil)))) aNil)))
def F_qam:List SV->M SV:=mDef 1 0 (B_qam)
abbrev B_qai:PSt->M PF:=(mSeq (mAsg (mVar 0) (hTup (hCons (hName 1) (hCons (hName 2) (hCons (hName 3) (hCons (hName 4) (hCons (hName 5) (hCons (hName 6) (hCons (hName 7) hNil))))))) 7)) (mSeq (mNew 8 (mLst (aCons (mVar 1) (aCons (mVar 2) (aCons (mCB (g1 strH) (aCons (mVar 3) aNil)) aNil))))) (mSeq (mIfS (mTest (mOp (g2 neP) (mVar 4) (mC (.int 0)))) (mNew 8 (mCatL (mVar 8) (mVal (mLst (aCons (mC (.str "after")) (aCons (mCB (g1 strH) (aCons (mVar 4) aNil)) aNil)))))) mSkip) (mSeq (mIfS (mTest (mOp (g2 (deepP fun p q=>!eqD p q)) (mVar 5) (mTup aNil))) (mNew 8 (mCatL (mOp (g2 addP) (mVar 8) (mVal (mLst (aCons (mC (.str "got")) aNil)))) (mVal (mComp (mItems (mVar 5)) ["_law_name_here"] [] (hName 0) tOk (mFn F_qam (aCons (mVar 0) aNil)))))) mSkip) (mSeq (mNew 8 (mCatL (mOp (g2 addP) (mVar 8) (mVal (mLst (aCons (mC (.str "at")) (aCons (mOp (g2 addP) (mCB (g1 strH) (aCons (mVar 6) aNil)) (mC (.str ":"))) aNil))))) (mVal (mComp (mItems (mVar 7)) ["_law_part"] [] (hName 0) tOk (mCB (g1 strH) (aCons (mVar 0) aNil)))))) (mSeq (mIfS (mTest (mOp (g2 eqP) (mOp (g2 ixQ) (mVar 7) (mC (.int 0))) (mC (.str "hand")))) (mDrop (mIns (mVar 8) (aCons (mOp (g2 subP) (mCB (g1 lenH) (aCons (mVar 8) aNil)) (mC (.int 1))) (aCons (mC (.str "to")) aNil)))) mSkip) (mRet (mVar 8))))))))
def F_qai:List SV->M SV:=mDef 1 8 (B_qai)
abbrev B_qau:PSt->M PF:=(mSeq (mSet 2 (mOp (g2 mulSP) (mC (.str " ")) (mOp (g2 ixQ) (mVal (mLst (aCons (mC (.int 0)) (aCons (mC (.int 1)) (aCons (mC (.int 0)) (aCons (mC (.int 3)) aNil)))))) (mFn F_qaq (aCons (mVar 0) (aCons (mC (.int 4)) aNil)))))) (mSeq (mFor (mEnum (aCons (mVar 1) aNil)) (hTup (hCons (hName 3) (hCons (hName 4) hNil)) 2) (mSet 2 (mOp (g2 addP) (mOp (g2 addP) (mVar 2) (mOp (g2 mulSP) (mC (.str " ")) (mOp (g2 mulP) (mCB (g1 intH) (aCons (mOp (g2 gtP) (mVar 3) (mC (.int 0))) aNil)) (mOp (g2 ixQ) (mVal (mLst (aCons (mC (.int 1)) (aCons (mC (.int 1)) (aCons (mC (.int 2)) (aCons (mC (.int 4)) aNil)))))) (mFn F_qaq (aCons (mVar 0) (aCons (mC (.int 4)) aNil))))))) (mVar 4)))) (mRet (mOp (g2 addP) (mVar 2) (mOp (g2 mulSP) (mC (.str " ")) (mOp (g2 ixQ) (mVal (mLst (aCons (mC (.int 0)) (aCons (mC (.int 0)) (aCons (mC (.int 1)) (aCons (mC (.int 2)) aNil)))))) (mFn F_qaq (aCons (mVar 0) (aCons (mC (.int 4)) aNil)))))))))
def F_qau:List SV->M SV:=mDef 2 3 (B_qau)
abbrev B_qas (Z:List SV->M SV):PSt->M PF:=(mSeq (mIfS (mTru (mCB (g1 isiH) (aCons (mVar 1) (aCons (mC (.ty "tuple")) aNil)))) (mSeq (mIfS (mOrT (mNotT (mTru (mCB (g1 isiH) (aCons (mVar 0) (aCons (mC (.ty "tuple")) aNil))))) (mTest (mOp (g2 neP) (mCB (g1 lenH) (aCons (mVar 0) aNil)) (mCB (g1 lenH) (aCons (mVar 1) aNil))))) (mRet (mC (.bl false))) mSkip) (mRet (mCB (g1 allH) (aCons (mVal (mComp (mZip (aCons (mVar 0) (aCons (mVar 1) aNil))) ["_law_one","_law_other"] [] (hTup (hCons (hName 0) (hCons (hName 1) hNil)) 2) tOk (mFn Z (aCons (mVar 0) (aCons (mVar 1) aNil))))) aNil)))) mSkip) (mSeq (mIfS (mTru (mCB (g1 isiH) (aCons (mVar 1) (aCons (mC (.ty "str")) aNil)))) (mRet (mAndV (mCB (g1 isiH) (aCons (mVar 0) (aCons (mC (.ty "str")) aNil))) (mOp (g2 eqP) (mVar 0) (mVar 1)))) mSkip) (mRet (mAndV (mCB (g1 isiH) (aCons (mVar 0) (aCons (mC (.ty "int")) aNil))) (mAndV (mNotV (mCB (g1 isiH) (aCons (mVar 0) (aCons (mC (.ty "bool")) aNil)))) (mOp (g2 eqP) (mVar 0) (mVar 1)))))))
def F_qas:Nat->List SV->M SV
 | 0=>fun _ _=>none
 | n + 1=>mDef 2 0 (B_qas (F_qas n))
abbrev B_law (d_DEEDS f_qaz f_qbk f_qbj f_qbh f_qbi d_DEED_FORMS f_DEED_FORMS_0 f_DEED_FORMS_1 f_DEED_FORMS_2 f_DEED_FORMS_3 f_DEED_FORMS_4 f_DEED_FORMS_5 f_DEED_FORMS_6 f_DEED_FORMS_7:Addr):PSt->M PF:=(mSeq (mFor (mRange1 (aCons (mOp (g2 addP) (mC (.int 1)) (mCB (g1 minH) (aCons (mC (.int 30)) (aCons (mCB (g1 lenH) (aCons (mVar 0) aNil)) aNil)))) aNil)) (hName 1) (mSeq (mNew 2 (mFnF FF_qae (aCons (mVar 0) (aCons (mVar 1) aNil)))) (mSeq (mSet 3 (mFn F_qag (aCons (mVar 2) aNil))) (mSeq (mSet 4 (mFn F_qai (aCons (mVar 3) aNil))) (mSeq (mIfS (mOrT (mTest (mOp (g2 neP) (mFn F_qbw (aCons (mVar 3) aNil)) (mMt "str" joinH (mC (.str " ")) (aCons (mVar 4) aNil)))) (mNotT (mTru (mFn (F_qas 12) (aCons (mFn (F_qbr d_DEEDS f_qaz f_qbk f_qbj f_qbh f_qbi d_DEED_FORMS f_DEED_FORMS_0 f_DEED_FORMS_1 f_DEED_FORMS_2 f_DEED_FORMS_3 f_DEED_FORMS_4 f_DEED_FORMS_5 f_DEED_FORMS_6 f_DEED_FORMS_7) (aCons (mMt "str" joinH (mC (.str " ")) (aCons (mVar 4) aNil)) aNil)) (aCons (mVar 3) aNil)))))) (mRet (mC (.bl false))) mSkip) (mSeq (mIfS (mNotT (mTru (mFn (F_qas 12) (aCons (mFn (F_qbr d_DEEDS f_qaz f_qbk f_qbj f_qbh f_qbi d_DEED_FORMS f_DEED_FORMS_0 f_DEED_FORMS_1 f_DEED_FORMS_2 f_DEED_FORMS_3 f_DEED_FORMS_4 f_DEED_FORMS_5 f_DEED_FORMS_6 f_DEED_FORMS_7) (aCons (mFn F_qau (aCons (mVar 2) (aCons (mVar 4) aNil))) aNil)) (aCons (mVar 3) aNil))))) (mRet (mC (.bl false))) mSkip) (mIfS (mTest (mOp (g2 neP) (mFn F_qbw (aCons (mVar 3) aNil)) (mMt "str" joinH (mC (.str " ")) (aCons (mVar 4) aNil)))) (mRet (mC (.bl false))) mSkip))))))) (mRet (mC (.bl true))))
def F_law (d_DEEDS f_qaz f_qbk f_qbj f_qbh f_qbi d_DEED_FORMS f_DEED_FORMS_0 f_DEED_FORMS_1 f_DEED_FORMS_2 f_DEED_FORMS_3 f_DEED_FORMS_4 f_DEED_FORMS_5 f_DEED_FORMS_6 f_DEED_FORMS_7:Addr):List SV->M SV:=mDef 1 4 (B_law d_DEEDS f_qaz f_qbk f_qbj f_qbh f_qbi d_DEED_FORMS f_DEED_FORMS_0 f_DEED_FORMS_1 f_DEED_FORMS_2 f_DEED_FORMS_3 f_DEED_FORMS_4 f_DEED_FORMS_5 f_DEED_FORMS_6 f_DEED_FORMS_7)
def top (i:Nat):Stmt:=PySem.Challenge.pw_holdword_k80_letters_shown.main.body.getD i (.Pass ⟨0,0,0,0⟩)
structure Txt (mg:Str->Option Value):Prop where
 c_FIGURES:∃t,mg "FIGURES"=some (.str "0123456789" t)
 c_JUDGE:∃t,mg "JUDGE"=some (.str "bell" t)
 c_LONGEST_WORD:∃t,mg "LONGEST_WORD"=some (.int 12 t)
 c_MOST_CLAUSES:∃t,mg "MOST_CLAUSES"=some (.int 12 t)
 c_MOST_GOTS:∃t,mg "MOST_GOTS"=some (.int 30 t)
 c_MOST_PARTS:∃t,mg "MOST_PARTS"=some (.int 9 t)
 c_SMALL_LETTERS:∃t,mg "SMALL_LETTERS"=some (.str "abcdefghijklmnopqrstuvwxyz" t)
 b_all:mg "all"=none
 b_bool:mg "bool"=none
 b_enumerate:mg "enumerate"=none
 b_int:mg "int"=none
 b_isinstance:mg "isinstance"=none
 b_len:mg "len"=none
 b_max:mg "max"=none
 b_min:mg "min"=none
 b_range:mg "range"=none
 b_sorted:mg "sorted"=none
 b_str:mg "str"=none
 b_tuple:mg "tuple"=none
 b_zip:mg "zip"=none
section
variable {P:Yo}{w:World}{K:W.Frag}{mg:Str->Option Value}{base:Heap}
abbrev s_qbf:Stmt:=top 6
theorem sc_qbf:FnScope ["thing","least"] ["thing","least"] (defScope s_qbf):=⟨rfl,rfl,rfl,by decide +kernel,rfl,by decide +kernel,by decide +kernel⟩
theorem ok_qbf {f_me:Addr}{fd_me:Ym}(Fn:Fun K "is_number" "is_number" s_qbf f_me fd_me)(T:Txt mg):FnOk P w K mg base CX0 1 f_me fd_me ["thing","least"] (liftSp K (F_qbf)):=
 Zar Fn sc_qbf fun cdv A outer s H E hr=>(@Zah _ _ _ (@Zal _ _ _ _ (Zaw (ZaZ 1e0 T.b_isinstance 1e0 (@Zaa _ _ _ _ _ (Zab 0) (@Zaa _ _ _ _ _ (Za5 1e0 T.b_int 1e0) Zac 1e0) 1e0)) (Zaw (q_em_not (ZaZ 1e0 T.b_isinstance 1e0 (@Zaa _ _ _ _ _ (Zab 0) (@Zaa _ _ _ _ _ (Za5 1e0 T.b_bool 1e0) Zac 1e0) 1e0))) (ZaX (Zaq op_ge ge_ok.r (Zab 0) (Zab 1) (nomark _)))))))
end
section
variable {P:Yo}{w:World}{K:W.Frag}{mg:Str->Option Value}{base:Heap}
abbrev s_qbg:Stmt:=top 7
theorem sc_qbg:FnScope ["thing","bound"] ["thing","bound"] (defScope s_qbg):=⟨rfl,rfl,rfl,by decide +kernel,rfl,by decide +kernel,by decide +kernel⟩
theorem ok_qbg {f_me:Addr}{fd_me:Ym}{f_qbf:Addr}{fd_qbf:Ym}(Fn:Fun K "is_number_below" "is_number_below" s_qbg f_me fd_me)(T:Txt mg)(G_qbf:FnOk P w K mg base CX0 1 f_qbf fd_qbf ["thing","least"] (liftSp K F_qbf))(m_qbf:mg "is_number"=some (.ref f_qbf))(k_qbf:Yw K (.ref f_qbf)=true)(b_qbf:L2.Binds K fd_qbf ["thing","least"] []):FnOk P w K mg base CX0 2 f_me fd_me ["thing","bound"] (liftSp K (F_qbg)):=
 Zar Fn sc_qbg fun cdv A outer s H E hr=>(@Zah _ _ _ (@Zal _ _ _ _ (Zaw (Zae G_qbf (hr.mono (by decide)) 1e0 m_qbf k_qbf b_qbf (@Zaa _ _ _ _ _ (Zab 0) (@Zaa _ _ _ _ _ Zad Zac 1e0) 1e0)) (ZaX (Zaq op_lt lt_ok.r (Zab 0) (Zab 1) (nomark _))))))
end
section
variable {P:Yo}{w:World}{K:W.Frag}{mg:Str->Option Value}{base:Heap}
abbrev s_qbl:Stmt:=top 8
theorem sc_qbl:FnScope ["thing","least","most"] ["thing","least","most"] (defScope s_qbl):=⟨rfl,rfl,rfl,by decide +kernel,rfl,by decide +kernel,by decide +kernel⟩
theorem ok_qbl {f_me:Addr}{fd_me:Ym}(Fn:Fun K "is_row_of" "is_row_of" s_qbl f_me fd_me)(T:Txt mg):FnOk P w K mg base CX0 1 f_me fd_me ["thing","least","most"] (liftSp K (F_qbl)):=
 Zar Fn sc_qbl fun cdv A outer s H E hr=>(@Zah _ _ _ (@Zal _ _ _ _ (Zaw (ZaZ 1e0 T.b_isinstance 1e0 (@Zaa _ _ _ _ _ (Zab 0) (@Zaa _ _ _ _ _ (Za5 1e0 T.b_tuple 1e0) Zac 1e0) 1e0)) (ZaX (q_em_chain op_le op_le le_ok.r le_ok.r (Zab 1) (ZaE 1e0 T.b_len (@Zaa _ _ _ _ _ (Zab 0) Zac 1e0)) (Zab 2))))))
end
section
variable {P:Yo}{w:World}{K:W.Frag}{mg:Str->Option Value}{base:Heap}
abbrev s_qbm:Stmt:=top 9
theorem sc_qbm:FnScope ["thing"] ["thing"] (defScope s_qbm):=⟨rfl,rfl,rfl,by decide +kernel,rfl,by decide +kernel,by decide +kernel⟩
theorem ok_qbm {f_me:Addr}{fd_me:Ym}(Fn:Fun K "is_word" "is_word" s_qbm f_me fd_me)(T:Txt mg):FnOk P w K mg base CX0 1 f_me fd_me ["thing"] (liftSp K (F_qbm)):=
 Zar Fn sc_qbm fun cdv A outer s H E hr=>(@Zaf _ _ _ _ _ (@ZaB _ _ _ _ _ _ _ _ (Zdk (Zbz (ZaW (ZaM (ZaZ 1e0 T.b_isinstance 1e0 (@Zaa _ _ _ _ _ (Zab 0) (@Zaa _ _ _ _ _ (Za5 1e0 T.b_str 1e0) Zac 1e0) 1e0)))) (ZbG (ZaW (q_tm_chain op_le op_le le_ok.r le_ok.r Zad (ZaE 1e0 T.b_len (@Zaa _ _ _ _ _ (Zab 0) Zac 1e0)) (ZbI 1e0 T.c_LONGEST_WORD)))))) (@Zah _ _ _ (@Zal _ _ _ _ Zbe)) Zat) (@Zah _ _ _ (@Zal _ _ _ _ (ZbJ rfl 1e0 T.b_all 1e0 (@Zaa _ _ _ _ _ (Zau (ZaN (vs:=["sign"]) (fs:=[]) (fr:=[]) (by exact ⟨rfl,rfl,rfl,rfl,rfl,rfl,rfl⟩) rfl (Za1 (Zab 0)) (fun _ _ _ _ _=>(Zaj (i:=0) (show ((["sign"]:List Str)++([]:List Str)).Nodup by decide +kernel) rfl (Or.inl rfl))) (fun _ _ _ _ _=>ZaY) (fun _ _ _ _ _=>(Zaq op_inAll in_ok.r (Zab 0) (Zch 1e0 T.c_SMALL_LETTERS) rfl)))) Zac 1e0)))))
end
section
variable {P:Yo}{w:World}{K:W.Frag}{mg:Str->Option Value}{base:Heap}
abbrev s_qba:Stmt:=top 12
theorem sc_qba:FnScope ["thing"] ["thing"] (defScope s_qba):=⟨rfl,rfl,rfl,by decide +kernel,rfl,by decide +kernel,by decide +kernel⟩
theorem ok_qba {f_me:Addr}{fd_me:Ym}{f_qbg:Addr}{fd_qbg:Ym}(Fn:Fun K "is_clause_number" "is_clause_number" s_qba f_me fd_me)(T:Txt mg)(G_qbg:FnOk P w K mg base CX0 2 f_qbg fd_qbg ["thing","bound"] (liftSp K F_qbg))(m_qbg:mg "is_number_below"=some (.ref f_qbg))(k_qbg:Yw K (.ref f_qbg)=true)(b_qbg:L2.Binds K fd_qbg ["thing","bound"] []):FnOk P w K mg base CX0 3 f_me fd_me ["thing"] (liftSp K (F_qba)):=
 Zar Fn sc_qba fun cdv A outer s H E hr=>(@Zah _ _ _ (@Zal _ _ _ _ (Zae G_qbg (hr.mono (by decide)) 1e0 m_qbg k_qbg b_qbg (@Zaa _ _ _ _ _ (Zab 0) (@Zaa _ _ _ _ _ (ZbI 1e0 T.c_MOST_CLAUSES) Zac 1e0) 1e0))))
end
section
variable {P:Yo}{w:World}{K:W.Frag}{mg:Str->Option Value}{base:Heap}
abbrev s_qaz:Stmt:=top 13
theorem sc_qaz:FnScope ["parts"] ["parts"] (defScope s_qaz):=⟨rfl,rfl,rfl,by decide +kernel,rfl,by decide +kernel,by decide +kernel⟩
theorem ok_qaz {f_me:Addr}{fd_me:Ym}(Fn:Fun K "is_bare" "is_bare" s_qaz f_me fd_me)(T:Txt mg):FnOk P w K mg base CX0 1 f_me fd_me ["parts"] (liftSp K (F_qaz)):=
 Zar Fn sc_qaz fun cdv A outer s H E hr=>(@Zah _ _ _ (@Zal _ _ _ _ (Zaq Zbj Zbl.r (ZaE 1e0 T.b_len (@Zaa _ _ _ _ _ (Zab 0) Zac 1e0)) Zad (nomark _))))
end
section
variable {P:Yo}{w:World}{K:W.Frag}{mg:Str->Option Value}{base:Heap}
abbrev s_qbk:Stmt:=top 14
theorem sc_qbk:FnScope ["parts"] ["parts"] (defScope s_qbk):=⟨rfl,rfl,rfl,by decide +kernel,rfl,by decide +kernel,by decide +kernel⟩
theorem ok_qbk {f_me:Addr}{fd_me:Ym}{f_qbm:Addr}{fd_qbm:Ym}(Fn:Fun K "is_of_word" "is_of_word" s_qbk f_me fd_me)(T:Txt mg)(G_qbm:FnOk P w K mg base CX0 1 f_qbm fd_qbm ["thing"] (liftSp K F_qbm))(m_qbm:mg "is_word"=some (.ref f_qbm))(k_qbm:Yw K (.ref f_qbm)=true)(b_qbm:L2.Binds K fd_qbm ["thing"] []):FnOk P w K mg base CX0 2 f_me fd_me ["parts"] (liftSp K (F_qbk)):=
 Zar Fn sc_qbk fun cdv A outer s H E hr=>(@Zah _ _ _ (@Zal _ _ _ _ (Zaw (Zaq Zbj Zbl.r (ZaE 1e0 T.b_len (@Zaa _ _ _ _ _ (Zab 0) Zac 1e0)) Zad (nomark _)) (ZaX (Zae G_qbm (hr.mono (by decide)) 1e0 m_qbm k_qbm b_qbm (@Zaa _ _ _ _ _ (Zam (ZaG hr) (Zab 0) Zad) Zac 1e0))))))
end
section
variable {P:Yo}{w:World}{K:W.Frag}{mg:Str->Option Value}{base:Heap}
abbrev s_qbh:Stmt:=top 15
theorem sc_qbh:FnScope ["parts"] ["parts"] (defScope s_qbh):=⟨rfl,rfl,rfl,by decide +kernel,rfl,by decide +kernel,by decide +kernel⟩
theorem ok_qbh {f_me:Addr}{fd_me:Ym}{f_qba:Addr}{fd_qba:Ym}(Fn:Fun K "is_of_clause" "is_of_clause" s_qbh f_me fd_me)(T:Txt mg)(G_qba:FnOk P w K mg base CX0 3 f_qba fd_qba ["thing"] (liftSp K F_qba))(m_qba:mg "is_clause_number"=some (.ref f_qba))(k_qba:Yw K (.ref f_qba)=true)(b_qba:L2.Binds K fd_qba ["thing"] []):FnOk P w K mg base CX0 4 f_me fd_me ["parts"] (liftSp K (F_qbh)):=
 Zar Fn sc_qbh fun cdv A outer s H E hr=>(@Zah _ _ _ (@Zal _ _ _ _ (Zaw (Zaq Zbj Zbl.r (ZaE 1e0 T.b_len (@Zaa _ _ _ _ _ (Zab 0) Zac 1e0)) Zad (nomark _)) (ZaX (Zae G_qba (hr.mono (by decide)) 1e0 m_qba k_qba b_qba (@Zaa _ _ _ _ _ (Zam (ZaG hr) (Zab 0) Zad) Zac 1e0))))))
end
section
variable {P:Yo}{w:World}{K:W.Frag}{mg:Str->Option Value}{base:Heap}
abbrev s_qbj:Stmt:=top 16
theorem sc_qbj:FnScope ["parts"] ["parts"] (defScope s_qbj):=⟨rfl,rfl,rfl,by decide +kernel,rfl,by decide +kernel,by decide +kernel⟩
theorem ok_qbj {f_me:Addr}{fd_me:Ym}{f_qba f_qbg:Addr}{fd_qba fd_qbg:Ym}(Fn:Fun K "is_of_part" "is_of_part" s_qbj f_me fd_me)(T:Txt mg)(G_qba:FnOk P w K mg base CX0 3 f_qba fd_qba ["thing"] (liftSp K F_qba))(m_qba:mg "is_clause_number"=some (.ref f_qba))(k_qba:Yw K (.ref f_qba)=true)(b_qba:L2.Binds K fd_qba ["thing"] [])(G_qbg:FnOk P w K mg base CX0 2 f_qbg fd_qbg ["thing","bound"] (liftSp K F_qbg))(m_qbg:mg "is_number_below"=some (.ref f_qbg))(k_qbg:Yw K (.ref f_qbg)=true)(b_qbg:L2.Binds K fd_qbg ["thing","bound"] []):FnOk P w K mg base CX0 4 f_me fd_me ["parts"] (liftSp K (F_qbj)):=
 Zar Fn sc_qbj fun cdv A outer s H E hr=>(@Zah _ _ _ (@Zal _ _ _ _ (Zaw (Zaq Zbj Zbl.r (ZaE 1e0 T.b_len (@Zaa _ _ _ _ _ (Zab 0) Zac 1e0)) Zad (nomark _)) (Zaw (Zae G_qba (hr.mono (by decide)) 1e0 m_qba k_qba b_qba (@Zaa _ _ _ _ _ (Zam (ZaG hr) (Zab 0) Zad) Zac 1e0)) (ZaX (Zae G_qbg (hr.mono (by decide)) 1e0 m_qbg k_qbg b_qbg (@Zaa _ _ _ _ _ (Zam (ZaG hr) (Zab 0) Zad) (@Zaa _ _ _ _ _ (ZbI 1e0 T.c_MOST_PARTS) Zac 1e0) 1e0)))))))
end
section
variable {P:Yo}{w:World}{K:W.Frag}{mg:Str->Option Value}{base:Heap}
abbrev s_qbi:Stmt:=top 17
theorem sc_qbi:FnScope ["parts"] ["parts"] (defScope s_qbi):=⟨rfl,rfl,rfl,by decide +kernel,rfl,by decide +kernel,by decide +kernel⟩
theorem ok_qbi {f_me:Addr}{fd_me:Ym}{f_qba f_qbm:Addr}{fd_qba fd_qbm:Ym}(Fn:Fun K "is_of_house" "is_of_house" s_qbi f_me fd_me)(T:Txt mg)(G_qba:FnOk P w K mg base CX0 3 f_qba fd_qba ["thing"] (liftSp K F_qba))(m_qba:mg "is_clause_number"=some (.ref f_qba))(k_qba:Yw K (.ref f_qba)=true)(b_qba:L2.Binds K fd_qba ["thing"] [])(G_qbm:FnOk P w K mg base CX0 1 f_qbm fd_qbm ["thing"] (liftSp K F_qbm))(m_qbm:mg "is_word"=some (.ref f_qbm))(k_qbm:Yw K (.ref f_qbm)=true)(b_qbm:L2.Binds K fd_qbm ["thing"] []):FnOk P w K mg base CX0 4 f_me fd_me ["parts"] (liftSp K (F_qbi)):=
 Zar Fn sc_qbi fun cdv A outer s H E hr=>(@Zah _ _ _ (@Zal _ _ _ _ (Zaw (Zaq Zbj Zbl.r (ZaE 1e0 T.b_len (@Zaa _ _ _ _ _ (Zab 0) Zac 1e0)) Zad (nomark _)) (Zaw (Zae G_qba (hr.mono (by decide)) 1e0 m_qba k_qba b_qba (@Zaa _ _ _ _ _ (Zam (ZaG hr) (Zab 0) Zad) Zac 1e0)) (Zaw (Zae G_qbm (hr.mono (by decide)) 1e0 m_qbm k_qbm b_qbm (@Zaa _ _ _ _ _ (Zam (ZaG hr) (Zab 0) Zad) Zac 1e0)) (ZaX (Zaq op_ne ne_ok.r (Zam (ZaG hr) (Zab 0) Zad) (Zch 1e0 T.c_JUDGE) (nomark _))))))))
end
section
variable {P:Yo}{w:World}{K:W.Frag}{mg:Str->Option Value}{base:Heap}
abbrev s_qbb:Stmt:=top 19
theorem sc_qbb:FnScope ["thing","fits"] ["thing"] (defScope s_qbb):=⟨rfl,rfl,rfl,by decide +kernel,rfl,by decide +kernel,by decide +kernel⟩
theorem ok_qbb {f_me:Addr}{fd_me:Ym}{f_qaz f_qbk f_qbj f_qbh f_qbi d_DEEDS:Addr}{fd_qaz fd_qbk fd_qbj fd_qbh fd_qbi:Ym}(Fn:Fun K "is_deed" "is_deed" s_qbb f_me fd_me)(T:Txt mg)(Tm_DEEDS:mg "DEEDS"=some (.ref d_DEEDS))(TD_DEEDS:TopD K w d_DEEDS (Zbm f_qaz f_qbk f_qbj f_qbh f_qbi))(G_qaz:FnOk P w K mg base CX0 1 f_qaz fd_qaz ["parts"] (liftSp K F_qaz))(m_qaz:mg "is_bare"=some (.ref f_qaz))(k_qaz:Yw K (.ref f_qaz)=true)(b_qaz:L2.Binds K fd_qaz ["parts"] [])(G_qbk:FnOk P w K mg base CX0 2 f_qbk fd_qbk ["parts"] (liftSp K F_qbk))(m_qbk:mg "is_of_word"=some (.ref f_qbk))(k_qbk:Yw K (.ref f_qbk)=true)(b_qbk:L2.Binds K fd_qbk ["parts"] [])(G_qbj:FnOk P w K mg base CX0 4 f_qbj fd_qbj ["parts"] (liftSp K F_qbj))(m_qbj:mg "is_of_part"=some (.ref f_qbj))(k_qbj:Yw K (.ref f_qbj)=true)(b_qbj:L2.Binds K fd_qbj ["parts"] [])(G_qbh:FnOk P w K mg base CX0 4 f_qbh fd_qbh ["parts"] (liftSp K F_qbh))(m_qbh:mg "is_of_clause"=some (.ref f_qbh))(k_qbh:Yw K (.ref f_qbh)=true)(b_qbh:L2.Binds K fd_qbh ["parts"] [])(G_qbi:FnOk P w K mg base CX0 4 f_qbi fd_qbi ["parts"] (liftSp K F_qbi))(m_qbi:mg "is_of_house"=some (.ref f_qbi))(k_qbi:Yw K (.ref f_qbi)=true)(b_qbi:L2.Binds K fd_qbi ["parts"] []):FnOk P w K mg base CX0 5 f_me fd_me ["thing"] (liftSp K (F_qbb d_DEEDS f_qaz f_qbk f_qbj f_qbh f_qbi)):=
 Zar Fn sc_qbb fun cdv A outer s H E hr=>(@Zaf _ _ _ _ _ (@ZaB _ _ _ _ _ _ _ _ (Zdk (Zbz (ZaW (ZaM (ZaZ 1e0 T.b_isinstance 1e0 (@Zaa _ _ _ _ _ (Zab 0) (@Zaa _ _ _ _ _ (Za5 1e0 T.b_tuple 1e0) Zac 1e0) 1e0)))) (Zbz (ZaW (ZaM (Zab 0))) (Zbz (ZaW (ZaM (ZaZ 1e0 T.b_isinstance 1e0 (@Zaa _ _ _ _ _ (Zam (ZaG hr) (Zab 0) Zad) (@Zaa _ _ _ _ _ (Za5 1e0 T.b_str 1e0) Zac 1e0) 1e0)))) (ZbG (ZaH (op_topnotin TD_DEEDS) topI_okN (Zam (ZaG hr) (Zab 0) Zad) (ZcE 1e0 Tm_DEEDS) rfl)))))) (@Zah _ _ _ (@Zal _ _ _ _ Zbe)) Zat) (@Zaf _ _ _ _ _ (Zap (i:=1) sc_qbb.nd rfl (Or.inl rfl) (Zdi TD_DEEDS (ZcE 1e0 Tm_DEEDS) (Zam (ZaG hr) (Zab 0) Zad))) (@Zah _ _ _ (@Zal _ _ _ _ (q_em_callV (k:=4) 1 (hv_of (fun q hq=>by
  simp only[ZaT,Ye,Yt,or_false] at hq
  rcases hq with rfl | rfl | rfl | rfl | rfl
  ·exact ⟨_,_,G_qaz.mono (by decide),k_qaz,b_qaz⟩
  ·exact ⟨_,_,G_qbk.mono (by decide),k_qbk,b_qbk⟩
  ·exact ⟨_,_,G_qbj.mono (by decide),k_qbj,b_qbj⟩
  ·exact ⟨_,_,G_qbh.mono (by decide),k_qbh,b_qbh⟩
  ·exact ⟨_,_,G_qbi.mono (by decide),k_qbi,b_qbi⟩)) (hr.mono (by decide)) (@Zaa _ _ _ _ _ (ZaR (Zab 0) (ZaD Zad) ZaK) Zac (by rfl)))))))
end
section
variable {P:Yo}{w:World}{K:W.Frag}{mg:Str->Option Value}{base:Heap}
abbrev s_qbe:Stmt:=top 20
theorem sc_qbe:FnScope ["thing"] ["thing"] (defScope s_qbe):=⟨rfl,rfl,rfl,by decide +kernel,rfl,by decide +kernel,by decide +kernel⟩
theorem ok_qbe {f_me:Addr}{fd_me:Ym}{f_qbl f_qbm f_qbf:Addr}{fd_qbl fd_qbm fd_qbf:Ym}(Fn:Fun K "is_letter_name" "is_letter_name" s_qbe f_me fd_me)(T:Txt mg)(G_qbl:FnOk P w K mg base CX0 1 f_qbl fd_qbl ["thing","least","most"] (liftSp K F_qbl))(m_qbl:mg "is_row_of"=some (.ref f_qbl))(k_qbl:Yw K (.ref f_qbl)=true)(b_qbl:L2.Binds K fd_qbl ["thing","least","most"] [])(G_qbm:FnOk P w K mg base CX0 1 f_qbm fd_qbm ["thing"] (liftSp K F_qbm))(m_qbm:mg "is_word"=some (.ref f_qbm))(k_qbm:Yw K (.ref f_qbm)=true)(b_qbm:L2.Binds K fd_qbm ["thing"] [])(G_qbf:FnOk P w K mg base CX0 1 f_qbf fd_qbf ["thing","least"] (liftSp K F_qbf))(m_qbf:mg "is_number"=some (.ref f_qbf))(k_qbf:Yw K (.ref f_qbf)=true)(b_qbf:L2.Binds K fd_qbf ["thing","least"] []):FnOk P w K mg base CX0 2 f_me fd_me ["thing"] (liftSp K (F_qbe)):=
 Zar Fn sc_qbe fun cdv A outer s H E hr=>(@Zah _ _ _ (@Zal _ _ _ _ (Zaw (Zae G_qbl (hr.mono (by decide)) 1e0 m_qbl k_qbl b_qbl (@Zaa _ _ _ _ _ (Zab 0) (@Zaa _ _ _ _ _ Zad (@Zaa _ _ _ _ _ Zad Zac 1e0) 1e0) 1e0)) (Zaw (Zae G_qbm (hr.mono (by decide)) 1e0 m_qbm k_qbm b_qbm (@Zaa _ _ _ _ _ (Zam (ZaG hr) (Zab 0) Zad) Zac 1e0)) (Zaw (Zae G_qbm (hr.mono (by decide)) 1e0 m_qbm k_qbm b_qbm (@Zaa _ _ _ _ _ (Zam (ZaG hr) (Zab 0) Zad) Zac 1e0)) (ZaX (Zae G_qbf (hr.mono (by decide)) 1e0 m_qbf k_qbf b_qbf (@Zaa _ _ _ _ _ (Zam (ZaG hr) (Zab 0) Zad) (@Zaa _ _ _ _ _ Zad Zac 1e0) 1e0))))))))
end
section
variable {P:Yo}{w:World}{K:W.Frag}{mg:Str->Option Value}{base:Heap}
abbrev s_qay:Stmt:=top 21
theorem sc_qay:FnScope ["thing","house","deal"] ["thing","house","deal"] (defScope s_qay):=⟨rfl,rfl,rfl,by decide +kernel,rfl,by decide +kernel,by decide +kernel⟩
theorem ok_qay {f_me:Addr}{fd_me:Ym}{f_qbl f_qbe:Addr}{fd_qbl fd_qbe:Ym}(Fn:Fun K "are_gots" "are_gots" s_qay f_me fd_me)(T:Txt mg)(G_qbl:FnOk P w K mg base CX0 1 f_qbl fd_qbl ["thing","least","most"] (liftSp K F_qbl))(m_qbl:mg "is_row_of"=some (.ref f_qbl))(k_qbl:Yw K (.ref f_qbl)=true)(b_qbl:L2.Binds K fd_qbl ["thing","least","most"] [])(G_qbe:FnOk P w K mg base CX0 2 f_qbe fd_qbe ["thing"] (liftSp K F_qbe))(m_qbe:mg "is_letter_name"=some (.ref f_qbe))(k_qbe:Yw K (.ref f_qbe)=true)(b_qbe:L2.Binds K fd_qbe ["thing"] []):FnOk P w K mg base CX0 3 f_me fd_me ["thing","house","deal"] (liftSp K (F_qay)):=
 Zar Fn sc_qay fun cdv A outer s H E hr=>(@Zaf _ _ _ _ _ (@ZaB _ _ _ _ _ _ _ _ (Zdk (Zbz (ZaW (ZaM (Zae G_qbl (hr.mono (by decide)) 1e0 m_qbl k_qbl b_qbl (@Zaa _ _ _ _ _ (Zab 0) (@Zaa _ _ _ _ _ Zad (@Zaa _ _ _ _ _ (ZbI 1e0 T.c_MOST_GOTS) Zac 1e0) 1e0) 1e0)))) (ZbG (ZaW (ZaM (ZbJ rfl 1e0 T.b_all 1e0 (@Zaa _ _ _ _ _ (Zau (ZaN (vs:=["name"]) (fs:=[]) (fr:=[]) (by exact ⟨rfl,rfl,rfl,rfl,rfl,rfl,rfl⟩) rfl (Za1 (Zab 0)) (fun _ _ _ _ _=>(Zaj (i:=0) (show ((["name"]:List Str)++([]:List Str)).Nodup by decide +kernel) rfl (Or.inl rfl))) (fun _ _ _ _ _=>ZaY) (fun _ _ _ _ _=>(Zae G_qbe (hr.mono (by decide)) 1e0 m_qbe k_qbe b_qbe (@Zaa _ _ _ _ _ (Zab 0) Zac 1e0))))) Zac 1e0))))))) (@Zah _ _ _ (@Zal _ _ _ _ Zbe)) Zat) (@Zaf _ _ _ _ _ (@ZaB _ _ _ _ _ _ _ _ (ZaW (ZaM (ZbJ rfl 1e0 T.b_all 1e0 (@Zaa _ _ _ _ _ (Zau (ZaN (vs:=["low","high"]) (fs:=[]) (fr:=[]) (by exact ⟨rfl,rfl,rfl,rfl,rfl,rfl,rfl⟩) rfl (q_im_zip 1e0 T.b_zip (@Zaa _ _ _ _ _ (Zab 0) (@Zaa _ _ _ _ _ (ZaR (Zab 0) (ZaD Zad) ZaK) Zac 1e0) 1e0)) (fun _ _ _ _ _=>(Za2 rfl (Zak (Zaj (i:=0) (show ((["low","high"]:List Str)++([]:List Str)).Nodup by decide +kernel) rfl (Or.inl rfl)) (Zak (Zaj (i:=1) (show ((["low","high"]:List Str)++([]:List Str)).Nodup by decide +kernel) rfl (Or.inl rfl)) ZaU)))) (fun _ _ _ _ _=>ZaY) (fun _ _ _ _ _=>(Zaq (op_ltD (hu64 hr)) ltD_ok.r (Zab 0) (Zab 1) (nomark _))))) Zac 1e0)))) (@Zah _ _ _ (@Zal _ _ _ _ Zbe)) Zat) (@Zah _ _ _ (@Zal _ _ _ _ (ZbJ rfl 1e0 T.b_all 1e0 (@Zaa _ _ _ _ _ (Zau (ZaN (vs:=["name"]) (fs:=["house","deal"]) (fr:=[1,2]) (by exact ⟨rfl,rfl,rfl,rfl,rfl,rfl,rfl⟩) rfl (Za1 (Zab 0)) (fun _ _ _ _ _=>(Zaj (i:=0) (show ((["name"]:List Str)++(["house","deal"]:List Str)).Nodup by decide +kernel) rfl (Or.inl rfl))) (fun _ _ _ _ _=>ZaY) (fun _ _ _ _ _=>(Zaq (op_neD (hu64 hr)) Zda.r (ZaR (Zab 0) ZaK (ZaD Zad)) (ZaC (@Zaa _ _ _ _ _ (Zab 1) (@Zaa _ _ _ _ _ (Zab 2) Zac 1e0) 1e0)) (nomark _))))) Zac 1e0))))))
end
section
variable {P:Yo}{w:World}{K:W.Frag}{mg:Str->Option Value}{base:Heap}
abbrev s_qbd:Stmt:=top 22
theorem Zco:FnScope ["thing","house","deal","nr","prev","gots","time","deed"] ["thing"] (defScope s_qbd):=⟨rfl,rfl,rfl,by decide +kernel,rfl,by decide +kernel,by decide +kernel⟩
theorem ok_qbd {f_me:Addr}{fd_me:Ym}{f_qbl f_qbe f_qbf f_qay f_qbb d_DEEDS f_qaz f_qbk f_qbj f_qbh f_qbi:Addr}{fd_qbl fd_qbe fd_qbf fd_qay fd_qbb:Ym}(Fn:Fun K "is_letter" "is_letter" s_qbd f_me fd_me)(T:Txt mg)(G_qbl:FnOk P w K mg base CX0 1 f_qbl fd_qbl ["thing","least","most"] (liftSp K F_qbl))(m_qbl:mg "is_row_of"=some (.ref f_qbl))(k_qbl:Yw K (.ref f_qbl)=true)(b_qbl:L2.Binds K fd_qbl ["thing","least","most"] [])(G_qbe:FnOk P w K mg base CX0 2 f_qbe fd_qbe ["thing"] (liftSp K F_qbe))(m_qbe:mg "is_letter_name"=some (.ref f_qbe))(k_qbe:Yw K (.ref f_qbe)=true)(b_qbe:L2.Binds K fd_qbe ["thing"] [])(G_qbf:FnOk P w K mg base CX0 1 f_qbf fd_qbf ["thing","least"] (liftSp K F_qbf))(m_qbf:mg "is_number"=some (.ref f_qbf))(k_qbf:Yw K (.ref f_qbf)=true)(b_qbf:L2.Binds K fd_qbf ["thing","least"] [])(G_qay:FnOk P w K mg base CX0 3 f_qay fd_qay ["thing","house","deal"] (liftSp K F_qay))(m_qay:mg "are_gots"=some (.ref f_qay))(k_qay:Yw K (.ref f_qay)=true)(b_qay:L2.Binds K fd_qay ["thing","house","deal"] [])(G_qbb:FnOk P w K mg base CX0 5 f_qbb fd_qbb ["thing"] (liftSp K (F_qbb d_DEEDS f_qaz f_qbk f_qbj f_qbh f_qbi)))(m_qbb:mg "is_deed"=some (.ref f_qbb))(k_qbb:Yw K (.ref f_qbb)=true)(b_qbb:L2.Binds K fd_qbb ["thing"] []):FnOk P w K mg base CX0 6 f_me fd_me ["thing"] (liftSp K (F_qbd d_DEEDS f_qaz f_qbk f_qbj f_qbh f_qbi)):=
 Zar Fn Zco fun cdv A outer s H E hr=>(@Zaf _ _ _ _ _ (@ZaB _ _ _ _ _ _ _ _ (Zdk (Zbz (ZaW (ZaM (Zae G_qbl (hr.mono (by decide)) 1e0 m_qbl k_qbl b_qbl (@Zaa _ _ _ _ _ (Zab 0) (@Zaa _ _ _ _ _ Zad (@Zaa _ _ _ _ _ Zad Zac 1e0) 1e0) 1e0)))) (ZbG (ZaW (ZaM (Zae G_qbe (hr.mono (by decide)) 1e0 m_qbe k_qbe b_qbe (@Zaa _ _ _ _ _ (ZaR (Zab 0) ZaK (ZaD Zad)) Zac 1e0))))))) (@Zah _ _ _ (@Zal _ _ _ _ Zbe)) Zat) (@Zaf _ _ _ _ _ (Zbf (Zab 0) (Za2 rfl (Zak (Zaj (i:=1) Zco.nd rfl (Or.inl rfl)) (Zak (Zaj (i:=2) Zco.nd rfl (Or.inl rfl)) (Zak (Zaj (i:=3) Zco.nd rfl (Or.inl rfl)) (Zak (Zaj (i:=4) Zco.nd rfl (Or.inl rfl)) (Zak (Zaj (i:=5) Zco.nd rfl (Or.inl rfl)) (Zak (Zaj (i:=6) Zco.nd rfl (Or.inl rfl)) (Zak (Zaj (i:=7) Zco.nd rfl (Or.inl rfl)) ZaU))))))))) (@Zah _ _ _ (@Zal _ _ _ _ (Zaw (Zae G_qbf (hr.mono (by decide)) 1e0 m_qbf k_qbf b_qbf (@Zaa _ _ _ _ _ (Zab 4) (@Zaa _ _ _ _ _ Zad Zac 1e0) 1e0)) (Zaw (Zae G_qay (hr.mono (by decide)) 1e0 m_qay k_qay b_qay (@Zaa _ _ _ _ _ (Zab 5) (@Zaa _ _ _ _ _ (Zab 1) (@Zaa _ _ _ _ _ (Zab 2) Zac 1e0) 1e0) 1e0)) (Zaw (Zae G_qbf (hr.mono (by decide)) 1e0 m_qbf k_qbf b_qbf (@Zaa _ _ _ _ _ (Zab 6) (@Zaa _ _ _ _ _ Zad Zac 1e0) 1e0)) (ZaX (Zae G_qbb (hr.mono (by decide)) 1e0 m_qbb k_qbb b_qbb (@Zaa _ _ _ _ _ (Zab 7) Zac 1e0))))))))))
end
section
variable {P:Yo}{w:World}{K:W.Frag}{mg:Str->Option Value}{base:Heap}
abbrev s_qby:Stmt:=top 28
theorem sc_qby:FnScope ["line"] ["line"] (defScope s_qby):=⟨rfl,rfl,rfl,by decide +kernel,rfl,by decide +kernel,by decide +kernel⟩
theorem ok_qby {f_me:Addr}{fd_me:Ym}(Fn:Fun K "words_in" "words_in" s_qby f_me fd_me)(T:Txt mg):FnOk P w K mg base CX0 1 f_me fd_me ["line"] (liftSp K (F_qby)):=
 Zar Fn sc_qby fun cdv A outer s H E hr=>(@Zah _ _ _ (ZcU (ZaN (vs:=["word"]) (fs:=[]) (fr:=[]) (by exact ⟨rfl,rfl,rfl,rfl,rfl,rfl,rfl⟩) rfl (Za1 (Zdj (Zab 0) (@Zaa _ _ _ _ _ Zai Zac 1e0))) (fun _ _ _ _ _=>(Zaj (i:=0) (show ((["word"]:List Str)++([]:List Str)).Nodup by decide +kernel) rfl (Or.inl rfl))) (fun _ _ _ _ _=>(q_ts_one (ZaM (Zab 0)))) (fun _ _ _ _ _=>(Zab 0)))))
end
section
variable {P:Yo}{w:World}{K:W.Frag}{mg:Str->Option Value}{base:Heap}
abbrev s_qbc:Stmt:=top 29
theorem sc_qbc:FnScope ["word"] ["word"] (defScope s_qbc):=⟨rfl,rfl,rfl,by decide +kernel,rfl,by decide +kernel,by decide +kernel⟩
theorem ok_qbc {f_me:Addr}{fd_me:Ym}(Fn:Fun K "is_figures" "is_figures" s_qbc f_me fd_me)(T:Txt mg):FnOk P w K mg base CX0 1 f_me fd_me ["word"] (liftSp K (F_qbc)):=
 Zar Fn sc_qbc fun cdv A outer s H E hr=>(@Zah _ _ _ (@Zal _ _ _ _ (q_em_or (Zaq Zbj Zbl.r (Zab 0) Zai (nomark _)) (ZaX (Zaw (Zaq op_ne ne_ok.r (Zab 0) Zai (nomark _)) (Zaw (Zaq op_ne ne_ok.r (Zam (ZaG hr) (Zab 0) Zad) Zai (nomark _)) (ZaX (ZbJ rfl 1e0 T.b_all 1e0 (@Zaa _ _ _ _ _ (Zau (ZaN (vs:=["sign"]) (fs:=[]) (fr:=[]) (by exact ⟨rfl,rfl,rfl,rfl,rfl,rfl,rfl⟩) rfl (Za1 (Zab 0)) (fun _ _ _ _ _=>(Zaj (i:=0) (show ((["sign"]:List Str)++([]:List Str)).Nodup by decide +kernel) rfl (Or.inl rfl))) (fun _ _ _ _ _=>ZaY) (fun _ _ _ _ _=>(Zaq op_inAll in_ok.r (Zab 0) (Zch 1e0 T.c_FIGURES) rfl)))) Zac 1e0)))))))))
end
section
variable {P:Yo}{w:World}{K:W.Frag}{mg:Str->Option Value}{base:Heap}
abbrev s_qbo:Stmt:=top 32
theorem sc_qbo:FnScope ["holds"] ["holds"] (defScope s_qbo):=⟨rfl,rfl,rfl,by decide +kernel,rfl,by decide +kernel,by decide +kernel⟩
theorem ok_qbo {f_me:Addr}{fd_me:Ym}(Fn:Fun K "need" "need" s_qbo f_me fd_me)(T:Txt mg):FnOk P w K mg base CX0 1 f_me fd_me ["holds"] (liftSp K (F_qbo)):=
 Zar Fn sc_qbo fun cdv A outer s H E hr=>(@Zah _ _ _ (@ZaB _ _ _ _ _ _ _ _ (ZaW (ZaM (Zab 0))) (@Zah _ _ _ q_sm_raise) Zat))
end
section
variable {P:Yo}{w:World}{K:W.Frag}{mg:Str->Option Value}{base:Heap}
abbrev s_qbx:Stmt:=top 33
theorem sc_qbx:FnScope ["name","house","deal","nr"] ["name"] (defScope s_qbx):=⟨rfl,rfl,rfl,by decide +kernel,rfl,by decide +kernel,by decide +kernel⟩
theorem ok_qbx {f_me:Addr}{fd_me:Ym}(Fn:Fun K "shown_name" "shown_name" s_qbx f_me fd_me)(T:Txt mg):FnOk P w K mg base CX0 1 f_me fd_me ["name"] (liftSp K (F_qbx)):=
 Zar Fn sc_qbx fun cdv A outer s H E hr=>(@Zaf _ _ _ _ _ (Zbf (Zab 0) (Za2 rfl (Zak (Zaj (i:=1) sc_qbx.nd rfl (Or.inl rfl)) (Zak (Zaj (i:=2) sc_qbx.nd rfl (Or.inl rfl)) (Zak (Zaj (i:=3) sc_qbx.nd rfl (Or.inl rfl)) ZaU))))) (@Zah _ _ _ (@Zal _ _ _ _ (Zbc (Zaz (Za3 (Zab 1)) (Zaz Zai (Zaz (Za3 (Zab 2)) (Zaz Zai (Zaz (Za3 (Zab 3)) Zb2)))))))))
end
section
variable {P:Yo}{w:World}{K:W.Frag}{mg:Str->Option Value}{base:Heap}
abbrev s_qbv:Stmt:=top 34
theorem sc_qbv:FnScope ["deed"] ["deed"] (defScope s_qbv):=⟨rfl,rfl,rfl,by decide +kernel,rfl,by decide +kernel,by decide +kernel⟩
theorem ok_qbv {f_me:Addr}{fd_me:Ym}(Fn:Fun K "shown_deed" "shown_deed" s_qbv f_me fd_me)(T:Txt mg):FnOk P w K mg base CX0 1 f_me fd_me ["deed"] (liftSp K (F_qbv)):=
 Zar Fn sc_qbv fun cdv A outer s H E hr=>(@Zaf _ _ _ _ _ (@ZaB _ _ _ _ _ _ _ _ (ZaH Zbj Zbl.r (Zam (ZaG hr) (Zab 0) Zad) Zai (nomark _)) (@Zah _ _ _ (@Zal _ _ _ _ (Zbc (Zaz Zai (Zaz (Za3 (Zam (ZaG hr) (Zab 0) Zad)) (Zaz Zai (Zaz (Za3 (Zam (ZaG hr) (Zab 0) Zad)) Zb2))))))) Zat) (@Zah _ _ _ (@Zal _ _ _ _ (Zbd Zai (@Zaa _ _ _ _ _ (Zau (ZaN (vs:=["part"]) (fs:=[]) (fr:=[]) (by exact ⟨rfl,rfl,rfl,rfl,rfl,rfl,rfl⟩) rfl (Za1 (Zab 0)) (fun _ _ _ _ _=>(Zaj (i:=0) (show ((["part"]:List Str)++([]:List Str)).Nodup by decide +kernel) rfl (Or.inl rfl))) (fun _ _ _ _ _=>ZaY) (fun _ _ _ _ _=>(q_em_joined1 (Za3 (Zab 0)))))) Zac 1e0)))))
end
section
variable {P:Yo}{w:World}{K:W.Frag}{mg:Str->Option Value}{base:Heap}
abbrev s_qbw:Stmt:=top 35
theorem Zbx:FnScope ["letter","house","deal","nr","prev","gots","time","deed","text"] ["letter"] (defScope s_qbw):=⟨rfl,rfl,rfl,by decide +kernel,rfl,by decide +kernel,by decide +kernel⟩
theorem ok_qbw {f_me:Addr}{fd_me:Ym}{f_qbx f_qbv:Addr}{fd_qbx fd_qbv:Ym}(Fn:Fun K "shown_letter" "shown_letter" s_qbw f_me fd_me)(T:Txt mg)(G_qbx:FnOk P w K mg base CX0 1 f_qbx fd_qbx ["name"] (liftSp K F_qbx))(m_qbx:mg "shown_name"=some (.ref f_qbx))(k_qbx:Yw K (.ref f_qbx)=true)(b_qbx:L2.Binds K fd_qbx ["name"] [])(G_qbv:FnOk P w K mg base CX0 1 f_qbv fd_qbv ["deed"] (liftSp K F_qbv))(m_qbv:mg "shown_deed"=some (.ref f_qbv))(k_qbv:Yw K (.ref f_qbv)=true)(b_qbv:L2.Binds K fd_qbv ["deed"] []):FnOk P w K mg base CX0 2 f_me fd_me ["letter"] (liftSp K (F_qbw)):=
 Zar Fn Zbx fun cdv A outer s H E hr=>(@Zaf _ _ _ _ _ (Zbf (Zab 0) (Za2 rfl (Zak (Zaj (i:=1) Zbx.nd rfl (Or.inl rfl)) (Zak (Zaj (i:=2) Zbx.nd rfl (Or.inl rfl)) (Zak (Zaj (i:=3) Zbx.nd rfl (Or.inl rfl)) (Zak (Zaj (i:=4) Zbx.nd rfl (Or.inl rfl)) (Zak (Zaj (i:=5) Zbx.nd rfl (Or.inl rfl)) (Zak (Zaj (i:=6) Zbx.nd rfl (Or.inl rfl)) (Zak (Zaj (i:=7) Zbx.nd rfl (Or.inl rfl)) ZaU))))))))) (@Zaf _ _ _ _ _ (Zap (i:=8) Zbx.nd rfl (Or.inl rfl) (Zbc (Zaz (Za3 (Zab 1)) (Zaz Zai (Zaz (Za3 (Zab 2)) (Zaz Zai (Zaz (Za3 (Zab 3)) Zb2))))))) (@Zaf _ _ _ _ _ (@ZaB _ _ _ _ _ _ _ _ (ZaH op_ne ne_ok.r (Zab 4) Zad (nomark _)) (@Zah _ _ _ (q_sm_augS (i:=8) Zbx.nd rfl (Or.inl rfl) (Zbc (Zaz Zai (Zaz (Za3 (Zab 4)) Zb2))))) Zat) (@Zaf _ _ _ _ _ (@ZaB _ _ _ _ _ _ _ _ (ZaM (Zab 5)) (@Zah _ _ _ (q_sm_augS (i:=8) Zbx.nd rfl (Or.inl rfl) (ZaF Zai (Zbd Zai (@Zaa _ _ _ _ _ (Zau (ZaN (vs:=["name"]) (fs:=[]) (fr:=[]) (by exact ⟨rfl,rfl,rfl,rfl,rfl,rfl,rfl⟩) rfl (Za1 (Zab 5)) (fun _ _ _ _ _=>(Zaj (i:=0) (show ((["name"]:List Str)++([]:List Str)).Nodup by decide +kernel) rfl (Or.inl rfl))) (fun _ _ _ _ _=>ZaY) (fun _ _ _ _ _=>(Zae G_qbx (hr.mono (by decide)) 1e0 m_qbx k_qbx b_qbx (@Zaa _ _ _ _ _ (Zab 0) Zac 1e0))))) Zac 1e0))))) Zat) (@Zah _ _ _ (@Zal _ _ _ _ (ZaF (ZaF (Zab 8) (Zbc (Zaz Zai (Zaz (Za3 (Zab 6)) (Zaz Zai Zb2))))) (Zae G_qbv (hr.mono (by decide)) 1e0 m_qbv k_qbv b_qbv (@Zaa _ _ _ _ _ (Zab 7) Zac 1e0)))))))))
end
section
variable {P:Yo}{w:World}{K:W.Frag}{mg:Str->Option Value}{base:Heap}
abbrev s_qbz:Stmt:=top 36
theorem sc_qbz:FnScope ["text"] ["text"] (defScope s_qbz):=⟨rfl,rfl,rfl,by decide +kernel,rfl,by decide +kernel,by decide +kernel⟩
theorem ok_qbz {f_me:Addr}{fd_me:Ym}{f_qbo f_qby:Addr}{fd_qbo fd_qby:Ym}(Fn:Fun K "words_of" "words_of" s_qbz f_me fd_me)(T:Txt mg)(G_qbo:FnOk P w K mg base CX0 1 f_qbo fd_qbo ["holds"] (liftSp K F_qbo))(m_qbo:mg "need"=some (.ref f_qbo))(k_qbo:Yw K (.ref f_qbo)=true)(b_qbo:L2.Binds K fd_qbo ["holds"] [])(G_qby:FnOk P w K mg base CX0 1 f_qby fd_qby ["line"] (liftSp K F_qby))(m_qby:mg "words_in"=some (.ref f_qby))(k_qby:Yw K (.ref f_qby)=true)(b_qby:L2.Binds K fd_qby ["line"] []):FnOk P w K mg base CX0 2 f_me fd_me ["text"] (liftSp K (F_qbz)):=
 Zar Fn sc_qbz fun cdv A outer s H E hr=>(@Zaf _ _ _ _ _ (ZaJ (Zae G_qbo (hr.mono (by decide)) 1e0 m_qbo k_qbo b_qbo (@Zaa _ _ _ _ _ (ZaZ 1e0 T.b_isinstance 1e0 (@Zaa _ _ _ _ _ (Zab 0) (@Zaa _ _ _ _ _ (Za5 1e0 T.b_str 1e0) Zac 1e0) 1e0)) Zac 1e0))) (@Zah _ _ _ (@Zal _ _ _ _ (Zae G_qby (hr.mono (by decide)) 1e0 m_qby k_qby b_qby (@Zaa _ _ _ _ _ (Zab 0) Zac 1e0)))))
end
section
variable {P:Yo}{w:World}{K:W.Frag}{mg:Str->Option Value}{base:Heap}
abbrev s_qbt:Stmt:=top 37
theorem sc_qbt:FnScope ["word"] ["word"] (defScope s_qbt):=⟨rfl,rfl,rfl,by decide +kernel,rfl,by decide +kernel,by decide +kernel⟩
theorem ok_qbt {f_me:Addr}{fd_me:Ym}{f_qbc f_qbo:Addr}{fd_qbc fd_qbo:Ym}(Fn:Fun K "read_number" "read_number" s_qbt f_me fd_me)(T:Txt mg)(G_qbc:FnOk P w K mg base CX0 1 f_qbc fd_qbc ["word"] (liftSp K F_qbc))(m_qbc:mg "is_figures"=some (.ref f_qbc))(k_qbc:Yw K (.ref f_qbc)=true)(b_qbc:L2.Binds K fd_qbc ["word"] [])(G_qbo:FnOk P w K mg base CX0 1 f_qbo fd_qbo ["holds"] (liftSp K F_qbo))(m_qbo:mg "need"=some (.ref f_qbo))(k_qbo:Yw K (.ref f_qbo)=true)(b_qbo:L2.Binds K fd_qbo ["holds"] []):FnOk P w K mg base CX0 2 f_me fd_me ["word"] (liftSp K (F_qbt)):=
 Zar Fn sc_qbt fun cdv A outer s H E hr=>(@Zaf _ _ _ _ _ (ZaJ (Zae G_qbo (hr.mono (by decide)) 1e0 m_qbo k_qbo b_qbo (@Zaa _ _ _ _ _ (Zae G_qbc (hr.mono (by decide)) 1e0 m_qbc k_qbc b_qbc (@Zaa _ _ _ _ _ (Zab 0) Zac 1e0)) Zac 1e0))) (@Zah _ _ _ (@Zal _ _ _ _ (q_em_intT 1e0 T.b_int 1e0 (@Zaa _ _ _ _ _ (Zab 0) Zac 1e0)))))
end
section
variable {P:Yo}{w:World}{K:W.Frag}{mg:Str->Option Value}{base:Heap}
abbrev s_qbs:Stmt:=top 38
theorem sc_qbs:FnScope ["word","parts"] ["word"] (defScope s_qbs):=⟨rfl,rfl,rfl,by decide +kernel,rfl,by decide +kernel,by decide +kernel⟩
theorem ok_qbs {f_me:Addr}{fd_me:Ym}{f_qbo f_qbt:Addr}{fd_qbo fd_qbt:Ym}(Fn:Fun K "read_name" "read_name" s_qbs f_me fd_me)(T:Txt mg)(G_qbo:FnOk P w K mg base CX0 1 f_qbo fd_qbo ["holds"] (liftSp K F_qbo))(m_qbo:mg "need"=some (.ref f_qbo))(k_qbo:Yw K (.ref f_qbo)=true)(b_qbo:L2.Binds K fd_qbo ["holds"] [])(G_qbt:FnOk P w K mg base CX0 2 f_qbt fd_qbt ["word"] (liftSp K F_qbt))(m_qbt:mg "read_number"=some (.ref f_qbt))(k_qbt:Yw K (.ref f_qbt)=true)(b_qbt:L2.Binds K fd_qbt ["word"] []):FnOk P w K mg base CX0 3 f_me fd_me ["word"] (liftSp K (F_qbs)):=
 Zar Fn sc_qbs fun cdv A outer s H E hr=>(@Zaf _ _ _ _ _ (Zap (i:=1) sc_qbs.nd rfl (Or.inl rfl) (Zdj (Zab 0) (@Zaa _ _ _ _ _ Zai Zac 1e0))) (@Zaf _ _ _ _ _ (ZaJ (Zae G_qbo (hr.mono (by decide)) 1e0 m_qbo k_qbo b_qbo (@Zaa _ _ _ _ _ (Zaq Zbj Zbl.r (ZaE 1e0 T.b_len (@Zaa _ _ _ _ _ (Zab 1) Zac 1e0)) Zad (nomark _)) Zac 1e0))) (@Zah _ _ _ (@Zal _ _ _ _ (ZaC (@Zaa _ _ _ _ _ (Zam (ZaG hr) (Zab 1) Zad) (@Zaa _ _ _ _ _ (Zam (ZaG hr) (Zab 1) Zad) (@Zaa _ _ _ _ _ (Zae G_qbt (hr.mono (by decide)) 1e0 m_qbt k_qbt b_qbt (@Zaa _ _ _ _ _ (Zam (ZaG hr) (Zab 1) Zad) Zac 1e0)) Zac 1e0) 1e0) 1e0))))))
end
section
variable {P:Yo}{w:World}{K:W.Frag}{mg:Str->Option Value}{base:Heap}
abbrev s_qbu:Stmt:=top 39
theorem sc_qbu:FnScope ["words","prev"] ["words"] (defScope s_qbu):=⟨rfl,rfl,rfl,by decide +kernel,rfl,by decide +kernel,by decide +kernel⟩
theorem ok_qbu {f_me:Addr}{fd_me:Ym}{f_qbo f_qbt:Addr}{fd_qbo fd_qbt:Ym}(Fn:Fun K "read_prev" "read_prev" s_qbu f_me fd_me)(T:Txt mg)(G_qbo:FnOk P w K mg base CX0 1 f_qbo fd_qbo ["holds"] (liftSp K F_qbo))(m_qbo:mg "need"=some (.ref f_qbo))(k_qbo:Yw K (.ref f_qbo)=true)(b_qbo:L2.Binds K fd_qbo ["holds"] [])(G_qbt:FnOk P w K mg base CX0 2 f_qbt fd_qbt ["word"] (liftSp K F_qbt))(m_qbt:mg "read_number"=some (.ref f_qbt))(k_qbt:Yw K (.ref f_qbt)=true)(b_qbt:L2.Binds K fd_qbt ["word"] []):FnOk P w K mg base CX0 3 f_me fd_me ["words"] (liftSp K (F_qbu)):=
 Zar Fn sc_qbu fun cdv A outer s H E hr=>(@Zaf _ _ _ _ _ (@ZaB _ _ _ _ _ _ _ _ (ZaH (op_neD (hu64 hr)) Zda.r (ZaR (Zab 0) ZaK (ZaD Zad)) (Zau (ZaA (@Zaa _ _ _ _ _ Zai Zac 1e0))) (nomark _)) (@Zah _ _ _ (@Zal _ _ _ _ (ZaC (@Zaa _ _ _ _ _ Zad (@Zaa _ _ _ _ _ (Zab 0) Zac 1e0) 1e0)))) Zat) (@Zaf _ _ _ _ _ (ZaJ (Zae G_qbo (hr.mono (by decide)) 1e0 m_qbo k_qbo b_qbo (@Zaa _ _ _ _ _ (Zaq op_gt gt_ok.r (ZaE 1e0 T.b_len (@Zaa _ _ _ _ _ (Zab 0) Zac 1e0)) Zad (nomark _)) Zac 1e0))) (@Zaf _ _ _ _ _ (Zap (i:=1) sc_qbu.nd rfl (Or.inl rfl) (Zae G_qbt (hr.mono (by decide)) 1e0 m_qbt k_qbt b_qbt (@Zaa _ _ _ _ _ (Zam (ZaG hr) (Zab 0) Zad) Zac 1e0))) (@Zaf _ _ _ _ _ (ZaJ (Zae G_qbo (hr.mono (by decide)) 1e0 m_qbo k_qbo b_qbo (@Zaa _ _ _ _ _ (Zaq op_gt gt_ok.r (Zab 1) Zad (nomark _)) Zac 1e0))) (@Zah _ _ _ (@Zal _ _ _ _ (ZaC (@Zaa _ _ _ _ _ (Zab 1) (@Zaa _ _ _ _ _ (ZaR (Zab 0) (ZaD Zad) ZaK) Zac 1e0) 1e0))))))))
end
section
variable {P:Yo}{w:World}{K:W.Frag}{mg:Str->Option Value}{base:Heap}
abbrev s_qbq:Stmt:=top 40
theorem sc_qbq:FnScope ["words","cut"] ["words"] (defScope s_qbq):=⟨rfl,rfl,rfl,by decide +kernel,rfl,by decide +kernel,by decide +kernel⟩
theorem ok_qbq {f_me:Addr}{fd_me:Ym}{f_qbo f_qbs:Addr}{fd_qbo fd_qbs:Ym}(Fn:Fun K "read_gots" "read_gots" s_qbq f_me fd_me)(T:Txt mg)(G_qbo:FnOk P w K mg base CX0 1 f_qbo fd_qbo ["holds"] (liftSp K F_qbo))(m_qbo:mg "need"=some (.ref f_qbo))(k_qbo:Yw K (.ref f_qbo)=true)(b_qbo:L2.Binds K fd_qbo ["holds"] [])(G_qbs:FnOk P w K mg base CX0 3 f_qbs fd_qbs ["word"] (liftSp K F_qbs))(m_qbs:mg "read_name"=some (.ref f_qbs))(k_qbs:Yw K (.ref f_qbs)=true)(b_qbs:L2.Binds K fd_qbs ["word"] []):FnOk P w K mg base CX0 4 f_me fd_me ["words"] (liftSp K (F_qbq)):=
 Zar Fn sc_qbq fun cdv A outer s H E hr=>(@Zaf _ _ _ _ _ (@ZaB _ _ _ _ _ _ _ _ (ZaH (op_neD (hu64 hr)) Zda.r (ZaR (Zab 0) ZaK (ZaD Zad)) (Zau (ZaA (@Zaa _ _ _ _ _ Zai Zac 1e0))) (nomark _)) (@Zah _ _ _ (@Zal _ _ _ _ (ZaC (@Zaa _ _ _ _ _ (ZaC Zac) (@Zaa _ _ _ _ _ (Zab 0) Zac 1e0) 1e0)))) Zat) (@Zaf _ _ _ _ _ (ZaJ (Zae G_qbo (hr.mono (by decide)) 1e0 m_qbo k_qbo b_qbo (@Zaa _ _ _ _ _ (Zaq op_inAll in_ok.r Zai (Zab 0) rfl) Zac 1e0))) (@Zaf _ _ _ _ _ (Zap (i:=1) sc_qbq.nd rfl (Or.inl rfl) (q_em_index (Zab 0) (@Zaa _ _ _ _ _ Zai Zac 1e0))) (@Zaf _ _ _ _ _ (ZaJ (Zae G_qbo (hr.mono (by decide)) 1e0 m_qbo k_qbo b_qbo (@Zaa _ _ _ _ _ (Zaq op_gt gt_ok.r (Zab 1) Zad (nomark _)) Zac 1e0))) (@Zah _ _ _ (@Zal _ _ _ _ (ZaC (@Zaa _ _ _ _ _ (ZcV 1e0 T.b_tuple 1e0 (@Zaa _ _ _ _ _ (Zau (ZaN (vs:=["word"]) (fs:=[]) (fr:=[]) (by exact ⟨rfl,rfl,rfl,rfl,rfl,rfl,rfl⟩) rfl (Za1 (ZaR (Zab 0) (ZaD Zad) (ZaD (Zab 1)))) (fun _ _ _ _ _=>(Zaj (i:=0) (show ((["word"]:List Str)++([]:List Str)).Nodup by decide +kernel) rfl (Or.inl rfl))) (fun _ _ _ _ _=>ZaY) (fun _ _ _ _ _=>(Zae G_qbs (hr.mono (by decide)) 1e0 m_qbs k_qbs b_qbs (@Zaa _ _ _ _ _ (Zab 0) Zac 1e0))))) Zac 1e0)) (@Zaa _ _ _ _ _ (ZaR (Zab 0) (ZaD (Zab 1)) ZaK) Zac 1e0) 1e0))))))))
end
section
variable {P:Yo}{w:World}{K:W.Frag}{mg:Str->Option Value}{base:Heap}
abbrev s_qbp:Stmt:=top 41
theorem sc_qbp:FnScope ["words","form","deed","kind","word"] ["words"] (defScope s_qbp):=⟨rfl,rfl,rfl,by decide +kernel,rfl,by decide +kernel,by decide +kernel⟩
theorem ok_qbp {f_me:Addr}{fd_me:Ym}{f_qbo f_qbt d_DEED_FORMS f_DEED_FORMS_0 f_DEED_FORMS_1 f_DEED_FORMS_2 f_DEED_FORMS_3 f_DEED_FORMS_4 f_DEED_FORMS_5 f_DEED_FORMS_6 f_DEED_FORMS_7:Addr}{fd_qbo fd_qbt:Ym}(Fn:Fun K "read_deed" "read_deed" s_qbp f_me fd_me)(T:Txt mg)(Tm_DEED_FORMS:mg "DEED_FORMS"=some (.ref d_DEED_FORMS))(TD_DEED_FORMS:TopD K w d_DEED_FORMS (Zax f_DEED_FORMS_0 f_DEED_FORMS_1 f_DEED_FORMS_2 f_DEED_FORMS_3 f_DEED_FORMS_4 f_DEED_FORMS_5 f_DEED_FORMS_6 f_DEED_FORMS_7))(TU_DEED_FORMS:TupT K (Zan f_DEED_FORMS_0 f_DEED_FORMS_1 f_DEED_FORMS_2 f_DEED_FORMS_3 f_DEED_FORMS_4 f_DEED_FORMS_5 f_DEED_FORMS_6 f_DEED_FORMS_7))(G_qbo:FnOk P w K mg base CX0 1 f_qbo fd_qbo ["holds"] (liftSp K F_qbo))(m_qbo:mg "need"=some (.ref f_qbo))(k_qbo:Yw K (.ref f_qbo)=true)(b_qbo:L2.Binds K fd_qbo ["holds"] [])(G_qbt:FnOk P w K mg base CX0 2 f_qbt fd_qbt ["word"] (liftSp K F_qbt))(m_qbt:mg "read_number"=some (.ref f_qbt))(k_qbt:Yw K (.ref f_qbt)=true)(b_qbt:L2.Binds K fd_qbt ["word"] []):FnOk P w K mg base CX0 3 f_me fd_me ["words"] (liftSp K (F_qbp d_DEED_FORMS f_DEED_FORMS_0 f_DEED_FORMS_1 f_DEED_FORMS_2 f_DEED_FORMS_3 f_DEED_FORMS_4 f_DEED_FORMS_5 f_DEED_FORMS_6 f_DEED_FORMS_7)):=
 Zar Fn sc_qbp fun cdv A outer s H E hr=>(@Zaf _ _ _ _ _ (ZaJ (Zae G_qbo (hr.mono (by decide)) 1e0 m_qbo k_qbo b_qbo (@Zaa _ _ _ _ _ (Zaq (op_topin TD_DEED_FORMS) topI_ok (Zam (ZaG hr) (Zab 0) Zad) (ZcE 1e0 Tm_DEED_FORMS) rfl) Zac 1e0))) (@Zaf _ _ _ _ _ (Zap (i:=1) sc_qbp.nd rfl (Or.inl rfl) (Zdi TD_DEED_FORMS (ZcE 1e0 Tm_DEED_FORMS) (Zam (ZaG hr) (Zab 0) Zad))) (@Zaf _ _ _ _ _ (ZaJ (Zae G_qbo (hr.mono (by decide)) 1e0 m_qbo k_qbo b_qbo (@Zaa _ _ _ _ _ (Zaq Zbj Zbl.r (ZaE 1e0 T.b_len (@Zaa _ _ _ _ _ (Zab 0) Zac 1e0)) (ZaF (q_em_lenT TU_DEED_FORMS 1e0 T.b_len (@Zaa _ _ _ _ _ (Zab 1) Zac 1e0)) Zad) (nomark _)) Zac 1e0))) (@Zaf _ _ _ _ _ (ZbH (i:=2) sc_qbp.nd rfl (Or.inl rfl) (ZaA (@Zaa _ _ _ _ _ (Zam (ZaG hr) (Zab 0) Zad) Zac 1e0))) (@Zaf _ _ _ _ _ (ZcD Vs rfl (q_im_zipT TU_DEED_FORMS 1e0 T.b_zip (@Zaa _ _ _ _ _ (Zab 1) (@Zaa _ _ _ _ _ (ZaR (Zab 0) (ZaD Zad) ZaK) Zac 1e0) 1e0)) (Za2 rfl (Zak (Zaj (i:=3) sc_qbp.nd rfl (Or.inl rfl)) (Zak (Zaj (i:=4) sc_qbp.nd rfl (Or.inl rfl)) ZaU))) (@Zah _ _ _ (@ZaB _ _ _ _ _ _ _ _ (ZaH Zbj Zbl.r (Zab 3) Zai (nomark _)) (@Zah _ _ _ (ZaJ (Zae G_qbo (hr.mono (by decide)) 1e0 m_qbo k_qbo b_qbo (@Zaa _ _ _ _ _ (Zaq Zbj Zbl.r (Zab 4) Zai (nomark _)) Zac 1e0)))) (@Zah _ _ _ (ZaJ (q_em_append (Zab 2) (@Zaa _ _ _ _ _ (q_em_if (ZaH Zbj Zbl.r (Zab 3) Zai (nomark _)) (Zae G_qbt (hr.mono (by decide)) 1e0 m_qbt k_qbt b_qbt (@Zaa _ _ _ _ _ (Zab 4) Zac 1e0)) (Zab 4)) Zac 1e0))))))) (@Zah _ _ _ (@Zal _ _ _ _ (ZcV 1e0 T.b_tuple 1e0 (@Zaa _ _ _ _ _ (Zab 2) Zac 1e0)))))))))
end
section
variable {P:Yo}{w:World}{K:W.Frag}{mg:Str->Option Value}{base:Heap}
abbrev s_qbr:Stmt:=top 42
theorem ZbP:FnScope ["text","words","house","deal","nr","prev","gots","letter"] ["text"] (defScope s_qbr):=⟨rfl,rfl,rfl,by decide +kernel,rfl,by decide +kernel,by decide +kernel⟩
theorem ok_qbr {f_me:Addr}{fd_me:Ym}{f_qbz f_qbo f_qbt f_qbu f_qbq f_qbp f_qbd d_DEEDS f_qaz f_qbk f_qbj f_qbh f_qbi d_DEED_FORMS f_DEED_FORMS_0 f_DEED_FORMS_1 f_DEED_FORMS_2 f_DEED_FORMS_3 f_DEED_FORMS_4 f_DEED_FORMS_5 f_DEED_FORMS_6 f_DEED_FORMS_7:Addr}{fd_qbz fd_qbo fd_qbt fd_qbu fd_qbq fd_qbp fd_qbd:Ym}(Fn:Fun K "read_letter" "read_letter" s_qbr f_me fd_me)(T:Txt mg)(G_qbz:FnOk P w K mg base CX0 2 f_qbz fd_qbz ["text"] (liftSp K F_qbz))(m_qbz:mg "words_of"=some (.ref f_qbz))(k_qbz:Yw K (.ref f_qbz)=true)(b_qbz:L2.Binds K fd_qbz ["text"] [])(G_qbo:FnOk P w K mg base CX0 1 f_qbo fd_qbo ["holds"] (liftSp K F_qbo))(m_qbo:mg "need"=some (.ref f_qbo))(k_qbo:Yw K (.ref f_qbo)=true)(b_qbo:L2.Binds K fd_qbo ["holds"] [])(G_qbt:FnOk P w K mg base CX0 2 f_qbt fd_qbt ["word"] (liftSp K F_qbt))(m_qbt:mg "read_number"=some (.ref f_qbt))(k_qbt:Yw K (.ref f_qbt)=true)(b_qbt:L2.Binds K fd_qbt ["word"] [])(G_qbu:FnOk P w K mg base CX0 3 f_qbu fd_qbu ["words"] (liftSp K F_qbu))(m_qbu:mg "read_prev"=some (.ref f_qbu))(k_qbu:Yw K (.ref f_qbu)=true)(b_qbu:L2.Binds K fd_qbu ["words"] [])(G_qbq:FnOk P w K mg base CX0 4 f_qbq fd_qbq ["words"] (liftSp K F_qbq))(m_qbq:mg "read_gots"=some (.ref f_qbq))(k_qbq:Yw K (.ref f_qbq)=true)(b_qbq:L2.Binds K fd_qbq ["words"] [])(G_qbp:FnOk P w K mg base CX0 3 f_qbp fd_qbp ["words"] (liftSp K (F_qbp d_DEED_FORMS f_DEED_FORMS_0 f_DEED_FORMS_1 f_DEED_FORMS_2 f_DEED_FORMS_3 f_DEED_FORMS_4 f_DEED_FORMS_5 f_DEED_FORMS_6 f_DEED_FORMS_7)))(m_qbp:mg "read_deed"=some (.ref f_qbp))(k_qbp:Yw K (.ref f_qbp)=true)(b_qbp:L2.Binds K fd_qbp ["words"] [])(G_qbd:FnOk P w K mg base CX0 6 f_qbd fd_qbd ["thing"] (liftSp K (F_qbd d_DEEDS f_qaz f_qbk f_qbj f_qbh f_qbi)))(m_qbd:mg "is_letter"=some (.ref f_qbd))(k_qbd:Yw K (.ref f_qbd)=true)(b_qbd:L2.Binds K fd_qbd ["thing"] []):FnOk P w K mg base CX0 7 f_me fd_me ["text"] (liftSp K (F_qbr d_DEEDS f_qaz f_qbk f_qbj f_qbh f_qbi d_DEED_FORMS f_DEED_FORMS_0 f_DEED_FORMS_1 f_DEED_FORMS_2 f_DEED_FORMS_3 f_DEED_FORMS_4 f_DEED_FORMS_5 f_DEED_FORMS_6 f_DEED_FORMS_7)):=
 Zar Fn ZbP fun cdv A outer s H E hr=>(@Zaf _ _ _ _ _ (Zap (i:=1) ZbP.nd rfl (Or.inl rfl) (Zae G_qbz (hr.mono (by decide)) 1e0 m_qbz k_qbz b_qbz (@Zaa _ _ _ _ _ (Zab 0) Zac 1e0))) (@Zaf _ _ _ _ _ (ZaJ (Zae G_qbo (hr.mono (by decide)) 1e0 m_qbo k_qbo b_qbo (@Zaa _ _ _ _ _ (Zaq op_gt gt_ok.r (ZaE 1e0 T.b_len (@Zaa _ _ _ _ _ (Zab 1) Zac 1e0)) Zad (nomark _)) Zac 1e0))) (@Zaf _ _ _ _ _ (Zbf (Zbs (Zab 1) ZaK (ZaD Zad)) (q_gm_lst rfl (Zak (Zaj (i:=2) ZbP.nd rfl (Or.inl rfl)) (Zak (Zaj (i:=3) ZbP.nd rfl (Or.inl rfl)) ZaU)))) (@Zaf _ _ _ _ _ (Zap (i:=4) ZbP.nd rfl (Or.inl rfl) (Zae G_qbt (hr.mono (by decide)) 1e0 m_qbt k_qbt b_qbt (@Zaa _ _ _ _ _ (Zam (ZaG hr) (Zab 1) Zad) Zac 1e0))) (@Zaf _ _ _ _ _ (Zbf (Zae G_qbu (hr.mono (by decide)) 1e0 m_qbu k_qbu b_qbu (@Zaa _ _ _ _ _ (Zbs (Zab 1) (ZaD Zad) ZaK) Zac 1e0)) (Za2 rfl (Zak (Zaj (i:=5) ZbP.nd rfl (Or.inl rfl)) (Zak (Zaj (i:=1) ZbP.nd rfl (Or.inl rfl)) ZaU)))) (@Zaf _ _ _ _ _ (Zbf (Zae G_qbq (hr.mono (by decide)) 1e0 m_qbq k_qbq b_qbq (@Zaa _ _ _ _ _ (Zab 1) Zac 1e0)) (Za2 rfl (Zak (Zaj (i:=6) ZbP.nd rfl (Or.inl rfl)) (Zak (Zaj (i:=1) ZbP.nd rfl (Or.inl rfl)) ZaU)))) (@Zaf _ _ _ _ _ (ZaJ (Zae G_qbo (hr.mono (by decide)) 1e0 m_qbo k_qbo b_qbo (@Zaa _ _ _ _ _ (Zaw (Zaq op_gt gt_ok.r (ZaE 1e0 T.b_len (@Zaa _ _ _ _ _ (Zab 1) Zac 1e0)) Zad (nomark _)) (Zaw (Zaq Zbj Zbl.r (Zam (ZaG hr) (Zab 1) Zad) Zai (nomark _)) (ZaX (q_em_ends (Zam (ZaG hr) (Zab 1) Zad) (@Zaa _ _ _ _ _ Zai Zac 1e0))))) Zac 1e0))) (@Zaf _ _ _ _ _ (Zap (i:=7) ZbP.nd rfl (Or.inl rfl) (ZaC (@Zaa _ _ _ _ _ (Zab 2) (@Zaa _ _ _ _ _ (Zab 3) (@Zaa _ _ _ _ _ (Zab 4) (@Zaa _ _ _ _ _ (Zab 5) (@Zaa _ _ _ _ _ (Zab 6) (@Zaa _ _ _ _ _ (Zae G_qbt (hr.mono (by decide)) 1e0 m_qbt k_qbt b_qbt (@Zaa _ _ _ _ _ (Zbs (Zam (ZaG hr) (Zab 1) Zad) ZaK (ZaD (q_em_neg Zad))) Zac 1e0)) (@Zaa _ _ _ _ _ (Zae G_qbp (hr.mono (by decide)) 1e0 m_qbp k_qbp b_qbp (@Zaa _ _ _ _ _ (Zbs (Zab 1) (ZaD Zad) ZaK) Zac 1e0)) Zac 1e0) 1e0) 1e0) 1e0) 1e0) 1e0) 1e0))) (@Zaf _ _ _ _ _ (ZaJ (Zae G_qbo (hr.mono (by decide)) 1e0 m_qbo k_qbo b_qbo (@Zaa _ _ _ _ _ (Zae G_qbd (hr.mono (by decide)) 1e0 m_qbd k_qbd b_qbd (@Zaa _ _ _ _ _ (Zab 7) Zac 1e0)) Zac 1e0))) (@Zah _ _ _ (@Zal _ _ _ _ (Zab 7))))))))))))
end
section
variable {P:Yo}{w:World}{K:W.Frag}{mg:Str->Option Value}{base:Heap}
abbrev s_qaa:Stmt:=top 44
theorem sc_qaa:FnScope ["_law_script","_law_k"] ["_law_script","_law_k"] (defScope s_qaa):=⟨rfl,rfl,rfl,by decide +kernel,rfl,by decide +kernel,by decide +kernel⟩
theorem ok_qaa {f_me:Addr}{fd_me:Ym}(Fn:Fun K "_law_cell_at" "_law_cell_at" s_qaa f_me fd_me)(T:Txt mg):FnOk P w K mg base CX0 1 f_me fd_me ["_law_script","_law_k"] (liftSp K (F_qaa)):=
 Zar Fn sc_qaa fun cdv A outer s H E hr=>(@Zaf _ _ _ _ _ (@ZaB _ _ _ _ _ _ _ _ (ZaH op_lt lt_ok.r (Zab 1) (ZaE 1e0 T.b_len (@Zaa _ _ _ _ _ (Zab 0) Zac 1e0)) (nomark _)) (@Zah _ _ _ (@Zal _ _ _ _ (Zam (ZaG hr) (Zab 0) (Zab 1)))) Zat) (@Zah _ _ _ (@Zal _ _ _ _ Zad)))
end
section
variable {P:Yo}{w:World}{K:W.Frag}{mg:Str->Option Value}{base:Heap}
abbrev s_qae:Stmt:=top 45
theorem Zcp:FnScope ["_law_script","_law_k","_law_cell","_law_seed"] ["_law_script","_law_k"] (defScope s_qae):=⟨rfl,rfl,rfl,by decide +kernel,rfl,by decide +kernel,by decide +kernel⟩
theorem ok_qae {f_me:Addr}{fd_me:Ym}{f_qaa:Addr}{fd_qaa:Ym}(Fn:Fun K "_law_left" "_law_left" s_qae f_me fd_me)(T:Txt mg)(G_qaa:FnOk P w K mg base CX0 1 f_qaa fd_qaa ["_law_script","_law_k"] (liftSp K F_qaa))(m_qaa:mg "_law_cell_at"=some (.ref f_qaa))(k_qaa:Yw K (.ref f_qaa)=true)(b_qaa:L2.Binds K fd_qaa ["_law_script","_law_k"] []):FnOk P w K mg base CX0 2 f_me fd_me ["_law_script","_law_k"] (liftSp K (F_qae)):=
 Zar Fn Zcp fun cdv A outer s H E hr=>(@Zaf _ _ _ _ _ (Zap (i:=2) Zcp.nd rfl (Or.inl rfl) (Zae G_qaa (hr.mono (by decide)) 1e0 m_qaa k_qaa b_qaa (@Zaa _ _ _ _ _ (Zab 0) (@Zaa _ _ _ _ _ (ZaQ (Zab 1) (q_em_max rfl 1e0 T.b_max 1e0 (@Zaa _ _ _ _ _ Zad (@Zaa _ _ _ _ _ (ZaE 1e0 T.b_len (@Zaa _ _ _ _ _ (Zab 0) Zac 1e0)) Zac 1e0) 1e0))) Zac 1e0) 1e0))) (@Zaf _ _ _ _ _ (Zap (i:=3) Zcp.nd rfl (Or.inl rfl) (ZaQ (Za9 (ZaF (ZaF (ZaQ (Zab 2) Zad) (Za9 (Za9 Zad (Zab 1)) (Zab 1))) Zad) Zad) Zad)) (@Zaf _ _ _ _ _ (@ZaB _ _ _ _ _ _ _ _ (ZaH Zbj Zbl.r (ZaQ (Zae G_qaa (hr.mono (by decide)) 1e0 m_qaa k_qaa b_qaa (@Zaa _ _ _ _ _ (Zab 0) (@Zaa _ _ _ _ _ Zad Zac 1e0) 1e0)) Zad) Zad (nomark _)) (@Zah _ _ _ (Zap (i:=2) Zcp.nd rfl (Or.inl rfl) Zad)) Zat) (@Zah _ _ _ (ZcU (ZaA (@Zaa _ _ _ _ _ (ZaQ (Zab 2) (Zb3 Zad Zad)) (@Zaa _ _ _ _ _ (Zab 3) Zac 1e0) 1e0)))))))
theorem okF_qae {f_me:Addr}{fd_me:Ym}{f_qaa:Addr}{fd_qaa:Ym}(Fn:Fun K "_law_left" "_law_left" s_qae f_me fd_me)(T:Txt mg)(G_qaa:FnOk P w K mg base CX0 1 f_qaa fd_qaa ["_law_script","_law_k"] (liftSp K F_qaa))(m_qaa:mg "_law_cell_at"=some (.ref f_qaa))(k_qaa:Yw K (.ref f_qaa)=true)(b_qaa:L2.Binds K fd_qaa ["_law_script","_law_k"] []):FnOk P w K mg base CX0 2 f_me fd_me ["_law_script","_law_k"] (liftSpF K (FF_qae)):=
 q_fn_mkF Fn Zcp fun cdv A outer s H E hr=>(@Zaf _ _ _ _ _ (Zap (i:=2) Zcp.nd rfl (Or.inl rfl) (Zae G_qaa (hr.mono (by decide)) 1e0 m_qaa k_qaa b_qaa (@Zaa _ _ _ _ _ (Zab 0) (@Zaa _ _ _ _ _ (ZaQ (Zab 1) (q_em_max rfl 1e0 T.b_max 1e0 (@Zaa _ _ _ _ _ Zad (@Zaa _ _ _ _ _ (ZaE 1e0 T.b_len (@Zaa _ _ _ _ _ (Zab 0) Zac 1e0)) Zac 1e0) 1e0))) Zac 1e0) 1e0))) (@Zaf _ _ _ _ _ (Zap (i:=3) Zcp.nd rfl (Or.inl rfl) (ZaQ (Za9 (ZaF (ZaF (ZaQ (Zab 2) Zad) (Za9 (Za9 Zad (Zab 1)) (Zab 1))) Zad) Zad) Zad)) (@Zaf _ _ _ _ _ (@ZaB _ _ _ _ _ _ _ _ (ZaH Zbj Zbl.r (ZaQ (Zae G_qaa (hr.mono (by decide)) 1e0 m_qaa k_qaa b_qaa (@Zaa _ _ _ _ _ (Zab 0) (@Zaa _ _ _ _ _ Zad Zac 1e0) 1e0)) Zad) Zad (nomark _)) (@Zah _ _ _ (Zap (i:=2) Zcp.nd rfl (Or.inl rfl) Zad)) Zat) (@Zah _ _ _ (ZcU (ZaA (@Zaa _ _ _ _ _ (ZaQ (Zab 2) (Zb3 Zad Zad)) (@Zaa _ _ _ _ _ (Zab 3) Zac 1e0) 1e0)))))))
end
section
variable {P:Yo}{w:World}{K:W.Frag}{mg:Str->Option Value}{base:Heap}
abbrev s_qaq:Stmt:=top 46
theorem sc_qaq:FnScope ["_law_left_here","_law_many","_law_digit"] ["_law_left_here","_law_many"] (defScope s_qaq):=⟨rfl,rfl,rfl,by decide +kernel,rfl,by decide +kernel,by decide +kernel⟩
theorem ok_qaq {f_me:Addr}{fd_me:Ym}(Fn:Fun K "_law_pick" "_law_pick" s_qaq f_me fd_me)(T:Txt mg):FnOk P w K mg base CX0 1 f_me fd_me ["_law_left_here","_law_many"] (liftSp K (F_qaq)):=
 Zar Fn sc_qaq fun cdv A outer s H E hr=>(@Zaf _ _ _ _ _ (@ZaB _ _ _ _ _ _ _ _ (ZaH op_gt gt_ok.r (Zam (ZaG hr) (Zab 0) Zad) Zad (nomark _)) (@Zaf _ _ _ _ _ (Zap (i:=2) sc_qaq.nd rfl (Or.inl rfl) (ZaQ (Zam (ZaG hr) (Zab 0) Zad) (Zab 1))) (@Zaf _ _ _ _ _ (Zdh (q_em_fdivW (Zam (ZaG hr) (Zab 0) Zad) (Zab 1)) (Zab 0) Zad) (@Zah _ _ _ (@Zal _ _ _ _ (Zab 2))))) Zat) (@Zaf _ _ _ _ _ (Zdh (ZaQ (ZaF (Za9 (Zam (ZaG hr) (Zab 0) Zad) Zad) Zad) Zad) (Zab 0) Zad) (@Zah _ _ _ (@Zal _ _ _ _ (ZaQ (ZaQ (Za9 (Zam (ZaG hr) (Zab 0) Zad) (Zam (ZaG hr) (Zab 0) Zad)) Zad) (Zab 1))))))
end
section
variable {P:Yo}{w:World}{K:W.Frag}{mg:Str->Option Value}{base:Heap}
abbrev s_qao:Stmt:=top 47
theorem sc_qao:FnScope ["_law_left_here","_law_most"] ["_law_left_here"] (defScope s_qao):=⟨rfl,rfl,rfl,by decide +kernel,rfl,by decide +kernel,by decide +kernel⟩
theorem ok_qao {f_me:Addr}{fd_me:Ym}{f_qaq:Addr}{fd_qaq:Ym}(Fn:Fun K "_law_number" "_law_number" s_qao f_me fd_me)(T:Txt mg)(G_qaq:FnOk P w K mg base CX0 1 f_qaq fd_qaq ["_law_left_here","_law_many"] (liftSp K F_qaq))(m_qaq:mg "_law_pick"=some (.ref f_qaq))(k_qaq:Yw K (.ref f_qaq)=true)(b_qaq:L2.Binds K fd_qaq ["_law_left_here","_law_many"] []):FnOk P w K mg base CX0 2 f_me fd_me ["_law_left_here"] (liftSp K (F_qao)):=
 Zar Fn sc_qao fun cdv A outer s H E hr=>(@Zaf _ _ _ _ _ (Zap (i:=1) sc_qao.nd rfl (Or.inl rfl) (Zam (ZaG hr) (Zau (ZaA (@Zaa _ _ _ _ _ Zad (@Zaa _ _ _ _ _ Zad (@Zaa _ _ _ _ _ (Zb3 Zad Zad) (@Zaa _ _ _ _ _ (Zb3 Zad Zad) Zac 1e0) 1e0) 1e0) 1e0))) (Zae G_qaq (hr.mono (by decide)) 1e0 m_qaq k_qaq b_qaq (@Zaa _ _ _ _ _ (Zab 0) (@Zaa _ _ _ _ _ Zad Zac 1e0) 1e0)))) (@Zah _ _ _ (@Zal _ _ _ _ (Zam (ZaG hr) (Zau (ZaA (@Zaa _ _ _ _ _ (Zae G_qaq (hr.mono (by decide)) 1e0 m_qaq k_qaq b_qaq (@Zaa _ _ _ _ _ (Zab 0) (@Zaa _ _ _ _ _ (Zab 1) Zac 1e0) 1e0)) (@Zaa _ _ _ _ _ (ZcF (ZcF (Zab 1) Zad) (Zae G_qaq (hr.mono (by decide)) 1e0 m_qaq k_qaq b_qaq (@Zaa _ _ _ _ _ (Zab 0) (@Zaa _ _ _ _ _ Zad Zac 1e0) 1e0))) Zac 1e0) 1e0))) (Zae G_qaq (hr.mono (by decide)) 1e0 m_qaq k_qaq b_qaq (@Zaa _ _ _ _ _ (Zab 0) (@Zaa _ _ _ _ _ Zad Zac 1e0) 1e0))))))
end
section
variable {P:Yo}{w:World}{K:W.Frag}{mg:Str->Option Value}{base:Heap}
abbrev s_qaw:Stmt:=top 48
theorem sc_qaw:FnScope ["_law_left_here","_law_letters","_law_kept","_law_size","_law_stem"] ["_law_left_here"] (defScope s_qaw):=⟨rfl,rfl,rfl,by decide +kernel,rfl,by decide +kernel,by decide +kernel⟩
theorem ok_qaw {f_me:Addr}{fd_me:Ym}{f_qaq:Addr}{fd_qaq:Ym}(Fn:Fun K "_law_word" "_law_word" s_qaw f_me fd_me)(T:Txt mg)(G_qaq:FnOk P w K mg base CX0 1 f_qaq fd_qaq ["_law_left_here","_law_many"] (liftSp K F_qaq))(m_qaq:mg "_law_pick"=some (.ref f_qaq))(k_qaq:Yw K (.ref f_qaq)=true)(b_qaq:L2.Binds K fd_qaq ["_law_left_here","_law_many"] []):FnOk P w K mg base CX0 2 f_me fd_me ["_law_left_here"] (liftSp K (F_qaw)):=
 Zar Fn sc_qaw fun cdv A outer s H E hr=>(@Zaf _ _ _ _ _ (Zap (i:=1) sc_qaw.nd rfl (Or.inr rfl) Zai) (@Zaf _ _ _ _ _ (Zap (i:=2) sc_qaw.nd rfl (Or.inl rfl) (Zau (ZaA (@Zaa _ _ _ _ _ Zai (@Zaa _ _ _ _ _ Zai (@Zaa _ _ _ _ _ Zai (@Zaa _ _ _ _ _ Zai (@Zaa _ _ _ _ _ Zai (@Zaa _ _ _ _ _ Zai (@Zaa _ _ _ _ _ Zai (@Zaa _ _ _ _ _ Zai (@Zaa _ _ _ _ _ Zai (@Zaa _ _ _ _ _ Zai (@Zaa _ _ _ _ _ Zai (@Zaa _ _ _ _ _ Zai (@Zaa _ _ _ _ _ Zai (@Zaa _ _ _ _ _ Zai Zac 1e0) 1e0) 1e0) 1e0) 1e0) 1e0) 1e0) 1e0) 1e0) 1e0) 1e0) 1e0) 1e0) 1e0)))) (@Zaf _ _ _ _ _ (Zap (i:=3) sc_qaw.nd rfl (Or.inl rfl) (Zam (ZaG hr) (Zau (ZaA (@Zaa _ _ _ _ _ Zad (@Zaa _ _ _ _ _ Zad (@Zaa _ _ _ _ _ Zad (@Zaa _ _ _ _ _ Zad (@Zaa _ _ _ _ _ (ZaF Zad (Zae G_qaq (hr.mono (by decide)) 1e0 m_qaq k_qaq b_qaq (@Zaa _ _ _ _ _ (Zab 0) (@Zaa _ _ _ _ _ Zad Zac 1e0) 1e0))) Zac 1e0) 1e0) 1e0) 1e0) 1e0))) (Zae G_qaq (hr.mono (by decide)) 1e0 m_qaq k_qaq b_qaq (@Zaa _ _ _ _ _ (Zab 0) (@Zaa _ _ _ _ _ Zad Zac 1e0) 1e0)))) (@Zaf _ _ _ _ _ (Zap (i:=4) sc_qaw.nd rfl (Or.inl rfl) (Zbd Zai (@Zaa _ _ _ _ _ (Zau (ZaN (vs:=["_law_k"]) (fs:=["_law_letters","_law_left_here"]) (fr:=[1,0]) (by exact ⟨rfl,rfl,rfl,rfl,rfl,rfl,rfl⟩) rfl (ZbV 1e0 T.b_range (@Zaa _ _ _ _ _ Zad Zac 1e0)) (fun _ _ _ _ _=>(Zaj (i:=0) (show ((["_law_k"]:List Str)++(["_law_letters","_law_left_here"]:List Str)).Nodup by decide +kernel) rfl (Or.inl rfl))) (fun _ _ _ _ _=>ZaY) (fun _ _ _ _ _=>(Zam (ZaG hr) (Zab 1) (Zae G_qaq (hr.mono (by decide)) 1e0 m_qaq k_qaq b_qaq (@Zaa _ _ _ _ _ (Zab 2) (@Zaa _ _ _ _ _ Zad Zac 1e0) 1e0)))))) Zac 1e0))) (@Zah _ _ _ (@Zal _ _ _ _ (Zam (ZaG hr) (Zau (ZaA (@Zaa _ _ _ _ _ (q_em_sliceS (q_em_mulT (Zab 4) Zad) ZaK (ZaD (Zab 3))) (@Zaa _ _ _ _ _ (Zam (ZaG hr) (Zab 2) (Zae G_qaq (hr.mono (by decide)) 1e0 m_qaq k_qaq b_qaq (@Zaa _ _ _ _ _ (Zab 0) (@Zaa _ _ _ _ _ Zad Zac 1e0) 1e0))) Zac 1e0) 1e0))) (Zb5 1e0 T.b_int 1e0 (@Zaa _ _ _ _ _ (Zaq Zbj Zbl.r (Zae G_qaq (hr.mono (by decide)) 1e0 m_qaq k_qaq b_qaq (@Zaa _ _ _ _ _ (Zab 0) (@Zaa _ _ _ _ _ Zad Zac 1e0) 1e0)) Zad (nomark _)) Zac 1e0)))))))))
end
section
variable {P:Yo}{w:World}{K:W.Frag}{mg:Str->Option Value}{base:Heap}
abbrev s_qak:Stmt:=top 49
theorem sc_qak:FnScope ["_law_left_here","_law_house","_law_deal"] ["_law_left_here"] (defScope s_qak):=⟨rfl,rfl,rfl,by decide +kernel,rfl,by decide +kernel,by decide +kernel⟩
theorem ok_qak {f_me:Addr}{fd_me:Ym}{f_qaw f_qao:Addr}{fd_qaw fd_qao:Ym}(Fn:Fun K "_law_name" "_law_name" s_qak f_me fd_me)(T:Txt mg)(G_qaw:FnOk P w K mg base CX0 2 f_qaw fd_qaw ["_law_left_here"] (liftSp K F_qaw))(m_qaw:mg "_law_word"=some (.ref f_qaw))(k_qaw:Yw K (.ref f_qaw)=true)(b_qaw:L2.Binds K fd_qaw ["_law_left_here"] [])(G_qao:FnOk P w K mg base CX0 2 f_qao fd_qao ["_law_left_here"] (liftSp K F_qao))(m_qao:mg "_law_number"=some (.ref f_qao))(k_qao:Yw K (.ref f_qao)=true)(b_qao:L2.Binds K fd_qao ["_law_left_here"] []):FnOk P w K mg base CX0 3 f_me fd_me ["_law_left_here"] (liftSp K (F_qak)):=
 Zar Fn sc_qak fun cdv A outer s H E hr=>(@Zaf _ _ _ _ _ (Zap (i:=1) sc_qak.nd rfl (Or.inl rfl) (Zae G_qaw (hr.mono (by decide)) 1e0 m_qaw k_qaw b_qaw (@Zaa _ _ _ _ _ (Zab 0) Zac 1e0))) (@Zaf _ _ _ _ _ (Zap (i:=2) sc_qak.nd rfl (Or.inl rfl) (Zae G_qaw (hr.mono (by decide)) 1e0 m_qaw k_qaw b_qaw (@Zaa _ _ _ _ _ (Zab 0) Zac 1e0))) (@Zah _ _ _ (@Zal _ _ _ _ (ZaC (@Zaa _ _ _ _ _ (Zab 1) (@Zaa _ _ _ _ _ (Zab 2) (@Zaa _ _ _ _ _ (ZaF Zad (ZaQ (Zae G_qao (hr.mono (by decide)) 1e0 m_qao k_qao b_qao (@Zaa _ _ _ _ _ (Zab 0) Zac 1e0)) (ZcF (Zb3 Zad Zad) Zad))) Zac 1e0) 1e0) 1e0))))))
end
section
variable {P:Yo}{w:World}{K:W.Frag}{mg:Str->Option Value}{base:Heap}
abbrev s_qac:Stmt:=top 50
theorem Zdg:FnScope ["_law_left_here","_law_c","_law_p","_law_word_here","_law_house","_law_some"] ["_law_left_here"] (defScope s_qac):=⟨rfl,rfl,rfl,by decide +kernel,rfl,by decide +kernel,by decide +kernel⟩
theorem ok_qac {f_me:Addr}{fd_me:Ym}{f_qaq f_qaw:Addr}{fd_qaq fd_qaw:Ym}(Fn:Fun K "_law_deed" "_law_deed" s_qac f_me fd_me)(T:Txt mg)(G_qaq:FnOk P w K mg base CX0 1 f_qaq fd_qaq ["_law_left_here","_law_many"] (liftSp K F_qaq))(m_qaq:mg "_law_pick"=some (.ref f_qaq))(k_qaq:Yw K (.ref f_qaq)=true)(b_qaq:L2.Binds K fd_qaq ["_law_left_here","_law_many"] [])(G_qaw:FnOk P w K mg base CX0 2 f_qaw fd_qaw ["_law_left_here"] (liftSp K F_qaw))(m_qaw:mg "_law_word"=some (.ref f_qaw))(k_qaw:Yw K (.ref f_qaw)=true)(b_qaw:L2.Binds K fd_qaw ["_law_left_here"] []):FnOk P w K mg base CX0 3 f_me fd_me ["_law_left_here"] (liftSp K (F_qac)):=
 Zar Fn Zdg fun cdv A outer s H E hr=>(@Zaf _ _ _ _ _ (Zap (i:=1) Zdg.nd rfl (Or.inl rfl) (Zae G_qaq (hr.mono (by decide)) 1e0 m_qaq k_qaq b_qaq (@Zaa _ _ _ _ _ (Zab 0) (@Zaa _ _ _ _ _ Zad Zac 1e0) 1e0))) (@Zaf _ _ _ _ _ (Zap (i:=2) Zdg.nd rfl (Or.inl rfl) (Zae G_qaq (hr.mono (by decide)) 1e0 m_qaq k_qaq b_qaq (@Zaa _ _ _ _ _ (Zab 0) (@Zaa _ _ _ _ _ Zad Zac 1e0) 1e0))) (@Zaf _ _ _ _ _ (Zap (i:=3) Zdg.nd rfl (Or.inl rfl) (Zae G_qaw (hr.mono (by decide)) 1e0 m_qaw k_qaw b_qaw (@Zaa _ _ _ _ _ (Zab 0) Zac 1e0))) (@Zaf _ _ _ _ _ (Zap (i:=4) Zdg.nd rfl (Or.inl rfl) (Zam (ZaG hr) (Zau (ZaA (@Zaa _ _ _ _ _ (Zab 3) (@Zaa _ _ _ _ _ Zai Zac 1e0) 1e0))) (Zb5 1e0 T.b_int 1e0 (@Zaa _ _ _ _ _ (Zaq Zbj Zbl.r (Zab 3) Zai (nomark _)) Zac 1e0)))) (@Zaf _ _ _ _ _ (Zap (i:=5) Zdg.nd rfl (Or.inl rfl) (Zau (ZaA (@Zaa _ _ _ _ _ (ZaC (@Zaa _ _ _ _ _ Zai Zac 1e0)) (@Zaa _ _ _ _ _ (ZaC (@Zaa _ _ _ _ _ Zai (@Zaa _ _ _ _ _ (Zab 3) Zac 1e0) 1e0)) (@Zaa _ _ _ _ _ (ZaC (@Zaa _ _ _ _ _ Zai (@Zaa _ _ _ _ _ (Zab 1) (@Zaa _ _ _ _ _ (Zab 2) Zac 1e0) 1e0) 1e0)) (@Zaa _ _ _ _ _ (ZaC (@Zaa _ _ _ _ _ Zai (@Zaa _ _ _ _ _ (Zab 1) Zac 1e0) 1e0)) (@Zaa _ _ _ _ _ (ZaC (@Zaa _ _ _ _ _ Zai (@Zaa _ _ _ _ _ (Zab 1) Zac 1e0) 1e0)) (@Zaa _ _ _ _ _ (ZaC (@Zaa _ _ _ _ _ Zai (@Zaa _ _ _ _ _ (Zab 1) (@Zaa _ _ _ _ _ (Zab 4) Zac 1e0) 1e0) 1e0)) Zac 1e0) 1e0) 1e0) 1e0) 1e0) 1e0)))) (@Zah _ _ _ (@Zal _ _ _ _ (Zam (ZaG hr) (ZaF (Zab 5) (Zau (ZaA (@Zaa _ _ _ _ _ (ZaC (@Zaa _ _ _ _ _ Zai (@Zaa _ _ _ _ _ (Zab 1) Zac 1e0) 1e0)) (@Zaa _ _ _ _ _ (ZaC (@Zaa _ _ _ _ _ Zai Zac 1e0)) Zac 1e0) 1e0)))) (Zae G_qaq (hr.mono (by decide)) 1e0 m_qaq k_qaq b_qaq (@Zaa _ _ _ _ _ (Zab 0) (@Zaa _ _ _ _ _ Zad Zac 1e0) 1e0))))))))))
end
section
variable {P:Yo}{w:World}{K:W.Frag}{mg:Str->Option Value}{base:Heap}
abbrev s_qag:Stmt:=top 51
theorem ZbZ:FnScope ["_law_left_here","_law_house","_law_deal","_law_number_here","_law_prev","_law_gots","_law_k","_law_name_here"] ["_law_left_here"] (defScope s_qag):=⟨rfl,rfl,rfl,by decide +kernel,rfl,by decide +kernel,by decide +kernel⟩
theorem ok_qag {f_me:Addr}{fd_me:Ym}{f_qak f_qao f_qaq f_qac:Addr}{fd_qak fd_qao fd_qaq fd_qac:Ym}(Fn:Fun K "_law_letter" "_law_letter" s_qag f_me fd_me)(T:Txt mg)(G_qak:FnOk P w K mg base CX0 3 f_qak fd_qak ["_law_left_here"] (liftSp K F_qak))(m_qak:mg "_law_name"=some (.ref f_qak))(k_qak:Yw K (.ref f_qak)=true)(b_qak:L2.Binds K fd_qak ["_law_left_here"] [])(G_qao:FnOk P w K mg base CX0 2 f_qao fd_qao ["_law_left_here"] (liftSp K F_qao))(m_qao:mg "_law_number"=some (.ref f_qao))(k_qao:Yw K (.ref f_qao)=true)(b_qao:L2.Binds K fd_qao ["_law_left_here"] [])(G_qaq:FnOk P w K mg base CX0 1 f_qaq fd_qaq ["_law_left_here","_law_many"] (liftSp K F_qaq))(m_qaq:mg "_law_pick"=some (.ref f_qaq))(k_qaq:Yw K (.ref f_qaq)=true)(b_qaq:L2.Binds K fd_qaq ["_law_left_here","_law_many"] [])(G_qac:FnOk P w K mg base CX0 3 f_qac fd_qac ["_law_left_here"] (liftSp K F_qac))(m_qac:mg "_law_deed"=some (.ref f_qac))(k_qac:Yw K (.ref f_qac)=true)(b_qac:L2.Binds K fd_qac ["_law_left_here"] []):FnOk P w K mg base CX0 4 f_me fd_me ["_law_left_here"] (liftSp K (F_qag)):=
 Zar Fn ZbZ fun cdv A outer s H E hr=>(@Zaf _ _ _ _ _ (Zbf (Zae G_qak (hr.mono (by decide)) 1e0 m_qak k_qak b_qak (@Zaa _ _ _ _ _ (Zab 0) Zac 1e0)) (Za2 rfl (Zak (Zaj (i:=1) ZbZ.nd rfl (Or.inl rfl)) (Zak (Zaj (i:=2) ZbZ.nd rfl (Or.inl rfl)) (Zak (Zaj (i:=3) ZbZ.nd rfl (Or.inl rfl)) ZaU))))) (@Zaf _ _ _ _ _ (Zap (i:=4) ZbZ.nd rfl (Or.inl rfl) (Zam (ZaG hr) (Zau (ZaA (@Zaa _ _ _ _ _ Zad (@Zaa _ _ _ _ _ (Zae G_qao (hr.mono (by decide)) 1e0 m_qao k_qao b_qao (@Zaa _ _ _ _ _ (Zab 0) Zac 1e0)) (@Zaa _ _ _ _ _ Zad (@Zaa _ _ _ _ _ Zad Zac 1e0) 1e0) 1e0) 1e0))) (Zae G_qaq (hr.mono (by decide)) 1e0 m_qaq k_qaq b_qaq (@Zaa _ _ _ _ _ (Zab 0) (@Zaa _ _ _ _ _ Zad Zac 1e0) 1e0)))) (@Zaf _ _ _ _ _ (q_sm_newT (n:=5) ZbZ.nd rfl (Or.inl rfl)) (@Zaf _ _ _ _ _ (ZcD Vs rfl (ZbV 1e0 T.b_range (@Zaa _ _ _ _ _ (Zam (ZaG hr) (Zau (ZaA (@Zaa _ _ _ _ _ Zad (@Zaa _ _ _ _ _ Zad (@Zaa _ _ _ _ _ Zad (@Zaa _ _ _ _ _ Zad (@Zaa _ _ _ _ _ Zad (@Zaa _ _ _ _ _ Zad Zac 1e0) 1e0) 1e0) 1e0) 1e0) 1e0))) (Zae G_qaq (hr.mono (by decide)) 1e0 m_qaq k_qaq b_qaq (@Zaa _ _ _ _ _ (Zab 0) (@Zaa _ _ _ _ _ Zad Zac 1e0) 1e0))) Zac 1e0)) (Zaj (i:=6) ZbZ.nd rfl (Or.inl rfl)) (@Zaf _ _ _ _ _ (Zap (i:=7) ZbZ.nd rfl (Or.inl rfl) (Zae G_qak (hr.mono (by decide)) 1e0 m_qak k_qak b_qak (@Zaa _ _ _ _ _ (Zab 0) Zac 1e0))) (@Zaf _ _ _ _ _ (@ZaB _ _ _ _ _ _ _ _ (ZaH Zbj Zbl.r (ZaQ (Zab 6) Zad) Zad (nomark _)) (@Zah _ _ _ (Zap (i:=7) ZbZ.nd rfl (Or.inl rfl) (ZaC (@Zaa _ _ _ _ _ (Zam (ZaG hr) (Zab 7) Zad) (@Zaa _ _ _ _ _ (ZaF (Zab 2) (Zb4 Zai (Zb5 1e0 T.b_int 1e0 (@Zaa _ _ _ _ _ (Zaq op_lt lt_ok.r (ZaE 1e0 T.b_len (@Zaa _ _ _ _ _ (Zab 2) Zac 1e0)) Zad (nomark _)) Zac 1e0)))) (@Zaa _ _ _ _ _ (Zam (ZaG hr) (Zab 7) Zad) Zac 1e0) 1e0) 1e0)))) Zat) (@Zah _ _ _ (@ZaB _ _ _ _ _ _ _ _ (ZaH (op_neD (hu64 hr)) Zda.r (ZaR (Zab 7) ZaK (ZaD Zad)) (ZaC (@Zaa _ _ _ _ _ (Zab 1) (@Zaa _ _ _ _ _ (Zab 2) Zac 1e0) 1e0)) (nomark _)) (@Zah _ _ _ (q_sm_setixT (hu64 hr) Zbe (Zab 5) (Zab 7))) Zat))))) (@Zah _ _ _ (@Zal _ _ _ _ (ZaC (@Zaa _ _ _ _ _ (Zab 1) (@Zaa _ _ _ _ _ (Zab 2) (@Zaa _ _ _ _ _ (Zab 3) (@Zaa _ _ _ _ _ (Zab 4) (@Zaa _ _ _ _ _ (ZcV 1e0 T.b_tuple 1e0 (@Zaa _ _ _ _ _ (Zau (q_fm_sorted3 rfl (hu64 hr) 1e0 T.b_sorted 1e0 (@Zaa _ _ _ _ _ (Zab 5) Zac 1e0))) Zac 1e0)) (@Zaa _ _ _ _ _ (Zae G_qao (hr.mono (by decide)) 1e0 m_qao k_qao b_qao (@Zaa _ _ _ _ _ (Zab 0) Zac 1e0)) (@Zaa _ _ _ _ _ (Zae G_qac (hr.mono (by decide)) 1e0 m_qac k_qac b_qac (@Zaa _ _ _ _ _ (Zab 0) Zac 1e0)) Zac 1e0) 1e0) 1e0) 1e0) 1e0) 1e0) 1e0))))))))
end
section
variable {P:Yo}{w:World}{K:W.Frag}{mg:Str->Option Value}{base:Heap}
abbrev s_qam:Stmt:=top 52
theorem sc_qam:FnScope ["_law_name_here"] ["_law_name_here"] (defScope s_qam):=⟨rfl,rfl,rfl,by decide +kernel,rfl,by decide +kernel,by decide +kernel⟩
theorem ok_qam {f_me:Addr}{fd_me:Ym}(Fn:Fun K "_law_name_text" "_law_name_text" s_qam f_me fd_me)(T:Txt mg):FnOk P w K mg base CX0 1 f_me fd_me ["_law_name_here"] (liftSp K (F_qam)):=
 Zar Fn sc_qam fun cdv A outer s H E hr=>(@Zah _ _ _ (@Zal _ _ _ _ (Zbd Zai (@Zaa _ _ _ _ _ (Zau (ZaN (vs:=["_law_part"]) (fs:=[]) (fr:=[]) (by exact ⟨rfl,rfl,rfl,rfl,rfl,rfl,rfl⟩) rfl (Za1 (Zab 0)) (fun _ _ _ _ _=>(Zaj (i:=0) (show ((["_law_part"]:List Str)++([]:List Str)).Nodup by decide +kernel) rfl (Or.inl rfl))) (fun _ _ _ _ _=>ZaY) (fun _ _ _ _ _=>(ZbA 1e0 T.b_str 1e0 (@Zaa _ _ _ _ _ (Zab 0) Zac 1e0))))) Zac 1e0))))
end
section
variable {P:Yo}{w:World}{K:W.Frag}{mg:Str->Option Value}{base:Heap}
abbrev s_qai:Stmt:=top 53
theorem Zbv:FnScope ["_law_letter_here","_law_house","_law_deal","_law_number_here","_law_prev","_law_gots","_law_time","_law_deed_here","_law_words"] ["_law_letter_here"] (defScope s_qai):=⟨rfl,rfl,rfl,by decide +kernel,rfl,by decide +kernel,by decide +kernel⟩
theorem ok_qai {f_me:Addr}{fd_me:Ym}{f_qam:Addr}{fd_qam:Ym}(Fn:Fun K "_law_letter_words" "_law_letter_words" s_qai f_me fd_me)(T:Txt mg)(G_qam:FnOk P w K mg base CX0 1 f_qam fd_qam ["_law_name_here"] (liftSp K F_qam))(m_qam:mg "_law_name_text"=some (.ref f_qam))(k_qam:Yw K (.ref f_qam)=true)(b_qam:L2.Binds K fd_qam ["_law_name_here"] []):FnOk P w K mg base CX0 2 f_me fd_me ["_law_letter_here"] (liftSp K (F_qai)):=
 Zar Fn Zbv fun cdv A outer s H E hr=>(@Zaf _ _ _ _ _ (Zbf (Zab 0) (Za2 rfl (Zak (Zaj (i:=1) Zbv.nd rfl (Or.inl rfl)) (Zak (Zaj (i:=2) Zbv.nd rfl (Or.inl rfl)) (Zak (Zaj (i:=3) Zbv.nd rfl (Or.inl rfl)) (Zak (Zaj (i:=4) Zbv.nd rfl (Or.inl rfl)) (Zak (Zaj (i:=5) Zbv.nd rfl (Or.inl rfl)) (Zak (Zaj (i:=6) Zbv.nd rfl (Or.inl rfl)) (Zak (Zaj (i:=7) Zbv.nd rfl (Or.inl rfl)) ZaU))))))))) (@Zaf _ _ _ _ _ (ZbH (i:=8) Zbv.nd rfl (Or.inl rfl) (ZaA (@Zaa _ _ _ _ _ (Zab 1) (@Zaa _ _ _ _ _ (Zab 2) (@Zaa _ _ _ _ _ (ZbA 1e0 T.b_str 1e0 (@Zaa _ _ _ _ _ (Zab 3) Zac 1e0)) Zac 1e0) 1e0) 1e0))) (@Zaf _ _ _ _ _ (@ZaB _ _ _ _ _ _ _ _ (ZaH op_ne ne_ok.r (Zab 4) Zad (nomark _)) (@Zah _ _ _ (ZbH (i:=8) Zbv.nd rfl (Or.inl rfl) (q_fm_cat (Zab 8) (Zau (ZaA (@Zaa _ _ _ _ _ Zai (@Zaa _ _ _ _ _ (ZbA 1e0 T.b_str 1e0 (@Zaa _ _ _ _ _ (Zab 4) Zac 1e0)) Zac 1e0) 1e0)))))) Zat) (@Zaf _ _ _ _ _ (@ZaB _ _ _ _ _ _ _ _ (ZaH (op_neD (hu64 hr)) Zda.r (Zab 5) (ZaC Zac) (nomark _)) (@Zah _ _ _ (ZbH (i:=8) Zbv.nd rfl (Or.inl rfl) (q_fm_cat (ZaF (Zab 8) (Zau (ZaA (@Zaa _ _ _ _ _ Zai Zac 1e0)))) (Zau (ZaN (vs:=["_law_name_here"]) (fs:=[]) (fr:=[]) (by exact ⟨rfl,rfl,rfl,rfl,rfl,rfl,rfl⟩) rfl (Za1 (Zab 5)) (fun _ _ _ _ _=>(Zaj (i:=0) (show ((["_law_name_here"]:List Str)++([]:List Str)).Nodup by decide +kernel) rfl (Or.inl rfl))) (fun _ _ _ _ _=>ZaY) (fun _ _ _ _ _=>(Zae G_qam (hr.mono (by decide)) 1e0 m_qam k_qam b_qam (@Zaa _ _ _ _ _ (Zab 0) Zac 1e0)))))))) Zat) (@Zaf _ _ _ _ _ (ZbH (i:=8) Zbv.nd rfl (Or.inl rfl) (q_fm_cat (ZaF (Zab 8) (Zau (ZaA (@Zaa _ _ _ _ _ Zai (@Zaa _ _ _ _ _ (ZaF (ZbA 1e0 T.b_str 1e0 (@Zaa _ _ _ _ _ (Zab 6) Zac 1e0)) Zai) Zac 1e0) 1e0)))) (Zau (ZaN (vs:=["_law_part"]) (fs:=[]) (fr:=[]) (by exact ⟨rfl,rfl,rfl,rfl,rfl,rfl,rfl⟩) rfl (Za1 (Zab 7)) (fun _ _ _ _ _=>(Zaj (i:=0) (show ((["_law_part"]:List Str)++([]:List Str)).Nodup by decide +kernel) rfl (Or.inl rfl))) (fun _ _ _ _ _=>ZaY) (fun _ _ _ _ _=>(ZbA 1e0 T.b_str 1e0 (@Zaa _ _ _ _ _ (Zab 0) Zac 1e0))))))) (@Zaf _ _ _ _ _ (@ZaB _ _ _ _ _ _ _ _ (ZaH Zbj Zbl.r (Zam (ZaG hr) (Zab 7) Zad) Zai (nomark _)) (@Zah _ _ _ (ZaJ (q_em_insert (Zab 8) (@Zaa _ _ _ _ _ (ZcF (ZaE 1e0 T.b_len (@Zaa _ _ _ _ _ (Zab 8) Zac 1e0)) Zad) (@Zaa _ _ _ _ _ Zai Zac 1e0) 1e0)))) Zat) (@Zah _ _ _ (@Zal _ _ _ _ (Zab 8)))))))))
end
section
variable {P:Yo}{w:World}{K:W.Frag}{mg:Str->Option Value}{base:Heap}
abbrev s_qau:Stmt:=top 54
theorem sc_qau:FnScope ["_law_left_here","_law_words","_law_text_here","_law_k","_law_word_here"] ["_law_left_here","_law_words"] (defScope s_qau):=⟨rfl,rfl,rfl,by decide +kernel,rfl,by decide +kernel,by decide +kernel⟩
theorem ok_qau {f_me:Addr}{fd_me:Ym}{f_qaq:Addr}{fd_qaq:Ym}(Fn:Fun K "_law_text" "_law_text" s_qau f_me fd_me)(T:Txt mg)(G_qaq:FnOk P w K mg base CX0 1 f_qaq fd_qaq ["_law_left_here","_law_many"] (liftSp K F_qaq))(m_qaq:mg "_law_pick"=some (.ref f_qaq))(k_qaq:Yw K (.ref f_qaq)=true)(b_qaq:L2.Binds K fd_qaq ["_law_left_here","_law_many"] []):FnOk P w K mg base CX0 2 f_me fd_me ["_law_left_here","_law_words"] (liftSp K (F_qau)):=
 Zar Fn sc_qau fun cdv A outer s H E hr=>(@Zaf _ _ _ _ _ (Zap (i:=2) sc_qau.nd rfl (Or.inl rfl) (Zb4 Zai (Zam (ZaG hr) (Zau (ZaA (@Zaa _ _ _ _ _ Zad (@Zaa _ _ _ _ _ Zad (@Zaa _ _ _ _ _ Zad (@Zaa _ _ _ _ _ Zad Zac 1e0) 1e0) 1e0) 1e0))) (Zae G_qaq (hr.mono (by decide)) 1e0 m_qaq k_qaq b_qaq (@Zaa _ _ _ _ _ (Zab 0) (@Zaa _ _ _ _ _ Zad Zac 1e0) 1e0))))) (@Zaf _ _ _ _ _ (ZcD Vs rfl (q_im_enum 1e0 T.b_enumerate (@Zaa _ _ _ _ _ (Zab 1) Zac 1e0)) (Za2 rfl (Zak (Zaj (i:=3) sc_qau.nd rfl (Or.inl rfl)) (Zak (Zaj (i:=4) sc_qau.nd rfl (Or.inl rfl)) ZaU))) (@Zah _ _ _ (Zap (i:=2) sc_qau.nd rfl (Or.inl rfl) (ZaF (ZaF (Zab 2) (Zb4 Zai (Za9 (Zb5 1e0 T.b_int 1e0 (@Zaa _ _ _ _ _ (Zaq op_gt gt_ok.r (Zab 3) Zad (nomark _)) Zac 1e0)) (Zam (ZaG hr) (Zau (ZaA (@Zaa _ _ _ _ _ Zad (@Zaa _ _ _ _ _ Zad (@Zaa _ _ _ _ _ Zad (@Zaa _ _ _ _ _ Zad Zac 1e0) 1e0) 1e0) 1e0))) (Zae G_qaq (hr.mono (by decide)) 1e0 m_qaq k_qaq b_qaq (@Zaa _ _ _ _ _ (Zab 0) (@Zaa _ _ _ _ _ Zad Zac 1e0) 1e0)))))) (Zab 4))))) (@Zah _ _ _ (@Zal _ _ _ _ (ZaF (Zab 2) (Zb4 Zai (Zam (ZaG hr) (Zau (ZaA (@Zaa _ _ _ _ _ Zad (@Zaa _ _ _ _ _ Zad (@Zaa _ _ _ _ _ Zad (@Zaa _ _ _ _ _ Zad Zac 1e0) 1e0) 1e0) 1e0))) (Zae G_qaq (hr.mono (by decide)) 1e0 m_qaq k_qaq b_qaq (@Zaa _ _ _ _ _ (Zab 0) (@Zaa _ _ _ _ _ Zad Zac 1e0) 1e0)))))))))
end
section
variable {P:Yo}{w:World}{K:W.Frag}{mg:Str->Option Value}{base:Heap}
abbrev s_qas:Stmt:=top 55
theorem sc_qas:FnScope ["_law_found","_law_due"] ["_law_found","_law_due"] (defScope s_qas):=⟨rfl,rfl,rfl,by decide +kernel,rfl,by decide +kernel,by decide +kernel⟩
theorem Zdl {f_me:Addr}{fd_me:Ym}(Fn:Fun K "_law_same" "_law_same" s_qas f_me fd_me)(T:Txt mg)(m_qas:mg "_law_same"=some (.ref f_me))(k_qas:Yw K (.ref f_me)=true)(b_qas:L2.Binds K fd_me ["_law_found","_law_due"] []):∀n:Nat,FnOk P w K mg base CX0 (1 + n) f_me fd_me ["_law_found","_law_due"] (liftSp K (F_qas n))
 | 0=>fn_none
 | n + 1=>by
  have G_qas:=Zdl Fn T m_qas k_qas b_qas n
  exact Zar Fn sc_qas fun cdv A outer s H E hr=>(@Zaf _ _ _ _ _ (@ZaB _ _ _ _ _ _ _ _ (ZaM (ZaZ 1e0 T.b_isinstance 1e0 (@Zaa _ _ _ _ _ (Zab 1) (@Zaa _ _ _ _ _ (Za5 1e0 T.b_tuple 1e0) Zac 1e0) 1e0))) (@Zaf _ _ _ _ _ (@ZaB _ _ _ _ _ _ _ _ (Zdk (Zbz (ZaW (ZaM (ZaZ 1e0 T.b_isinstance 1e0 (@Zaa _ _ _ _ _ (Zab 0) (@Zaa _ _ _ _ _ (Za5 1e0 T.b_tuple 1e0) Zac 1e0) 1e0)))) (ZbG (ZaH op_ne ne_ok.r (ZaE 1e0 T.b_len (@Zaa _ _ _ _ _ (Zab 0) Zac 1e0)) (ZaE 1e0 T.b_len (@Zaa _ _ _ _ _ (Zab 1) Zac 1e0)) (nomark _))))) (@Zah _ _ _ (@Zal _ _ _ _ Zbe)) Zat) (@Zah _ _ _ (@Zal _ _ _ _ (ZbJ rfl 1e0 T.b_all 1e0 (@Zaa _ _ _ _ _ (Zau (ZaN (vs:=["_law_one","_law_other"]) (fs:=[]) (fr:=[]) (by exact ⟨rfl,rfl,rfl,rfl,rfl,rfl,rfl⟩) rfl (q_im_zip 1e0 T.b_zip (@Zaa _ _ _ _ _ (Zab 0) (@Zaa _ _ _ _ _ (Zab 1) Zac 1e0) 1e0)) (fun _ _ _ _ _=>(Za2 rfl (Zak (Zaj (i:=0) (show ((["_law_one","_law_other"]:List Str)++([]:List Str)).Nodup by decide +kernel) rfl (Or.inl rfl)) (Zak (Zaj (i:=1) (show ((["_law_one","_law_other"]:List Str)++([]:List Str)).Nodup by decide +kernel) rfl (Or.inl rfl)) ZaU)))) (fun _ _ _ _ _=>ZaY) (fun _ _ _ _ _=>(Zae G_qas (hr.mono (by show _<=1 + n;lia)) 1e0 m_qas k_qas b_qas (@Zaa _ _ _ _ _ (Zab 0) (@Zaa _ _ _ _ _ (Zab 1) Zac 1e0) 1e0))))) Zac 1e0))))) Zat) (@Zaf _ _ _ _ _ (@ZaB _ _ _ _ _ _ _ _ (ZaM (ZaZ 1e0 T.b_isinstance 1e0 (@Zaa _ _ _ _ _ (Zab 1) (@Zaa _ _ _ _ _ (Za5 1e0 T.b_str 1e0) Zac 1e0) 1e0))) (@Zah _ _ _ (@Zal _ _ _ _ (Zaw (ZaZ 1e0 T.b_isinstance 1e0 (@Zaa _ _ _ _ _ (Zab 0) (@Zaa _ _ _ _ _ (Za5 1e0 T.b_str 1e0) Zac 1e0) 1e0)) (ZaX (Zaq Zbj Zbl.r (Zab 0) (Zab 1) (nomark _)))))) Zat) (@Zah _ _ _ (@Zal _ _ _ _ (Zaw (ZaZ 1e0 T.b_isinstance 1e0 (@Zaa _ _ _ _ _ (Zab 0) (@Zaa _ _ _ _ _ (Za5 1e0 T.b_int 1e0) Zac 1e0) 1e0)) (Zaw (q_em_not (ZaZ 1e0 T.b_isinstance 1e0 (@Zaa _ _ _ _ _ (Zab 0) (@Zaa _ _ _ _ _ (Za5 1e0 T.b_bool 1e0) Zac 1e0) 1e0))) (ZaX (Zaq Zbj Zbl.r (Zab 0) (Zab 1) (nomark _)))))))))
theorem ok_qas {f_me:Addr}{fd_me:Ym}(Fn:Fun K "_law_same" "_law_same" s_qas f_me fd_me)(T:Txt mg)(m_qas:mg "_law_same"=some (.ref f_me))(k_qas:Yw K (.ref f_me)=true)(b_qas:L2.Binds K fd_me ["_law_found","_law_due"] []):FnOk P w K mg base CX0 13 f_me fd_me ["_law_found","_law_due"] (liftSp K (F_qas 12)):=
 Zdl Fn T m_qas k_qas b_qas 12
end
section
variable {P:Yo}{w:World}{K:W.Frag}{mg:Str->Option Value}{base:Heap}
abbrev s_law:Stmt:=top 56
theorem sc_law:FnScope ["_law_script","_law_k","_law_left_here","_law_letter_here","_law_words"] ["_law_script"] (defScope s_law):=⟨rfl,rfl,rfl,by decide +kernel,rfl,by decide +kernel,by decide +kernel⟩
theorem ok_law {f_me:Addr}{fd_me:Ym}{f_qae f_qag f_qai f_qbw f_qbr f_qas f_qau d_DEEDS f_qaz f_qbk f_qbj f_qbh f_qbi d_DEED_FORMS f_DEED_FORMS_0 f_DEED_FORMS_1 f_DEED_FORMS_2 f_DEED_FORMS_3 f_DEED_FORMS_4 f_DEED_FORMS_5 f_DEED_FORMS_6 f_DEED_FORMS_7:Addr}{fd_qae fd_qag fd_qai fd_qbw fd_qbr fd_qas fd_qau:Ym}(Fn:Fun K "law" "law" s_law f_me fd_me)(T:Txt mg)(GF_qae:FnOk P w K mg base CX0 2 f_qae fd_qae ["_law_script","_law_k"] (liftSpF K FF_qae))(m_qae:mg "_law_left"=some (.ref f_qae))(k_qae:Yw K (.ref f_qae)=true)(b_qae:L2.Binds K fd_qae ["_law_script","_law_k"] [])(G_qag:FnOk P w K mg base CX0 4 f_qag fd_qag ["_law_left_here"] (liftSp K F_qag))(m_qag:mg "_law_letter"=some (.ref f_qag))(k_qag:Yw K (.ref f_qag)=true)(b_qag:L2.Binds K fd_qag ["_law_left_here"] [])(G_qai:FnOk P w K mg base CX0 2 f_qai fd_qai ["_law_letter_here"] (liftSp K F_qai))(m_qai:mg "_law_letter_words"=some (.ref f_qai))(k_qai:Yw K (.ref f_qai)=true)(b_qai:L2.Binds K fd_qai ["_law_letter_here"] [])(G_qbw:FnOk P w K mg base CX0 2 f_qbw fd_qbw ["letter"] (liftSp K F_qbw))(m_qbw:mg "shown_letter"=some (.ref f_qbw))(k_qbw:Yw K (.ref f_qbw)=true)(b_qbw:L2.Binds K fd_qbw ["letter"] [])(G_qbr:FnOk P w K mg base CX0 7 f_qbr fd_qbr ["text"] (liftSp K (F_qbr d_DEEDS f_qaz f_qbk f_qbj f_qbh f_qbi d_DEED_FORMS f_DEED_FORMS_0 f_DEED_FORMS_1 f_DEED_FORMS_2 f_DEED_FORMS_3 f_DEED_FORMS_4 f_DEED_FORMS_5 f_DEED_FORMS_6 f_DEED_FORMS_7)))(m_qbr:mg "read_letter"=some (.ref f_qbr))(k_qbr:Yw K (.ref f_qbr)=true)(b_qbr:L2.Binds K fd_qbr ["text"] [])(G_qas:FnOk P w K mg base CX0 13 f_qas fd_qas ["_law_found","_law_due"] (liftSp K (F_qas 12)))(m_qas:mg "_law_same"=some (.ref f_qas))(k_qas:Yw K (.ref f_qas)=true)(b_qas:L2.Binds K fd_qas ["_law_found","_law_due"] [])(G_qau:FnOk P w K mg base CX0 2 f_qau fd_qau ["_law_left_here","_law_words"] (liftSp K F_qau))(m_qau:mg "_law_text"=some (.ref f_qau))(k_qau:Yw K (.ref f_qau)=true)(b_qau:L2.Binds K fd_qau ["_law_left_here","_law_words"] []):FnOk P w K mg base CX0 14 f_me fd_me ["_law_script"] (liftSp K (F_law d_DEEDS f_qaz f_qbk f_qbj f_qbh f_qbi d_DEED_FORMS f_DEED_FORMS_0 f_DEED_FORMS_1 f_DEED_FORMS_2 f_DEED_FORMS_3 f_DEED_FORMS_4 f_DEED_FORMS_5 f_DEED_FORMS_6 f_DEED_FORMS_7)):=
 Zar Fn sc_law fun cdv A outer s H E hr=>(@Zaf _ _ _ _ _ (ZcD Vs rfl (ZbV 1e0 T.b_range (@Zaa _ _ _ _ _ (ZaF Zad (q_em_min rfl 1e0 T.b_min 1e0 (@Zaa _ _ _ _ _ Zad (@Zaa _ _ _ _ _ (ZaE 1e0 T.b_len (@Zaa _ _ _ _ _ (Zab 0) Zac 1e0)) Zac 1e0) 1e0))) Zac 1e0)) (Zaj (i:=1) sc_law.nd rfl (Or.inl rfl)) (@Zaf _ _ _ _ _ (ZbH (i:=2) sc_law.nd rfl (Or.inl rfl) (q_fm_call GF_qae (hr.mono (by decide)) 1e0 m_qae k_qae b_qae (@Zaa _ _ _ _ _ (Zab 0) (@Zaa _ _ _ _ _ (Zab 1) Zac 1e0) 1e0))) (@Zaf _ _ _ _ _ (Zap (i:=3) sc_law.nd rfl (Or.inl rfl) (Zae G_qag (hr.mono (by decide)) 1e0 m_qag k_qag b_qag (@Zaa _ _ _ _ _ (Zab 2) Zac 1e0))) (@Zaf _ _ _ _ _ (Zap (i:=4) sc_law.nd rfl (Or.inl rfl) (Zae G_qai (hr.mono (by decide)) 1e0 m_qai k_qai b_qai (@Zaa _ _ _ _ _ (Zab 3) Zac 1e0))) (@Zaf _ _ _ _ _ (@ZaB _ _ _ _ _ _ _ _ (Zdk (Zbz (ZaH op_ne ne_ok.r (Zae G_qbw (hr.mono (by decide)) 1e0 m_qbw k_qbw b_qbw (@Zaa _ _ _ _ _ (Zab 3) Zac 1e0)) (Zbd Zai (@Zaa _ _ _ _ _ (Zab 4) Zac 1e0)) (nomark _)) (ZbG (ZaW (ZaM (Zae G_qas (hr.mono (by decide)) 1e0 m_qas k_qas b_qas (@Zaa _ _ _ _ _ (Zae G_qbr (hr.mono (by decide)) 1e0 m_qbr k_qbr b_qbr (@Zaa _ _ _ _ _ (Zbd Zai (@Zaa _ _ _ _ _ (Zab 4) Zac 1e0)) Zac 1e0)) (@Zaa _ _ _ _ _ (Zab 3) Zac 1e0) 1e0))))))) (@Zah _ _ _ (@Zal _ _ _ _ Zbe)) Zat) (@Zaf _ _ _ _ _ (@ZaB _ _ _ _ _ _ _ _ (ZaW (ZaM (Zae G_qas (hr.mono (by decide)) 1e0 m_qas k_qas b_qas (@Zaa _ _ _ _ _ (Zae G_qbr (hr.mono (by decide)) 1e0 m_qbr k_qbr b_qbr (@Zaa _ _ _ _ _ (Zae G_qau (hr.mono (by decide)) 1e0 m_qau k_qau b_qau (@Zaa _ _ _ _ _ (Zab 2) (@Zaa _ _ _ _ _ (Zab 4) Zac 1e0) 1e0)) Zac 1e0)) (@Zaa _ _ _ _ _ (Zab 3) Zac 1e0) 1e0)))) (@Zah _ _ _ (@Zal _ _ _ _ Zbe)) Zat) (@Zah _ _ _ (@ZaB _ _ _ _ _ _ _ _ (ZaH op_ne ne_ok.r (Zae G_qbw (hr.mono (by decide)) 1e0 m_qbw k_qbw b_qbw (@Zaa _ _ _ _ _ (Zab 3) Zac 1e0)) (Zbd Zai (@Zaa _ _ _ _ _ (Zab 4) Zac 1e0)) (nomark _)) (@Zah _ _ _ (@Zal _ _ _ _ Zbe)) Zat)))))))) (@Zah _ _ _ (@Zal _ _ _ _ Zbe)))
end
local macro_rules
 | `(tactic| simp![$args,*])=>`(tactic| simp[mDef,mRet,mRetF,mAndV,mOrV,mNotV,mCB,mOp,mChain,mTest,mTru,mNotT,mAndT,mOrT,mIf,mIfS,mSeq,mSkip,mSet,mDrop,mTup,mLst,mVal,mFn,mFnF,mSlice,mMt,mDict,mDict0,mList,listH,bnd,opM,aCons,aNil,mVar,mC,Pu.ret,g1,g2,derefs,deref,isiH,isiP,tyN,mB,asB,intP,fin,truP,lenH,Pu.plain,oNo,oPart,Pu.intD,sliceD,sliceP,isTy,tyP,mtD,eqP,neP,scP,$args,*])
local macro_rules
 |`(#[$x])=>`(some (.v $x))
def okv:PV->Bool
 | .dtt _ _=>false
 | .fn _=>false
 | .ty _=>false
 | _=>true
def AZ:Str:="abcdefghijklmnopqrstuvwxyz"
def wordB (z:Str):Bool:=decide (1<=(z.length:Int))&&decide ((z.length:Int)<=12)&&z.cps.toList.all AZ.cps.contains
def wordP:PV->Bool
 | .str z=>wordB z
 | _=>false
def numB (x:PV)(m:Int):Bool:=match x with
 | .int i=>decide (m<=i)
 | _=>false
def belB (x:PV)(b:Int):Bool:=match x with
 | .int i=>decide (0<=i)&&decide (i < b)
 | _=>false
theorem Za6 (x:PV)(m:Int)(C:Cs)(h:okv x=true):F_qbf [.v x,.v (.int m)] C=some (.v (.bl (numB x m)),C):=by
  cases x<;>first
    | (cases h;done)
    | (simp![F_qbf,numB])
theorem Zbi (x:PV)(b:Int)(C:Cs)(h:okv x=true):F_qbg [.v x,.v (.int b)] C=some (.v (.bl (belB x b)),C):=by
 cases x with
 | int i=>by_cases hi:(0:Int)<=i<;>simp![F_qbg,Za6 _ _ _ h,numB,belB,hi]
 | dtt a b=>cases h
 | fn a=>cases h
 | ty a=>cases h
 | _=>simp![F_qbg,Za6 _ _ _ h,numB,belB]
theorem comp_map {te:PSt->M SV}{f:PV->PV}:∀(xs:List PV) (ρ:PSt) (ys:List PV) (C:Cs),(∀x∈xs,te (ρ.set 0 #[x]) C=some (.v (f x),C))->compL (hName 0) tOk te xs ρ ys C=some (ys++xs.map f,C)
 | [],ρ,ys,C,_=>by simp[compL,Pu.ret]
 | x::xs,ρ,ys,C,h=>by
  have h1:=h x (by simp)
  have h2:=comp_map xs (ρ.set 0 #[x]) (ys++[f x]) C fun y hy=>by rw[List.set_set];exact h y (by simp[hy])
  simp[compL,hName,bnd,tOk,Pu.ret,h1,h2]
theorem Zce {α:Type}(g:α->Bool):∀l:List α,boolsP (l.map fun c=>PV.bl (g c))=some (l.map g)
 | []=>rfl
 | a::l=>by simp[boolsP,Zce g l]
theorem strIn_one (c:Nat)(z:Str):strIn ⟨(List.toArray [c])⟩ z=z.cps.toList.contains c:=by
 unfold strIn
 rw[PySem.StrLaws.found_one]
 simp
theorem AZ_contains:AZ.cps.toList.contains=AZ.cps.contains:=by
 funext c;simp
theorem ZbM (x:PV)(C:Cs)(h:okv x=true):F_qbm [.v x] C=some (.v (.bl (wordP x)),C):=by
 cases x with
 | str z=>
  by_cases h1:1<=(z.length:Int)
  ·by_cases h2:(z.length:Int)<=12
   ·have hl:z.cps.size<=100000:=by
     have:z.cps.size=z.length:=rfl
     lia
    unfold F_qbm B_qbm
    generalize hte:mOp (g2 inP) (mVar 0) (mC (.str "abcdefghijklmnopqrstuvwxyz"))=te
    have key:compL (hName 0) tOk te (z.cps.toList.map fun c=>.str ⟨(List.toArray [c])⟩) [none] [] C=some (z.cps.toList.map fun c=>PV.bl (AZ.cps.contains c),C):=by
     subst hte
     have:=comp_map (te:=mOp (g2 inP) (mVar 0) (mC (.str "abcdefghijklmnopqrstuvwxyz"))) (f:=fun p=>match p with | .str y=>.bl (strIn y AZ) | _=>.non) (z.cps.toList.map fun c=>.str ⟨(List.toArray [c])⟩) [none] [] C (fun x hx=>by
      obtain ⟨c,_,rfl⟩:=YM.mp hx
      simp[mOp,bnd,mVar,mC,opM,g2,deref,inP,inB,AZ])
     rw[this,Y2,Y9]
     congr 3
     funext c
     simp only[Function.comp,strIn_one]
     rw[AZ_contains]
    simp![h1,h2,mComp,mItems,itemsP,stIn',hl,key,allH,Zce,wordP,wordB,List.all_map]
   ·simp![F_qbm,h1,h2,wordP,wordB]
  ·simp![F_qbm,h1,wordP,wordB]
 | dtt a b=>cases h
 | fn a=>cases h
 | ty a=>cases h
 | _=>simp![F_qbm,wordP]
theorem row_tup (ps:List PV)(a b:Int)(C:Cs):F_qbl [.v (.tup ps),.v (.int a),.v (.int b)] C=some (.v (.bl (decide (a<=ps.length)&&decide ((ps.length:Int)<=b))),C):=by
 by_cases h:a<=ps.length
 ·by_cases h2:(ps.length:Int)<=b<;>simp![F_qbl,h,h2]
 ·simp![F_qbl,h]
theorem tk (C:Cs)(k:Nat)(v:PV):(C.set k v).take C.length=C.set k v:=Wo (by simp)
theorem setAt {C:Cs}{k:Nat}{v w:PV}(h:C[k]? = some w):(C.set k v)[k]? = some v:=by
 have:k < C.length:=by
  rcases Y1 k C.length with q | q
  ·exact q
  ·rw[YD.mpr q] at h;cases h
 rw[Xq this]
theorem pick_spec (k:Nat)(x y m:Int)(C:Cs)(hC:C[k]? = some (.lst [.int x,.int y]))(hy:0<=y/\y < 2147483647)(hm:0 < m/\m < 1606938044258990275541962092341162602522202993782792835301376):
  ∃d x' y',F_qaq [.c k,.v (.int m)] C=some (.v (.int d),C.set k (.lst [.int x',.int y']))/\0<=d/\d < m/\0<=y'/\y' < 2147483647:=by
 by_cases hx:0 < x
 ·refine ⟨x % m,x / m,y,?_,X0 _ (by lia),XQ _ hm.1,hy.1,hy.2⟩
  simp![F_qaq,ixQ,ixP,atI,ixN,hC,hx,hm.1,hm.2,mSetIx,setC,tk]
 ·have h1:0<=(y * 48271 + 12345) % 2147483647:=X0 _ (by decide)
  have h2:(y * 48271 + 12345) % 2147483647 < 2147483647:=XQ _ (by decide)
  refine ⟨(y * 48271 + 12345) % 2147483647 * ((y * 48271 + 12345) % 2147483647) % 1999999973 % m,x,(y * 48271 + 12345) % 2147483647,?_,X0 _ (by lia),XQ _ hm.1,h1,h2⟩
  generalize hz:(y * 48271 + 12345) % 2147483647=z at h1 h2
  have c1:(-18446744073709551616 < z/\z < 18446744073709551616):=by lia
  simp![F_qaq,ixQ,ixP,atI,ixN,hC,hx,hm.1,hm.2,mSetIx,setC,tk,addP,setAt hC,hz,c1]
def GS (C:Cs)(k:Nat):Prop:=∃x y:Int,C[k]? = some (.lst [.int x,.int y])/\0<=y/\y < 2147483647
structure Adv (k:Nat)(C C':Cs):Prop where
 len:C'.length=C.length
 gs:GS C' k
 oth:∀j,j≠k->C'[j]? = C[j]?
theorem Adv.refl {k:Nat}{C:Cs}(h:GS C k):Adv k C C:=⟨rfl,h,fun _ _=>rfl⟩
theorem Adv.trans {k:Nat}{C C1 C2:Cs}(a:Adv k C C1)(b:Adv k C1 C2):Adv k C C2:=⟨b.len.trans a.len,b.gs,fun j h=>(b.oth j h).trans (a.oth j h)⟩
theorem Adv.take {k:Nat}{C C':Cs}(a:Adv k C C'):C'.take C.length=C':=Wo (by rw[a.len];exact Yx _)
theorem ZaO (k:Nat)(m:Int)(C:Cs)(h:GS C k)(hm:0 < m/\m < 1606938044258990275541962092341162602522202993782792835301376):∃d C',F_qaq [.c k,.v (.int m)] C=some (.v (.int d),C')/\0<=d/\d < m/\Adv k C C':=by
 obtain ⟨x,y,hC,h1,h2⟩:=h
 obtain ⟨d,x',y',e,a1,a2,a3,a4⟩:=pick_spec k x y m C hC ⟨h1,h2⟩ hm
 exact ⟨d,_,e,a1,a2,by simp,⟨x',y',setAt hC,a3,a4⟩,fun j hj=>by rw[Xc (XA hj)]⟩
theorem comp_adv {te:PSt->M SV}{k:Nat}{Pp:PV->Prop}:∀(xs:List PV) (ρ:PSt) (ys:List PV) (C:Cs),GS C k->(∀x C,GS C k->∃p C',te (ρ.set 0 #[x]) C=some (.v p,C')/\Pp p/\Adv k C C')->
  ∃zs C',compL (hName 0) tOk te xs ρ ys C=some (ys++zs,C')/\zs.length=xs.length/\(∀p∈zs,Pp p)/\Adv k C C'
 | [],ρ,ys,C,g,h=>⟨[],C,by simp[compL,Pu.ret],rfl,by simp,Adv.refl g⟩
 | x::xs,ρ,ys,C,g,h=>by
  obtain ⟨p,C1,e1,hp,a1⟩:=h x C g
  obtain ⟨zs,C2,e2,hl,hz,a2⟩:=comp_adv (te:=te) (Pp:=Pp) xs (ρ.set 0 #[x]) (ys++[p]) C1 a1.gs fun y C' g'=>by rw[List.set_set];exact h y C' g'
  refine ⟨p::zs,C2,?_,by simp[hl],fun q hq=>?_,a1.trans a2⟩
  ·simp![compL,hName,tOk,e1,e2]
  ·rcases Ye.mp hq with rfl | hq
   ·exact hp
   ·exact hz q hq
theorem Zdq (ns:List Int)(i:Int)(C:Cs)(hi:0<=i):∃v:Int,F_qaa [.v (.lst (ns.map .int)),.v (.int i)] C=some (.v (.int v),C):=by
 by_cases h:i < ns.length
 ·have hd:i.toNat < ns.length:=by lia
  refine ⟨ns[i.toNat],?_⟩
  simp![F_qaa,ixQ,ixP,atI,ixN,hi,h,Yd hd]
 ·exact ⟨0,by simp![F_qaa,h]⟩
theorem left_eq (ns:List Int)(k:Int)(C:Cs)(h1:0<=k)(h2:k<=1000):∃x y:Int,FF_qae [.v (.lst (ns.map .int)),.v (.int k)] C=some ([.int x,.int y],C)/\0<=y/\y < 2147483647:=by
 have hm:0 < (if (ns.length:Int) > 1 then (ns.length:Int) else 1):=by split<;>lia
 obtain ⟨v,ev⟩:=Zdq ns (k % (if (ns.length:Int) > 1 then (ns.length:Int) else 1)) C (X0 _ (by lia))
 obtain ⟨u,eu⟩:=Zdq ns 0 C (by decide)
 have c1:-18446744073709551616 < k/\k < 18446744073709551616:=by lia
 have hm':0 < (if 1 < (ns.length:Int) then (ns.length:Int) else 1):=hm
 have ev':F_qaa [.v (.lst (ns.map .int)),.v (.int (k % (if 1 < (ns.length:Int) then (ns.length:Int) else 1)))] C=some (.v (.int v),C):=ev
 have hcast:(if 1 < (ns.length:Int) then (ns.length:Int) else 1)=if 1 < ns.length then (ns.length:Int) else 1:=by
  by_cases q:1 < ns.length
  ·rw[if_pos q,if_pos (by lia)]
  ·rw[if_neg q,if_neg (by lia)]
 have p40:(0:Int) < 10 ^ 40:=by decide
 by_cases hu:u % 2=0
 ·refine ⟨0,(v % 2147483629 + 7919 * k * k + 11) * 48271 % 2147483647,?_,X0 _ (by decide),XQ _ (by decide)⟩
  simp![FF_qae,mDefF,maxH,ev',eu,hm',c1,addP,hu]
 ·refine ⟨v % 10 ^ 40,(v % 2147483629 + 7919 * k * k + 11) * 48271 % 2147483647,?_,X0 _ (by decide),XQ _ (by decide)⟩
  simp![FF_qae,mDefF,maxH,ev',eu,hm',c1,addP,hu]
theorem loop_inv {g:PV->PSt->Option PSt}{f:PSt->M PF}(Pi:PSt->Cs->Prop):∀(xs:List PV),(∀x∈xs,∀ρ C,Pi ρ C->∃ρ1 ρ2 C2,g x ρ=some ρ1/\f ρ1 C=some (.nx ρ2,C2)/\Pi ρ2 C2)->∀ρ C,Pi ρ C->∃ρ' C',loop g f xs ρ C=some (.nx ρ',C')/\Pi ρ' C'
 | [],_,ρ,C,h=>⟨ρ,C,rfl,h⟩
 | x::xs,hs,ρ,C,h=>by
  obtain ⟨ρ1,ρ2,C2,e1,e2,h2⟩:=hs x (by simp) ρ C h
  obtain ⟨ρ',C',e3,h3⟩:=loop_inv Pi xs (fun y hy=>hs y (by simp[hy])) ρ2 C2 h2
  refine ⟨ρ',C',?_,h3⟩
  unfold loop
  simp only[e1,bnd,e2,e3]
def spl (c:Nat):List Nat->List (List Nat)
 | []=>[[]]
 | x::r=>if x=c then []::spl c r else (x::(spl c r).headD [])::(spl c r).tail
theorem spl_ne (c:Nat):∀l,spl c l≠[]
 | []=>by simp[spl]
 | x::r=>by unfold spl;split<;>simp
theorem ht {l:List (List Nat)}(h:l≠[]):l.headD []::l.tail=l:=by cases l<;>simp_all
theorem Zcy {c:Nat}:∀{w:List Nat},c∉w->spl c w=[w]
 | [],_=>rfl
 | x::r,h=>by
  simp only[Ye,not_or] at h
  unfold spl
  rw[if_neg (XA h.1),Zcy h.2];rfl
theorem spl_app (c:Nat)(b:List Nat):∀a,spl c (a++c::b)=spl c a++spl c b
 | []=>by simp[spl]
 | x::r=>by
  have e:=spl_app c b r
  have:=spl_ne c r
  show (if x=c then []::spl c (r++c::b) else (x::(spl c (r++c::b)).headD [])::(spl c (r++c::b)).tail)=(if x=c then []::spl c r else (x::(spl c r).headD [])::(spl c r).tail)++spl c b
  split
  ·rw[e];rfl
  ·rw[e]
   cases h:spl c r with
   | nil=>exact absurd h this
   | cons p q=>rfl
def glue (c:Nat):List (List Nat)->List Nat
 | []=>[]
 | [p]=>p
 | p::q=>p++c::glue c q
theorem spl_glue {c:Nat}:∀{ps:List (List Nat)},ps≠[]->(∀p∈ps,c∉p)->spl c (glue c ps)=ps
 | [],h,_=>absurd rfl h
 | [p],_,h=>Zcy (h p (by simp))
 | p::q::r,_,h=>by
  show spl c (p++c::glue c (q::r))=_
  rw[spl_app,Zcy (h p (by simp)),spl_glue (by simp) fun z hz=>h z (by simp[hz])];rfl
theorem Za4 (a b:Str):(a++b).cps=a.cps++b.cps:=rfl
theorem ZaS (c:Nat):∀ps:List Str,(XT ⟨(List.toArray [c])⟩ ps).cps.toList=glue c (ps.map (·.cps.toList))
 | []=>rfl
 | [p]=>rfl
 | p::q::r=>by
  rw[join_cons_cons,Za4,Za4,YJ,YJ,ZaS c (q::r)]
  show p.cps.toList++[c]++_=p.cps.toList++c::glue c ((q::r).map _)
  simp
theorem split_spl (c:Nat)(x:Str):(Txt.split x ⟨(List.toArray [c])⟩).map (·.cps.toList)=spl c x.cps.toList:=by
 have h1:=StrLaws.join_split x ⟨(List.toArray [c])⟩
 have h2:=StrLaws.split_free x c
 have h3:=split_pos x ⟨(List.toArray [c])⟩
 generalize Txt.split x ⟨(List.toArray [c])⟩=P at *
 rw[←h1,ZaS,spl_glue]
 ·intro e
  rw[List.map_eq_nil_iff] at e
  subst e;simp at h3
 ·intro p hp
  obtain ⟨q,hq,rfl⟩:=YM.mp hp
  exact h2 q hq
theorem Zbq {a b:Str}(h:a.cps.toList=b.cps.toList):a=b:=by
 cases a;cases b
 congr 1
 exact VL.mp h
theorem map_inj:∀{P R:List Str},P.map (·.cps.toList)=R.map (·.cps.toList)->P=R
 | [],[],_=>rfl
 | [],_::_,h=>by simp at h
 | _::_,[],h=>by simp at h
 | a::P,b::R,h=>by
  simp only[Yr,List.cons.injEq] at h
  rw[Zbq h.1,map_inj h.2]
theorem split_join {c:Nat}{ps:List Str}(hn:ps≠[])(h:∀p∈ps,c∉p.cps.toList):Txt.split (XT ⟨(List.toArray [c])⟩ ps) ⟨(List.toArray [c])⟩=ps:=by
 apply map_inj
 rw[split_spl,ZaS,spl_glue (by simpa using hn)]
 intro p hp
 obtain ⟨q,hq,rfl⟩:=YM.mp hp
 exact h q hq
def ne0 (x:Str):Bool:=decide (x.length≠0)
def wds (c:Nat)(l:List Nat):List (List Nat):=(spl c l).filter fun p=>!p.isEmpty
theorem wds_app (c:Nat)(a b:List Nat):wds c (a++c::b)=wds c a++wds c b:=by unfold wds;rw[spl_app,List.filter_append]
theorem wds_nil (c:Nat):wds c []=[]:=rfl
theorem wds_one {c:Nat}{w:List Nat}(h:c∉w)(hw:w≠[]):wds c w=[w]:=by
 unfold wds;rw[Zcy h];simp[hw]
theorem Zcf (c:Nat)(l:List Nat):∀k,wds c (YO k c++l)=wds c l
 | 0=>rfl
 | k + 1=>by
  have:=wds_app c [] (YO k c++l)
  rw[Wc,Wj]
  rw[Y2,wds_nil,Y2] at this
  rw[this,Zcf c l k]
theorem wds_end (c:Nat)(l:List Nat):∀k,wds c (l++YO k c)=wds c l
 | 0=>by simp
 | k + 1=>by
  rw[Wc,wds_app]
  have:=Zcf c [] k
  rw[YA] at this
  rw[this,wds_nil,YA]
theorem wds_glue {c:Nat}:∀{ps:List (List Nat)},(∀p∈ps,c∉p/\p≠[])->wds c (glue c ps)=ps
 | [],_=>rfl
 | [p],h=>wds_one (h p (by simp)).1 (h p (by simp)).2
 | p::q::r,h=>by
  show wds c (p++c::glue c (q::r))=_
  rw[wds_app,wds_one (h p (by simp)).1 (h p (by simp)).2,wds_glue fun z hz=>h z (by simp[hz])];rfl
theorem Zcr (x:Str)(c:Nat)(ps:List Str)(h:wds c x.cps.toList=ps.map (·.cps.toList)):(Txt.split x ⟨(List.toArray [c])⟩).filter ne0=ps:=by
 apply map_inj
 rw[←h]
 unfold wds
 rw[←split_spl,List.filter_map]
 congr 1
 apply List.filter_congr
 intro p hp
 unfold ne0
 show decide (p.cps.size≠0)=!p.cps.toList.isEmpty
 rw[←Yy]
 cases p.cps.toList<;>simp
theorem dig_head (m:Nat)(h0:m≠0):∃c r,Nat.toDigits 10 m=c::r/\c≠'0':=by
 rcases Y1 m 10 with h | h
 ·have first:∀k:Fin 10,k.1≠0->Nat.digitChar k.1≠'0':=by decide
  exact ⟨_,[],Nat.toDigits_of_lt_base h,first ⟨m,h⟩ h0⟩
 ·obtain ⟨c,r,e,hc⟩:=dig_head (m / 10) (by lia)
  have last:=Nat.toDigits_append_toDigits (b:=10) (n:=m / 10) (d:=m % 10) (by decide) (by lia) (by lia)
  rw[Nat.div_add_mod,e] at last
  exact ⟨c,_,last.symm,hc⟩
termination_by m
decreasing_by lia
def figs (z:Str):Prop:=∀c∈z.cps.toList,48<=c/\c<=57
theorem ZcH {n:Int}(h0:0<=n):figs (numS n):=by
 obtain ⟨m,rfl⟩:∃m:Nat,n=m:=⟨n.toNat,by lia⟩
 intro c hc
 rw[numS,WW,YM] at hc
 obtain ⟨ch,hch,rfl⟩:=hc
 exact digit_range (Nat.isDigit_of_mem_toDigits (by decide) (by decide) hch)
theorem Za7 {n:Int}(h0:0<=n)(h1:n < 10 ^ 30):(numS n).length<=30:=by
 obtain ⟨m,rfl⟩:=Int.eq_ofNat_of_zero_le h0
 show (numS (m:Int)).cps.size<=30
 unfold numS
 rw[←Yy,WW,Yu]
 exact toDigits_len_pow (by decide) (by decide) (by lia)
theorem num_ne {n:Int}(h0:0<=n):(numS n).cps.toList≠[]:=by
 obtain ⟨m,rfl⟩:∃m:Nat,n=m:=⟨n.toNat,by lia⟩
 rw[numS,WW]
 by_cases z:m=0
 ·subst z;decide
 ·obtain ⟨c,r,q,_⟩:=dig_head m z
  rw[q];exact fun e=>nomatch e
theorem num_back {n:Int}(h0:0<=n)(h1:n < 10 ^ 30):W9 (numS n)=some n:=by
 have e:=intText_digits (ZcH h0) (num_ne h0) (by have:=Za7 h0 h1;lia)
 obtain ⟨m,rfl⟩:∃m:Nat,n=m:=⟨n.toNat,by lia⟩
 rw[e,numS,WW,W.KIN.val_back]
theorem num_zero:numS 0="0":=by decide +kernel
theorem num_head {n:Int}(h0:0<=n):numS n="0"\/∃c r,(numS n).cps.toList=c::r/\c≠48:=by
 by_cases hn:n=0
 ·subst hn;exact .inl num_zero
 ·refine .inr ?_
  obtain ⟨m,rfl⟩:=Int.eq_ofNat_of_zero_le h0
  obtain ⟨c,r,e,hc⟩:=dig_head m (by lia)
  refine ⟨c.toNat,r.map Char.toNat,by unfold numS;rw[WW,e];rfl,fun h=>hc ?_⟩
  exact Char.ext (UInt32.toNat_inj.mp h)
def FG:Str:="0123456789"
theorem fg_in {c:Nat}(h:48<=c/\c<=57):FG.cps.toList.contains c=true:=by
 have:∀k:Fin 10,FG.cps.toList.contains (48 + k.1)=true:=by decide +kernel
 have h2:=this ⟨c - 48,by lia⟩
 rwa[show 48 + (c - 48)=c by lia] at h2
theorem is_figures_eq {z:Str}(hd:figs z)(hz:z="0"\/∃c r,z.cps.toList=c::r/\c≠48)(hl:z.length<=1000)(C:Cs):F_qbc [.v (.str z)] C=some (.v (.bl true),C):=by
 by_cases hz0:z="0"
 ·subst hz0
  simp![F_qbc]
 ·rcases hz with hz | ⟨c,r,e,hc⟩
  ·exact absurd hz hz0
  ·have hs:z.cps.size<=100000:=by
    have:z.cps.size=z.length:=rfl
    lia
   have h1:z≠"":=by rintro rfl;cases e
   have h2:ixQ (.str z) (.int 0)=some (.str ⟨(List.toArray [c])⟩):=by
    have hp:(0:Int) < (z.cps.toList.length:Int):=by rw[e];simp
    show (atI z.cps.toList 0).map _=_
    unfold atI ixN
    rw[if_pos (by decide),if_pos hp,e]
    rfl
   have h3:(⟨(List.toArray [c])⟩:Str)≠"0":=by
    intro q
    have:=congrArg (fun y:Str=>y.cps.toList) q
    have h48:("0":Str).cps.toList=[48]:=by decide +kernel
    simp[h48] at this
    exact hc this
   unfold F_qbc B_qbc
   generalize hte:mOp (g2 inP) (mVar 0) (mC (.str "0123456789"))=te
   have key:compL (hName 0) tOk te (z.cps.toList.map fun c=>.str ⟨(List.toArray [c])⟩) [none] [] C=some (z.cps.toList.map fun c=>PV.bl (FG.cps.toList.contains c),C):=by
    subst hte
    have:=comp_map (te:=mOp (g2 inP) (mVar 0) (mC (.str "0123456789"))) (f:=fun p=>match p with | .str y=>.bl (strIn y FG) | _=>.non) (z.cps.toList.map fun c=>.str ⟨(List.toArray [c])⟩) [none] [] C (fun x hx=>by
     obtain ⟨c,_,rfl⟩:=YM.mp hx
     simp[mOp,bnd,mVar,mC,opM,g2,deref,inP,inB,FG])
    rw[this,Y2,Y9]
    congr 3
    funext c
    simp only[Function.comp,strIn_one]
   have hall:∀c∈z.cps.toList,FG.cps.toList.contains c=true:=fun c hc=>fg_in (hd c hc)
   generalize FG.cps.toList=fg at *
   have hall2:z.cps.toList.all fg.contains=true:=YG.mpr hall
   simp![hz0,h1,h2,h3,mComp,mItems,itemsP,stIn',hs,key,allH,Zce]
   intro i hi
   have:=hall z.cps[i] (by simp)
   simpa using this
theorem Zbo (C:Cs):F_qbo [.v (.bl true)] C=some (.v .non,C):=by simp![F_qbo]
theorem ZaI {n:Int}(h0:0<=n)(h1:n < 10 ^ 30)(C:Cs):F_qbt [.v (.str (numS n))] C=some (.v (.int n),C):=by
 have hl:=Za7 h0 h1
 have e:=is_figures_eq (ZcH h0) (num_head h0) (by lia) C
 have e2:=num_back h0 h1
 have hl2:(numS n).length<=640:=by lia
 generalize numS n=z at *
 simp![F_qbt,e,Zbo,intTH,hl2,e2]
theorem ZbS (L:List PV)(d:Int)(h1:0<=d)(h2:d < L.length):∃p∈L,ixQ (.lst L) (.int d)=some p:=by
 have hd:d.toNat < L.length:=by lia
 refine ⟨L[d.toNat],Wg hd,?_⟩
 simp[ixQ,ixP,atI,ixN,h1,h2,Yd hd]
theorem Zci (k:Nat)(C:Cs)(g:GS C k):∃n C',F_qao [.c k] C=some (.v (.int n),C')/\0<=n/\n < 10 ^ 30/\Adv k C C':=by
 obtain ⟨d,C1,e1,h1,h2,a1⟩:=ZaO k 4 C g (by decide)
 obtain ⟨p,hp,e2⟩:=ZbS [.int 9,.int 100,.int 100000000000000000000000000000,.int 1000000000000000000000000000000] d h1 (by simpa using h2)
 obtain ⟨m,rfl,hm1,hm2⟩:∃m:Int,p=.int m/\9<=m/\m<=1000000000000000000000000000000:=by
  simp only[Ye,Yt,or_false] at hp
  rcases hp with rfl | rfl | rfl | rfl<;>exact ⟨_,rfl,by decide,by decide⟩
 obtain ⟨a,C2,e3,h3,h4,a2⟩:=ZaO k m C1 a1.gs (by lia)
 obtain ⟨b,C3,e4,h5,h6,a3⟩:=ZaO k 3 C2 a2.gs (by decide)
 obtain ⟨c,C4,e5,h7,h8,a4⟩:=ZaO k 2 C3 a3.gs (by decide)
 obtain ⟨q,hq,e6⟩:=ZbS [.int a,.int (m - 1 - b)] c h7 (by simpa using h8)
 have a5:=((a1.trans a2).trans a3).trans a4
 obtain ⟨n,rfl,hn⟩:∃n:Int,q=.int n/\0<=n/\n < 10 ^ 30:=by
  simp only[Ye,Yt,or_false] at hq
  rcases hq with rfl | rfl
  ·exact ⟨_,rfl,by lia,by lia⟩
  ·exact ⟨_,rfl,by lia,by lia⟩
 refine ⟨n,C4,?_,hn.1,hn.2,a5⟩
 simp![F_qao,e1,e2,e3,e4,e5,e6,a5.take]
theorem az_in (d:Int)(h1:0<=d)(h2:d < 26):∃c,ixQ (.str "abcdefghijklmnopqrstuvwxyz") (.int d)=some (.str ⟨(List.toArray [c])⟩)/\AZ.cps.contains c=true:=by
 have hl:("abcdefghijklmnopqrstuvwxyz":Str).cps.toList.length=26:=by rfl
 have hd:d.toNat < ("abcdefghijklmnopqrstuvwxyz":Str).cps.toList.length:=by lia
 have h3:d < (("abcdefghijklmnopqrstuvwxyz":Str).cps.toList.length:Int):=by lia
 refine ⟨("abcdefghijklmnopqrstuvwxyz":Str).cps.toList[d.toNat],?_,?_⟩
 ·show (atI ("abcdefghijklmnopqrstuvwxyz":Str).cps.toList d).map _=_
  unfold atI ixN
  rw[if_pos h1,if_pos h3]
  show ((("abcdefghijklmnopqrstuvwxyz":Str).cps.toList[d.toNat]?).map _)=_
  rw[Yd hd]
  rfl
 ·rw[←AZ_contains]
  exact List.contains_iff_mem.mpr (Wg hd)
def one (c:Nat):Str:=⟨(List.toArray [c])⟩
theorem ones:∀{zs:List PV},(∀p∈zs,∃c,p=.str ⟨(List.toArray [c])⟩/\AZ.cps.contains c=true)->∃cs:List Nat,zs=cs.map (fun c=>.str (one c))/\∀c∈cs,AZ.cps.contains c=true
 | [],_=>⟨[],rfl,by simp⟩
 | p::zs,h=>by
  obtain ⟨c,rfl,hc⟩:=h p (by simp)
  obtain ⟨cs,rfl,hs⟩:=ones (zs:=zs) fun q hq=>h q (Y4 _ hq)
  exact ⟨c::cs,rfl,fun z hz=>(Ye.mp hz).elim (fun e=>e ▸ hc) (hs z)⟩
def stem (a b c d:Nat):Str:=⟨[a,b,c,d].toArray⟩
def wdIx:PSt->M SV:=mOp (g2 ixQ) (mVar 1) (mFn F_qaq (aCons (mVar 2) (aCons (mC (.int 26)) aNil)))
def wdRg:PSt->M (List PV):=mRange1 (aCons (mC (.int 4)) aNil)
def wdCo:PSt->M (List PV):=mComp wdRg ["_law_k"] [1,0] (hName 0) tOk wdIx
theorem stem_adv (k:Nat)(C:Cs)(g:GS C k)(x2 x3 x4:Option SV):∃a b c d C',wdCo [some (.c k),#[.str "abcdefghijklmnopqrstuvwxyz"],x2,x3,x4] C=some ([.str (one a),.str (one b),.str (one c),.str (one d)],C')/\(∀z∈[a,b,c,d],AZ.cps.contains z=true)/\Adv k C C':=by
 obtain ⟨zs,C',e,hl,hz,a⟩:=comp_adv (te:=wdIx) (Pp:=fun p=>∃c,p=.str ⟨(List.toArray [c])⟩/\AZ.cps.contains c=true) [.int 0,.int 1,.int 2,.int 3] [none,#[.str "abcdefghijklmnopqrstuvwxyz"],some (.c k)] [] C g (fun x C g=>by
  obtain ⟨d,C1,e1,h1,h2,a1⟩:=ZaO k 26 C g (by decide)
  obtain ⟨c,e2,hc⟩:=az_in d h1 h2
  refine ⟨_,C1,?_,⟨c,rfl,hc⟩,a1⟩
  simp![wdIx,e1,e2,a1.take])
 obtain ⟨cs,rfl,hcs⟩:=ones hz
 have hr:wdRg [some (.c k),#[.str "abcdefghijklmnopqrstuvwxyz"],x2,x3,x4] C=some ([.int 0,.int 1,.int 2,.int 3],C):=by rfl
 match cs,hl with
 | [a1,a2,a3,a4],_=>
  refine ⟨a1,a2,a3,a4,C',?_,hcs,a⟩
  simp at e
  simp[wdCo,mComp,bnd,hr,stIn',Pu.ret,e]
theorem strs_ones (a b c d:Nat):joinH (.str "") [.lst [.str (one a),.str (one b),.str (one c),.str (one d)]]=some (.str (stem a b c d)):=by
 rfl
theorem stem_mul (a b c d:Nat):mulTP (.str (stem a b c d)) (.int 3)=some (.str ⟨[a,b,c,d,a,b,c,d,a,b,c,d].toArray⟩):=by
 rfl
theorem cut_word (a b c d:Nat)(s:Int)(h1:1<=s)(h2:s<=12)(h:∀z∈[a,b,c,d],AZ.cps.contains z=true):∃w,Txt.slice ⟨[a,b,c,d,a,b,c,d,a,b,c,d].toArray⟩ none (some s)=w/\wordB w=true:=by
 refine ⟨_,rfl,?_⟩
 have e:=slice_closes_toL (x:=⟨[a,b,c,d,a,b,c,d,a,b,c,d].toArray⟩) (j:=s) (by lia) (show s<=((12:Nat):Int) by lia)
 rw[eq_of_beq e]
 simp only[Ye,Yt,or_false,forall_eq_or_imp,forall_eq] at h
 unfold wordB
 have hl:(⟨((VZ (0:Int).toNat [a,b,c,d,a,b,c,d,a,b,c,d]).take (s - 0).toNat).toArray⟩:Str).length=s.toNat:=by
  show Array.size (X2 _)=_
  simp;lia
 have ha:(((VZ (0:Int).toNat [a,b,c,d,a,b,c,d,a,b,c,d]).take (s - 0).toNat)).all AZ.cps.contains=true:=by
  rw[YG]
  intro x hx
  have:=List.mem_of_mem_drop (List.mem_of_mem_take hx)
  simp only[Ye,Yt,or_false] at this
  obtain ⟨p,q,r,t⟩:=h
  rcases this with rfl | rfl | rfl | rfl | rfl | rfl | rfl | rfl | rfl | rfl | rfl | rfl<;>assumption
 show (decide (1<=(((⟨((VZ (0:Int).toNat [a,b,c,d,a,b,c,d,a,b,c,d]).take (s - 0).toNat).toArray⟩:Str).length:Nat):Int))&&decide ((((⟨((VZ (0:Int).toNat [a,b,c,d,a,b,c,d,a,b,c,d]).take (s - 0).toNat).toArray⟩:Str).length:Nat):Int)<=12)&&_)=true
 rw[hl,show (⟨((VZ (0:Int).toNat [a,b,c,d,a,b,c,d,a,b,c,d]).take (s - 0).toNat).toArray⟩:Str).cps.toList=(VZ (0:Int).toNat [a,b,c,d,a,b,c,d,a,b,c,d]).take (s - 0).toNat from rfl,ha]
 simp;lia
theorem Zay {f g:PSt->M PF}{ρ ρ1:PSt}{C C1:Cs}(h:f ρ C=some (.nx ρ1,C1)):mSeq f g ρ C=g ρ1 C1:=by
 unfold mSeq bnd;rw[h]
def KPT:List PV:=[.str "bell",.str "at",.str "got",.str "after",.str "to",.str "join",.str "say",.str "do",.str "free",.str "hand",.str "note",.str "held",.str "twin",.str "a"]
def w1:PSt->M PF:=mSet 1 (mC (.str "abcdefghijklmnopqrstuvwxyz"))
def w2:PSt->M PF:=mSet 2 (mVal (mLst (aCons (mC (.str "bell")) (aCons (mC (.str "at")) (aCons (mC (.str "got")) (aCons (mC (.str "after")) (aCons (mC (.str "to")) (aCons (mC (.str "join")) (aCons (mC (.str "say")) (aCons (mC (.str "do")) (aCons (mC (.str "free")) (aCons (mC (.str "hand")) (aCons (mC (.str "note")) (aCons (mC (.str "held")) (aCons (mC (.str "twin")) (aCons (mC (.str "a")) aNil))))))))))))))))
def w3:PSt->M PF:=mSet 3 (mOp (g2 ixQ) (mVal (mLst (aCons (mC (.int 1)) (aCons (mC (.int 2)) (aCons (mC (.int 3)) (aCons (mC (.int 12)) (aCons (mOp (g2 addP) (mC (.int 1)) (mFn F_qaq (aCons (mVar 0) (aCons (mC (.int 12)) aNil)))) aNil))))))) (mFn F_qaq (aCons (mVar 0) (aCons (mC (.int 5)) aNil))))
def w4:PSt->M PF:=mSet 4 (mMt "str" joinH (mC (.str "")) (aCons (mVal wdCo) aNil))
def w5:PSt->M PF:=mRet (mOp (g2 ixQ) (mVal (mLst (aCons (mSliceS (mOp (g2 mulTP) (mVar 4) (mC (.int 3))) oNo (oPart (mVar 3))) (aCons (mOp (g2 ixQ) (mVar 2) (mFn F_qaq (aCons (mVar 0) (aCons (mC (.int 14)) aNil)))) aNil)))) (mCB (g1 intH) (aCons (mOp (g2 eqP) (mFn F_qaq (aCons (mVar 0) (aCons (mC (.int 4)) aNil))) (mC (.int 0))) aNil)))
theorem word_is:B_qaw=mSeq w1 (mSeq w2 (mSeq w3 (mSeq w4 w5))):=rfl
theorem kpt_ok:∀p∈KPT,∃w,p=.str w/\wordB w=true:=by
 have:KPT.all wordP=true:=by decide +kernel
 intro p hp
 have h:=YG.mp this p hp
 cases p<;>first | exact ⟨_,rfl,h⟩ | cases h
theorem word_adv (k:Nat)(C:Cs)(g:GS C k):∃w C',F_qaw [.c k] C=some (.v (.str w),C')/\wordB w=true/\Adv k C C':=by
 obtain ⟨d1,C1,e1,h1,h2,a1⟩:=ZaO k 12 C g (by decide)
 obtain ⟨d2,C2,e2,h3,h4,a2⟩:=ZaO k 5 C1 a1.gs (by decide)
 obtain ⟨p,hp,e3⟩:=ZbS [.int 1,.int 2,.int 3,.int 12,.int (1 + d1)] d2 h3 (by simpa using h4)
 obtain ⟨s,rfl,hs1,hs2⟩:∃s:Int,p=.int s/\1<=s/\s<=12:=by
  simp only[Ye,Yt,or_false] at hp
  rcases hp with rfl | rfl | rfl | rfl | rfl<;>exact ⟨_,rfl,by lia,by lia⟩
 obtain ⟨a,b,c,d,C3,e4,hz,a3⟩:=stem_adv k C2 a2.gs #[.lst KPT] #[.int s] none
 obtain ⟨d4,C4,e5,h5,h6,a4⟩:=ZaO k 14 C3 a3.gs (by decide)
 obtain ⟨q,hq,e6⟩:=ZbS KPT d4 h5 (by simpa[KPT] using h6)
 obtain ⟨v,rfl,hv⟩:=kpt_ok q hq
 obtain ⟨d5,C5,e7,h7,h8,a5⟩:=ZaO k 4 C4 a4.gs (by decide)
 obtain ⟨u,e8,hu⟩:=cut_word a b c d s hs1 hs2 hz
 have at1:=((((a1.trans a2).trans a3).trans a4).trans a5)
 have s2:w2 [some (.c k),#[.str "abcdefghijklmnopqrstuvwxyz"],none,none,none] C=some (.nx [some (.c k),#[.str "abcdefghijklmnopqrstuvwxyz"],#[.lst KPT],none,none],C):=by rfl
 have s3:w3 [some (.c k),#[.str "abcdefghijklmnopqrstuvwxyz"],#[.lst KPT],none,none] C=some (.nx [some (.c k),#[.str "abcdefghijklmnopqrstuvwxyz"],#[.lst KPT],#[.int s],none],C2):=by
  generalize KPT=KK at *
  simp![w3,addP,e1,e2,e3,a1.take,a2.take]
 have hj:=strs_ones a b c d
 have s4:w4 [some (.c k),#[.str "abcdefghijklmnopqrstuvwxyz"],#[.lst KPT],#[.int s],none] C2=some (.nx [some (.c k),#[.str "abcdefghijklmnopqrstuvwxyz"],#[.lst KPT],#[.int s],#[.str (stem a b c d)]],C3):=by
  generalize KPT=KK at *
  generalize stem a b c d=ST at *
  simp![w4,e4,hj]
 have hm:=stem_mul a b c d
 obtain ⟨z,hz1,hz2⟩:∃z,ixQ (.lst [.str u,.str v]) (.int (if d5=0 then 1 else 0))=some (.str z)/\wordB z=true:=by
  split
  ·exact ⟨v,rfl,hv⟩
  ·exact ⟨u,rfl,hu⟩
 refine ⟨z,C5,?_,hz2,at1⟩
 have s5:w5 [some (.c k),#[.str "abcdefghijklmnopqrstuvwxyz"],#[.lst KPT],#[.int s],#[.str (stem a b c d)]] C3=some (.rt (.v (.str z)),C5):=by
  generalize KPT=KK at *
  generalize stem a b c d=ST at *
  generalize (⟨[a,b,c,d,a,b,c,d,a,b,c,d].toArray⟩:Str)=SM at *
  simp![w5,mSliceS,sliceSD,hm,e8,e5,e6,e7,a4.take,a5.take,intH,hz1]
 unfold F_qaw
 rw[word_is]
 have run:mSeq w1 (mSeq w2 (mSeq w3 (mSeq w4 w5))) [some (.c k),none,none,none,none] C=some (.rt (.v (.str z)),C5):=by
  rw[Zay (show w1 [some (.c k),none,none,none,none] C=some (.nx [some (.c k),#[.str "abcdefghijklmnopqrstuvwxyz"],none,none,none],C) from rfl),Zay s2,Zay s3,Zay s4,s5]
 generalize mSeq w1 (mSeq w2 (mSeq w3 (mSeq w4 w5)))=bl at *
 simp![run,at1.take]
structure Nm where
 h:Str
 d:Str
 n:Int
def Nm.P (x:Nm):PV:=.tup [.str x.h,.str x.d,.int x.n]
structure Nm.Ok (x:Nm):Prop where
 h:wordB x.h=true
 d:wordB x.d=true
 n0:1<=x.n
 n1:x.n < 10 ^ 30
theorem name_adv (k:Nat)(C:Cs)(g:GS C k):∃(x:Nm) (C':Cs),F_qak [.c k] C=some (.v x.P,C')/\x.Ok/\Adv k C C':=by
 obtain ⟨h,C1,e1,h1,a1⟩:=word_adv k C g
 obtain ⟨d,C2,e2,h2,a2⟩:=word_adv k C1 a1.gs
 obtain ⟨n,C3,e3,h3,h4,a3⟩:=Zci k C2 a2.gs
 have at1:=(a1.trans a2).trans a3
 refine ⟨⟨h,d,1 + n % 999999999999999999999999999999⟩,C3,?_,⟨h1,h2,?_,?_⟩,at1⟩
 ·simp![F_qak,addP,e1,e2,e3,a1.take,a2.take,a3.take,at1.take,Nm.P]
 ·have:=X0 n (show (999999999999999999999999999999:Int)≠0 by decide)
  show 1<=1 + n % _
  lia
 ·have:=XQ n (show (0:Int) < 999999999999999999999999999999 by decide)
  show 1 + n % _ < _
  lia
inductive Pt where
 | st (k:Str) | nm (x:Nm) | num (n:Int)
def Nm.T (x:Nm):Str:=XT ⟨(List.toArray [46])⟩ [x.h,x.d,numS x.n]
def Pt.P:Pt->PV
 | .st k=>.str k
 | .nm x=>x.P
 | .num n=>.int n
def Pt.T:Pt->Str
 | .st k=>k
 | .nm x=>x.T
 | .num n=>numS n
def Pt.Ok:Pt->Prop
 | .st k=>wordB k=true
 | .nm x=>x.Ok
 | .num n=>0<=n/\n < 10 ^ 30
theorem ZbC {n:Int}(h0:0<=n)(h1:n < 10 ^ 30):n.natAbs.log2 < 1920:=by
 by_cases h:n.natAbs=0
 ·rw[h];decide
 ·refine Yv ((Nat.log2_lt h).mpr (show n.natAbs < 2 ^ 100 by lia)) (by decide)
theorem join_eq (z:Str)(ys:List Str):Txt.join z ys=XT z ys:=by
 cases ys with
 | nil=>rfl
 | cons a r=>exact StrLaws.glued_cons z r a
theorem strs_map:∀ys:List Str,strsP (ys.map .str)=some ys
 | []=>rfl
 | a::r=>by simp[strsP,strs_map r]
theorem ZcJ (z:Str)(ys:List Str)(h:(ys.map (·.length)).sum + ys.length * z.length<=1000000):joinH (.str z) [.lst (ys.map .str)]=some (.str (XT z ys)):=by
 unfold joinH
 simp only[strs_map,if_pos h,join_eq]
theorem az_range {c:Nat}(h:AZ.cps.contains c=true):97<=c/\c<=122:=by
 have:AZ.cps.all (fun c=>decide (97<=c/\c<=122))=true:=by decide +kernel
 rw[Array.all_eq_true_iff_forall_mem] at this
 have:=this c (by simpa using h)
 simpa using this
theorem word_az {w:Str}(h:wordB w=true):∀c∈w.cps.toList,97<=c/\c<=122:=by
 unfold wordB at h
 simp only[Yp] at h
 intro c hc
 exact az_range (YG.mp h.2 c hc)
theorem ZaV {w:Str}(h:wordB w=true):1<=w.length/\w.length<=12:=by
 unfold wordB at h
 simp only[Yp,decide_eq_true_eq] at h
 lia
theorem Zdm {x:Nm}(h:x.Ok):∀p∈[x.h,x.d,numS x.n],(∀c∈p.cps.toList,c≠46/\c≠32):=by
 intro p hp
 simp only[Ye,Yt,or_false] at hp
 intro c hc
 rcases hp with rfl | rfl | rfl
 ·have:=word_az h.h c hc;lia
 ·have:=word_az h.d c hc;lia
 ·have:=ZcH (n:=x.n) (by have:=h.n0;lia) c hc;lia
theorem Zb6 {x:Nm}:x.T.cps.toList=x.h.cps.toList++46::(x.d.cps.toList++46::(numS x.n).cps.toList):=by
 unfold Nm.T
 rw[ZaS];rfl
theorem Zba (w:Str):w.length=w.cps.toList.length:=by rw[Yy];rfl
theorem ZcW {p:Pt}(h:p.Ok):1<=p.T.length/\p.T.length<=56:=by
 cases p with
 | st k=>have:=ZaV h;exact ⟨this.1,by show k.length<=56;lia⟩
 | nm x=>
  have h1:=ZaV h.h
  have h2:=ZaV h.d
  have h3:=Za7 (n:=x.n) (by have:=h.n0;lia) h.n1
  show 1<=x.T.length/\x.T.length<=56
  rw[Zba] at h1 h2 h3 ⊢
  rw[Zb6]
  simp only[YU,Ys]
  lia
 | num n=>
  have h1:=Za7 h.1 h.2
  have h2:=num_ne h.1
  show 1<=(numS n).length/\(numS n).length<=56
  rw[Zba] at h1 ⊢
  cases e:(numS n).cps.toList with
  | nil=>exact absurd e h2
  | cons a r=>rw[e] at h1;simp at h1 ⊢;lia
theorem pt_free {p:Pt}(h:p.Ok):32∉p.T.cps.toList:=by
 intro hc
 cases p with
 | st k=>have:=word_az h 32 hc;lia
 | nm x=>
  change 32∈x.T.cps.toList at hc
  rw[Zb6] at hc
  simp only[Y8,Ye] at hc
  have k:=Zdm h
  rcases hc with hc | hc | hc | hc | hc
  ·exact (k x.h (by simp) 32 hc).2 rfl
  ·cases hc
  ·exact (k x.d (by simp) 32 hc).2 rfl
  ·cases hc
  ·exact (k (numS x.n) (by simp) 32 hc).2 rfl
 | num n=>have:=ZcH h.1 32 hc;lia
theorem Zbp {α:Type}{te:PSt->M SV}{g f:α->PV}:∀(l:List α) (ρ:PSt) (ys:List PV) (C:Cs),(∀a∈l,te (ρ.set 0 #[g a]) C=some (.v (f a),C))->compL (hName 0) tOk te (l.map g) ρ ys C=some (ys++l.map f,C)
 | [],ρ,ys,C,_=>by simp[compL,Pu.ret]
 | x::xs,ρ,ys,C,h=>by
  have h1:=h x (by simp)
  have h2:=Zbp (te:=te) (g:=g) (f:=f) xs (ρ.set 0 #[g x]) (ys++[f x]) C fun y hy=>by rw[List.set_set];exact h y (by simp[hy])
  simp![compL,hName,tOk,h1,h2]
theorem name_text_eq {x:Nm}(h:x.Ok)(C:Cs):F_qam [.v x.P] C=some (.v (.str x.T),C):=by
 have hl:=ZbC (n:=x.n) (by have:=h.n0;lia) h.n1
 have h1:=ZaV h.h
 have h2:=ZaV h.d
 have h3:=Za7 (n:=x.n) (by have:=h.n0;lia) h.n1
 have e:=ZcJ ⟨(List.toArray [46])⟩ [x.h,x.d,numS x.n] (by simp[Str.length] at *;lia)
 simp only[Yr,List.map_nil] at e
 have e':joinH (.str ".") [.lst [.str x.h,.str x.d,.str (numS x.n)]]=some (.str x.T):=e
 simp![F_qam,Nm.P,mComp,mItems,itemsP,stIn',compL,hName,tOk,strH,hl,e']
theorem shown_name_eq {x:Nm}(h:x.Ok)(C:Cs):F_qbx [.v x.P] C=some (.v (.str x.T),C):=by
 have hl:=ZbC (n:=x.n) (by have:=h.n0;lia) h.n1
 have h1:=ZaV h.h
 have h2:=ZaV h.d
 have h3:=Za7 (n:=x.n) (by have:=h.n0;lia) h.n1
 have e:catS YW [.v (.str x.h),.v (.str "."),.v (.str x.d),.v (.str "."),.v (.str (numS x.n))]=some x.T:=by
  have hs:((YW++x.h++"."++x.d++"."++numS x.n:Str))=x.T:=by
   apply Zbq
   rw[Zb6]
   simp only[Za4,YJ]
   show []++x.h.cps.toList++[46]++x.d.cps.toList++[46]++_=_
   simp
  have ll:∀a b:Str,(a++b).length=a.length + b.length:=fun a b=>XZ a b
  have l0:YW.length=0:=rfl
  have l1:((".":Str)).length=1:=rfl
  simp only[catS]
  rw[if_pos,if_pos,if_pos,if_pos,if_pos,hs]
  all_goals (simp only[ll,l0,l1];lia)
 generalize x.T=T at *
 simp![F_qbx,Nm.P,mAsg,hTup,hCons,hName,hNil,mJoined,mFmt,fmtH,hl,e]
theorem read_name_eq {x:Nm}(h:x.Ok)(C:Cs):F_qbs [.v (.str x.T)] C=some (.v x.P,C):=by
 have hs:Txt.split x.T ⟨(List.toArray [46])⟩=[x.h,x.d,numS x.n]:=split_join (by simp) fun p hp hc=>(Zdm h p hp 46 hc).1 rfl
 have e:splitH (.str x.T) [.str "."]=some (.lst [.str x.h,.str x.d,.str (numS x.n)]):=by
  have hl:=(ZcW (p:=.nm x) h).2
  show (if 1<=(⟨(List.toArray [46])⟩:Str).length/\x.T.length<=100000 then some (PV.lst ((Txt.split x.T ⟨(List.toArray [46])⟩).map .str)) else none)=_
  rw[if_pos ⟨by decide,by change x.T.length<=56 at hl;lia⟩,hs];rfl
 have r:=ZaI (n:=x.n) (by have:=h.n0;lia) h.n1 C
 generalize x.T=T at *
 generalize numS x.n=N at *
 simp![F_qbs,e,Zbo,ixQ,ixP,atI,ixN,r,Nm.P]
theorem comp_flt:∀(xs:List Str) (ρ0:Option SV) (ys:List PV) (C:Cs),compL (hName 0) (mTru (mVar 0)) (mVar 0) (xs.map .str) [ρ0] ys C=some (ys++(xs.filter ne0).map .str,C)
 | [],ρ0,ys,C=>by simp[compL,Pu.ret]
 | x::xs,ρ0,ys,C=>by
  have e:=fun ys=>comp_flt xs #[.str x] ys C
  by_cases hx:x.length=0
  ·simp![compL,hName,ne0,hx,e]
  ·simp![compL,hName,ne0,hx,e]
theorem words_in_eq (z:Str)(ws:List Str)(hl:z.length<=90000)(h:(Txt.split z ⟨(List.toArray [32])⟩).filter ne0=ws)(C:Cs):F_qby [.v (.str z)] C=some (.v (.lst (ws.map .str)),C):=by
 have e:splitH (.str z) [.str " "]=some (.lst ((Txt.split z ⟨(List.toArray [32])⟩).map .str)):=by
  show (if 1<=(⟨(List.toArray [32])⟩:Str).length/\z.length<=100000 then some (PV.lst ((Txt.split z ⟨(List.toArray [32])⟩).map .str)) else none)=_
  rw[if_pos ⟨by decide,by lia⟩]
 have hf:=comp_flt (Txt.split z ⟨(List.toArray [32])⟩) none [] C
 have hn:=split_few z ⟨(List.toArray [32])⟩
 have hn2:((Txt.split z ⟨(List.toArray [32])⟩).map PV.str).length<=100000:=by simp;lia
 rw[h,Y2] at hf
 generalize (Txt.split z ⟨(List.toArray [32])⟩).map PV.str=SP at *
 generalize ws.map PV.str=WS at *
 unfold F_qby B_qby
 generalize ht:(mTru (mVar 0))=t at *
 generalize hv:(mVar 0)=v at *
 have hvv:v [#[.str z]] C=some (.v (.str z),C):=by rw[←hv];rfl
 simp[mDef,mRetF,mComp,mItems,mMt,bnd,hvv,opM,isTy,deref,tyP,aCons,aNil,mC,Pu.ret,mtD,derefs,e,itemsP,hn2,stIn',hf,fin]
theorem words_of_eq (z:Str)(ws:List Str)(hl:z.length<=90000)(h:(Txt.split z ⟨(List.toArray [32])⟩).filter ne0=ws)(C:Cs):F_qbz [.v (.str z)] C=some (.v (.lst (ws.map .str)),C):=by
 have e:=words_in_eq z ws hl h C
 simp![F_qbz,Zbo,e]
theorem blanks (m:Int)(h0:0<=m)(h1:m<=10):∃b,mulSP (.str " ") (.int m)=some (.str b)/\b.cps.toList=YO m.toNat 32/\b.length<=10:=by
 refine ⟨Txt.mul " " m,?_,mulS_list (c:=32) rfl m,?_⟩
 ·unfold mulSP
  dsimp only
  rw[if_pos ⟨rfl,by lia,by lia⟩]
 ·rw[mulS_len rfl];lia
def txB:PSt->M PF:=mSet 2 (mOp (g2 addP) (mOp (g2 addP) (mVar 2) (mOp (g2 mulSP) (mC (.str " ")) (mOp (g2 mulP) (mCB (g1 intH) (aCons (mOp (g2 gtP) (mVar 3) (mC (.int 0))) aNil)) (mOp (g2 ixQ) (mVal (mLst (aCons (mC (.int 1)) (aCons (mC (.int 1)) (aCons (mC (.int 2)) (aCons (mC (.int 4)) aNil)))))) (mFn F_qaq (aCons (mVar 0) (aCons (mC (.int 4)) aNil))))))) (mVar 4))
structure TI (i:Nat)(done:List (List Nat))(t:Str):Prop where
 w:wds 32 t.cps.toList=done
 z:i=0->∃j,t.cps.toList=YO j 32
 l:t.length<=10 + 100 * i
theorem tx_step (k:Nat)(C:Cs)(g:GS C k)(W:Option SV)(i:Nat)(hi:i<=100)(t w:Str)(done:List (List Nat))(I:TI i done t)(hw:32∉w.cps.toList)(hn:w.cps.toList≠[])(hl:w.length<=56):
  ∃t' C',txB [some (.c k),W,#[.str t],#[(.int (i:Int))],#[.str w]] C=some (.nx [some (.c k),W,#[.str t'],#[(.int (i:Int))],#[.str w]],C')/\TI (i + 1) (done++[w.cps.toList]) t'/\Adv k C C':=by
 obtain ⟨d,C1,e1,h1,h2,a1⟩:=ZaO k 4 C g (by decide)
 obtain ⟨p,hp,e2⟩:=ZbS [.int 1,.int 1,.int 2,.int 4] d h1 (by simpa using h2)
 obtain ⟨b,rfl,hb0,hb1⟩:∃b:Int,p=.int b/\1<=b/\b<=4:=by
  simp only[Ye,Yt,or_false] at hp
  rcases hp with rfl | rfl | rfl | rfl<;>exact ⟨_,rfl,by decide,by decide⟩
 obtain ⟨m,hm,hm0,hm1⟩:∃m:Int,(if 0 < (i:Int) then (1:Int) else 0) * b=m/\(i=0->m=0)/\(0 < i->1<=m/\m<=4)/\0<=m/\m<=10:=by
  refine ⟨_,rfl,?_⟩
  by_cases h:i=0
  ·subst h;simp
  ·rw[if_pos (by lia)];lia
 obtain ⟨bl,e3,hbl,hbn⟩:=blanks m (by lia) (by lia)
 have hlt:=I.l
 have ll:∀a b:Str,(a++b).length=a.length + b.length:=fun a b=>XZ a b
 refine ⟨t++bl++w,C1,?_,⟨?_,fun h=>absurd h (by lia),?_⟩,a1⟩
 ·have c1:t.length + bl.length<=1000000:=by lia
  have c2:(t++bl).length + w.length<=1000000:=by rw[ll];lia
  have hb:-18446744073709551616 < b/\b < 18446744073709551616:=by lia
  by_cases h:i=0
  ·subst h
   have hm':=hm0 rfl
   subst hm'
   simp![txB,intH,addP,e1,e2,hb,e3,c1,c2,a1.take]
  ·have h':0 < i:=by lia
   have hm':b=m:=by rw[←hm,if_pos (by lia)];lia
   subst hm'
   simp![txB,intH,addP,e1,e2,hb,e3,c1,c2,a1.take,h']
 ·rw[Za4,Za4,YJ,YJ,hbl]
  by_cases h:i=0
  ·obtain ⟨j,hj⟩:=I.z h
   have hd:done=[]:=by
    rw[←I.w,hj]
    have:=Zcf 32 [] j
    rw[YA] at this
    exact this
   rw[hm0 h,hj,hd]
   show wds 32 (YO j 32++[]++w.cps.toList)=_
   rw[YA,Zcf,wds_one hw hn];rfl
  ·obtain ⟨q,hq⟩:∃q,m.toNat=q + 1:=⟨m.toNat - 1,by lia⟩
   rw[hq,Wc,YF,Wj,wds_app,I.w,Zcf,wds_one hw hn]
 ·rw[ll,ll];lia
def numd:Nat->List Str->List PV
 | _,[]=>[]
 | i,w::r=>.tup [.int (i:Nat),.str w]::numd (i + 1) r
theorem numd_get:∀(ws:List Str) (i j:Nat),(numd i ws)[j]? = ws[j]?.map fun w=>.tup [.int ((i + j:Nat):Int),.str w]
 | [],i,j=>by simp[numd]
 | w::r,i,0=>by simp[numd]
 | w::r,i,j + 1=>by
  simp only[numd,List.getElem?_cons_succ,numd_get r (i + 1) j]
  congr 2
  funext w
  rw[show i + 1 + j=i + (j + 1) by lia]
theorem enum_numd (ws:List Str):enumL (ws.map .str)=numd 0 ws:=by
 apply Wx
 intro j
 rw[numd_get]
 unfold enumL
 by_cases h:j < ws.length
 ·simp[h,List.getD]
 ·simp[h]
def hE:PV->PSt->Option PSt:=hTup (hCons (hName 3) (hCons (hName 4) hNil)) 2
theorem tx_loop (k:Nat)(W:Option SV):∀(rest:List Str) (i:Nat) (done:List (List Nat)) (t:Str) (x3 x4:Option SV) (C:Cs),i + rest.length<=100->(∀w∈rest,32∉w.cps.toList/\w.cps.toList≠[]/\w.length<=56)->TI i done t->GS C k->
  ∃t' x3' x4' C',loop hE txB (numd i rest) [some (.c k),W,#[.str t],x3,x4] C=some (.nx [some (.c k),W,#[.str t'],x3',x4'],C')/\TI (i + rest.length) (done++rest.map (·.cps.toList)) t'/\Adv k C C'
 | [],i,done,t,x3,x4,C,_,_,I,g=>⟨t,x3,x4,C,rfl,by simpa using I,Adv.refl g⟩
 | w::r,i,done,t,x3,x4,C,hi,hw,I,g=>by
  simp only[Ys] at hi
  obtain ⟨a,b,c⟩:=hw w (by simp)
  obtain ⟨t1,C1,e1,I1,a1⟩:=tx_step k C g W i (by lia) t w done I a b c
  obtain ⟨t2,y3,y4,C2,e2,I2,a2⟩:=tx_loop k W r (i + 1) _ t1 #[(.int (i:Nat))] #[.str w] C1 (by lia) (fun z hz=>hw z (by simp[hz])) I1 a1.gs
  refine ⟨t2,y3,y4,C2,?_,?_,a1.trans a2⟩
  ·simp only[numd,loop]
   rw[show hE (.tup [.int (i:Nat),.str w]) [some (.c k),W,#[.str t],x3,x4]=some [some (.c k),W,#[.str t],#[(.int (i:Nat))],#[.str w]] from rfl]
   simp only[bnd,e1,e2]
  ·rw[show i + (w::r).length=i + 1 + r.length by simp;lia]
   simpa using I2
def t1:PSt->M PF:=mSet 2 (mOp (g2 mulSP) (mC (.str " ")) (mOp (g2 ixQ) (mVal (mLst (aCons (mC (.int 0)) (aCons (mC (.int 1)) (aCons (mC (.int 0)) (aCons (mC (.int 3)) aNil)))))) (mFn F_qaq (aCons (mVar 0) (aCons (mC (.int 4)) aNil)))))
def t2:PSt->M PF:=mFor (mEnum (aCons (mVar 1) aNil)) hE txB
def t3:PSt->M PF:=mRet (mOp (g2 addP) (mVar 2) (mOp (g2 mulSP) (mC (.str " ")) (mOp (g2 ixQ) (mVal (mLst (aCons (mC (.int 0)) (aCons (mC (.int 0)) (aCons (mC (.int 1)) (aCons (mC (.int 2)) aNil)))))) (mFn F_qaq (aCons (mVar 0) (aCons (mC (.int 4)) aNil))))))
theorem text_is:B_qau=mSeq t1 (mSeq t2 t3):=rfl
theorem text_adv (k:Nat)(C:Cs)(g:GS C k)(ws:List Str)(hn:ws.length<=60)(hw:∀w∈ws,32∉w.cps.toList/\w.cps.toList≠[]/\w.length<=56):
  ∃z C',F_qau [.c k,.v (.lst (ws.map .str))] C=some (.v (.str z),C')/\wds 32 z.cps.toList=ws.map (·.cps.toList)/\z.length<=90000/\Adv k C C':=by
 obtain ⟨d,C1,e1,h1,h2,a1⟩:=ZaO k 4 C g (by decide)
 obtain ⟨p,hp,e2⟩:=ZbS [.int 0,.int 1,.int 0,.int 3] d h1 (by simpa using h2)
 obtain ⟨m,rfl,hm0,hm1⟩:∃b:Int,p=.int b/\0<=b/\b<=10:=by
  simp only[Ye,Yt,or_false] at hp
  rcases hp with rfl | rfl | rfl | rfl<;>exact ⟨_,rfl,by decide,by decide⟩
 obtain ⟨bl,e3,hbl,hbn⟩:=blanks m hm0 hm1
 have I0:TI 0 [] bl:=⟨by
  rw[hbl]
  have:=Zcf 32 [] m.toNat
  rw[YA] at this
  exact this,fun _=>⟨_,hbl⟩,by lia⟩
 obtain ⟨t',x3,x4,C2,e4,I2,a2⟩:=tx_loop k #[.lst (ws.map .str)] ws 0 [] bl none none C1 (by lia) hw I0 a1.gs
 obtain ⟨d',C3,e5,h3,h4,a3⟩:=ZaO k 4 C2 a2.gs (by decide)
 obtain ⟨q,hq,e6⟩:=ZbS [.int 0,.int 0,.int 1,.int 2] d' h3 (by simpa using h4)
 obtain ⟨m',rfl,hm0',hm1'⟩:∃b:Int,q=.int b/\0<=b/\b<=10:=by
  simp only[Ye,Yt,or_false] at hq
  rcases hq with rfl | rfl | rfl | rfl<;>exact ⟨_,rfl,by decide,by decide⟩
 obtain ⟨bl',e7,hbl',hbn'⟩:=blanks m' hm0' hm1'
 have at1:=(a1.trans a2).trans a3
 have ll:∀a b:Str,(a++b).length=a.length + b.length:=fun a b=>XZ a b
 have hl:=I2.l
 have hl2:t'.length<=20000:=by lia
 refine ⟨t'++bl',C3,?_,?_,by rw[ll];lia,at1⟩
 ·have hen:=enum_numd ws
  generalize ws.map PV.str=WS at *
  have s1:t1 [some (.c k),#[.lst WS],none,none,none] C=some (.nx [some (.c k),#[.lst WS],#[.str bl],none,none],C1):=by
   simp![t1,e1,e2,e3,a1.take]
  have s2:t2 [some (.c k),#[.lst WS],#[.str bl],none,none] C1=some (.nx [some (.c k),#[.lst WS],#[.str t'],x3,x4],C2):=by
   have:mEnum (aCons (mVar 1) aNil) [some (.c k),#[.lst WS],#[.str bl],none,none] C1=some (numd 0 ws,C1):=by rw[←hen];rfl
   unfold t2 mFor bnd
   rw[this]
   exact e4
  have c1:t'.length + bl'.length<=1000000:=by lia
  have s3:t3 [some (.c k),#[.lst WS],#[.str t'],x3,x4] C2=some (.rt (.v (.str (t'++bl'))),C3):=by
   simp![t3,addP,e5,e6,e7,c1,a3.take]
  have run:B_qau [some (.c k),#[.lst WS],none,none,none] C=some (.rt (.v (.str (t'++bl'))),C3):=by
   rw[text_is,Zay s1,Zay s2,s3]
  unfold F_qau
  generalize B_qau=bb at *
  simp![run,at1.take]
 ·rw[Za4,YJ,hbl',wds_end,I2.w]
  simp
theorem ZcR (n:Nat)(k:Str)(C:Cs):F_qas (n + 1) [.v (.str k),.v (.str k)] C=some (.v (.bl true),C):=by
 simp![F_qas]
theorem Zb0 (n:Nat)(k:Int)(C:Cs):F_qas (n + 1) [.v (.int k),.v (.int k)] C=some (.v (.bl true),C):=by
 simp![F_qas]
theorem same_nm (n:Nat)(x:Nm)(C:Cs):F_qas (n + 2) [.v x.P,.v x.P] C=some (.v (.bl true),C):=by
 have e1:=ZcR n x.h C
 have e2:=ZcR n x.d C
 have e3:=Zb0 n x.n C
 unfold Nm.P
 rw[F_qas]
 generalize F_qas (n + 1)=Z at *
 simp![mComp,mZip,zipP,itemsP,stIn',compL,hTup,hCons,hName,hNil,tOk,e1,e2,e3,allH,boolsP]
def rowP (l:List Pt):PV:=.tup (l.map Pt.P)
inductive Dd:Str->List Pt->Prop
 | join:Dd "join" []
 | say (w:Str) (hw:wordB w=true):Dd "say" [.st w]
 | does (c p:Int) (h0:0<=c) (h1:c < 12) (h2:0<=p) (h3:p < 9):Dd "do" [.num c,.num p]
 | free (c:Int) (h0:0<=c) (h1:c < 12):Dd "free" [.num c]
 | ready (c:Int) (h0:0<=c) (h1:c < 12):Dd "ready" [.num c]
 | hand (c:Int) (w:Str) (h0:0<=c) (h1:c < 12) (hw:wordB w=true) (hb:w≠"bell"):Dd "hand" [.num c,.st w]
 | quit (c:Int) (h0:0<=c) (h1:c < 12):Dd "quit" [.num c]
 | note:Dd "note" []
theorem deed_adv (k:Nat)(C:Cs)(g:GS C k):∃(kd:Str) (ps:List Pt) (C':Cs),F_qac [.c k] C=some (.v (rowP (.st kd::ps)),C')/\Dd kd ps/\Adv k C C':=by
 obtain ⟨c,C1,e1,hc0,hc1,a1⟩:=ZaO k 12 C g (by decide)
 obtain ⟨p,C2,e2,hp0,hp1,a2⟩:=ZaO k 9 C1 a1.gs (by decide)
 obtain ⟨w,C3,e3,hw,a3⟩:=word_adv k C2 a2.gs
 obtain ⟨d,C4,e4,hd0,hd1,a4⟩:=ZaO k 8 C3 a3.gs (by decide)
 have at1:=((a1.trans a2).trans a3).trans a4
 obtain ⟨v,hv,hvw,hvb⟩:∃v:Str,ixQ (.lst [.str w,.str "belle"]) (.int (if w="bell" then 1 else 0))=some (.str v)/\wordB v=true/\v≠"bell":=by
  split
  ·exact ⟨"belle",rfl,by decide +kernel,by decide +kernel⟩
  ·exact ⟨w,rfl,hw,by assumption⟩
 obtain ⟨q,hq,e5⟩:=ZbS [.tup [.str "join"],.tup [.str "say",.str w],.tup [.str "do",.int c,.int p],.tup [.str "free",.int c],.tup [.str "ready",.int c],.tup [.str "hand",.int c,.str v],.tup [.str "quit",.int c],.tup [.str "note"]] d hd0 (by simpa using hd1)
 have run:F_qac [.c k] C=some (.v q,C4):=by
  simp![F_qac,addP,intH,e1,e2,e3,e4,e5,hv,a1.take,a2.take,a3.take,a4.take,at1.take]
 rw[run]
 simp only[Ye,Yt,or_false] at hq
 rcases hq with rfl | rfl | rfl | rfl | rfl | rfl | rfl | rfl
 ·exact ⟨"join",[],C4,rfl,.join,at1⟩
 ·exact ⟨"say",[.st w],C4,rfl,.say w hw,at1⟩
 ·exact ⟨"do",[.num c,.num p],C4,rfl,.does c p hc0 hc1 hp0 hp1,at1⟩
 ·exact ⟨"free",[.num c],C4,rfl,.free c hc0 hc1,at1⟩
 ·exact ⟨"ready",[.num c],C4,rfl,.ready c hc0 hc1,at1⟩
 ·exact ⟨"hand",[.num c,.st v],C4,rfl,.hand c v hc0 hc1 hvw hvb,at1⟩
 ·exact ⟨"quit",[.num c],C4,rfl,.quit c hc0 hc1,at1⟩
 ·exact ⟨"note",[],C4,rfl,.note,at1⟩
theorem ZbR {x:Nm}(h:x.Ok)(C:Cs):F_qbe [.v x.P] C=some (.v (.bl true),C):=by
 have e0:=row_tup [.str x.h,.str x.d,.int x.n] 3 3 C
 have e1:=ZbM (.str x.h) C rfl
 have e2:=ZbM (.str x.d) C rfl
 have e3:=Za6 (.int x.n) 1 C rfl
 simp only[wordP,h.h,h.d] at e1 e2
 have hn:numB (.int x.n) 1=true:=by simp[numB,h.n0]
 rw[hn] at e3
 simp at e0
 simp![F_qbe,Nm.P,ixQ,ixP,atI,ixN,e0,e1,e2,e3]
theorem Za8 {c:Int}(h0:0<=c)(h1:c < 12)(C:Cs):F_qba [.v (.int c)] C=some (.v (.bl true),C):=by
 have e:=Zbi (.int c) 12 C rfl
 have hb:belB (.int c) 12=true:=by simp[belB,h0,h1]
 rw[hb] at e
 simp![F_qba,e]
def yes (F:List SV->M SV)(ps:List Pt):Prop:=∀C,F [.v (.tup (ps.map Pt.P))] C=some (.v (.bl true),C)
theorem of_bare:yes F_qaz []:=by
 intro C
 simp![F_qaz]
theorem of_word {w:Str}(h:wordB w=true):yes F_qbk [.st w]:=by
 intro C
 have e1:=ZbM (.str w) C rfl
 simp only[wordP,h] at e1
 simp![F_qbk,Pt.P,ixQ,ixP,atI,ixN,e1]
theorem ZcX {c:Int}(h0:0<=c)(h1:c < 12):yes F_qbh [.num c]:=by
 intro C
 have e2:=Za8 h0 h1 C
 simp![F_qbh,Pt.P,ixQ,ixP,atI,ixN,e2]
theorem of_part {c p:Int}(h0:0<=c)(h1:c < 12)(h2:0<=p)(h3:p < 9):yes F_qbj [.num c,.num p]:=by
 intro C
 have e1:=Za8 h0 h1 C
 have e2:=Zbi (.int p) 9 C rfl
 have hb:belB (.int p) 9=true:=by simp[belB,h2,h3]
 rw[hb] at e2
 simp![F_qbj,Pt.P,ixQ,ixP,atI,ixN,e1,e2]
theorem of_house {c:Int}{w:Str}(h0:0<=c)(h1:c < 12)(h:wordB w=true)(hb:w≠"bell"):yes F_qbi [.num c,.st w]:=by
 intro C
 have e1:=Za8 h0 h1 C
 have e2:=ZbM (.str w) C rfl
 simp only[wordP,h] at e2
 simp![F_qbi,Pt.P,ixQ,ixP,atI,ixN,e1,e2,hb]
section
variable {d1 f1 f2 f3 f4 f5:Addr}
theorem ZbE {k:Str}{ps:List Pt}{f:Addr}{F:List SV->M SV}(h1:(Zbm f1 f2 f3 f4 f5).lookup k=some f)(h2:(ZaT f1 f2 f3 f4 f5).lookup f=some F)(h3:yes F ps)(C:Cs):F_qbb d1 f1 f2 f3 f4 f5 [.v (rowP (.st k::ps))] C=some (.v (.bl true),C):=by
 have hc:cutP (.str k::ps.map Pt.P) (some 1) none=ps.map Pt.P:=by
  simp[cutP,HT.sIx]
  exact Wo (by simp)
 have e:=h3 C
 unfold rowP
 simp only[Yr,Pt.P]
 generalize ps.map Pt.P=PS at *
 simp![F_qbb,ixQ,ixP,atI,ixN,topI,topG,h1,mCallV,callF,h2,hc,e]
theorem is_deed_eq (h:f1≠f2/\f1≠f3/\f1≠f4/\f1≠f5/\f2≠f3/\f2≠f4/\f2≠f5/\f3≠f4/\f3≠f5/\f4≠f5){k:Str}{ps:List Pt}(hd:Dd k ps)(C:Cs):F_qbb d1 f1 f2 f3 f4 f5 [.v (rowP (.st k::ps))] C=some (.v (.bl true),C):=by
 obtain ⟨h12,h13,h14,h15,h23,h24,h25,h34,h35,h45⟩:=h
 have g1:(ZaT f1 f2 f3 f4 f5).lookup f1=some F_qaz:=by simp[ZaT,Yj]
 have g2:(ZaT f1 f2 f3 f4 f5).lookup f2=some F_qbk:=by simp[ZaT,Yj,beq_eq_false_iff_ne.mpr (XA h12)]
 have g3:(ZaT f1 f2 f3 f4 f5).lookup f3=some F_qbj:=by simp[ZaT,Yj,beq_eq_false_iff_ne.mpr (XA h13),beq_eq_false_iff_ne.mpr (XA h23)]
 have g4:(ZaT f1 f2 f3 f4 f5).lookup f4=some F_qbh:=by simp[ZaT,Yj,beq_eq_false_iff_ne.mpr (XA h14),beq_eq_false_iff_ne.mpr (XA h24),beq_eq_false_iff_ne.mpr (XA h34)]
 have g5:(ZaT f1 f2 f3 f4 f5).lookup f5=some F_qbi:=by simp[ZaT,Yj,beq_eq_false_iff_ne.mpr (XA h15),beq_eq_false_iff_ne.mpr (XA h25),beq_eq_false_iff_ne.mpr (XA h35),beq_eq_false_iff_ne.mpr (XA h45)]
 cases hd with
 | join=>exact ZbE 1e0 g1 of_bare C
 | say w hw=>exact ZbE 1e0 g2 (of_word hw) C
 | does c p h0 h1 h2 h3=>exact ZbE 1e0 g3 (of_part h0 h1 h2 h3) C
 | free c h0 h1=>exact ZbE 1e0 g4 (ZcX h0 h1) C
 | ready c h0 h1=>exact ZbE 1e0 g4 (ZcX h0 h1) C
 | hand c w h0 h1 hw hb=>exact ZbE 1e0 g5 (of_house h0 h1 hw hb) C
 | quit c h0 h1=>exact ZbE 1e0 g4 (ZcX h0 h1) C
 | note=>exact ZbE 1e0 g1 of_bare C
end
def dWords (kd:Str)(ps:List Pt):List Str:=if kd="hand" then (match ps with | [a,b]=>["hand",a.T,"to",b.T] | _=>[]) else kd::ps.map Pt.T
theorem dd_ok {k:Str}{ps:List Pt}(h:Dd k ps):(∀p∈ps,p.Ok)/\wordB k=true/\ps.length<=2:=by
 cases h<;>refine ⟨?_,by decide +kernel,by simp⟩<;>simp[Pt.Ok]<;>first | assumption | (refine ⟨?_,?_⟩<;>first | assumption | lia | (refine ⟨?_,?_⟩<;>first | assumption | lia)) | skip
theorem fmt_part {p:Pt}(h:p.Ok)(hn:∀x,p≠.nm x)(C:Cs):mFmt (mVar 0) [#[p.P]] C=some (.v (.str p.T),C):=by
 cases p with
 | st k=>simp![Pt.P,Pt.T,mFmt,fmtH]
 | nm x=>exact absurd rfl (hn x)
 | num n=>
  have hl:=ZbC h.1 h.2
  simp![Pt.P,Pt.T,mFmt,fmtH,hl]
theorem dd_plain {k:Str}{ps:List Pt}(h:Dd k ps):∀p∈ps,∀x,p≠.nm x:=by
 cases h<;>simp
theorem Zcv {k:Str}{ps:List Pt}(h:Dd k ps)(hk:k≠"hand")(C:Cs):F_qbv [.v (rowP (.st k::ps))] C=some (.v (.str (XT ⟨(List.toArray [32])⟩ (k::ps.map Pt.T))),C):=by
 obtain ⟨ho,hw,hl⟩:=dd_ok h
 have hpl:=dd_plain h
 have hj:joinH (.str " ") [.lst ((k::ps.map Pt.T).map .str)]=some (.str (XT ⟨(List.toArray [32])⟩ (k::ps.map Pt.T))):=by
  refine ZcJ ⟨(List.toArray [32])⟩ _ ?_
  have hk:=ZaV hw
  show _ + _ * 1<=_
  match ps,ho,hl with
  | [],_,_=>simp;lia
  | [a],ho,_=>have:=ZcW (ho a (by simp));simp;lia
  | [a,b],ho,_=>have:=ZcW (ho a (by simp));have:=ZcW (ho b (by simp));simp;lia
 have key:compL (hName 0) tOk (mFmt (mVar 0)) (.str k::ps.map Pt.P) [none] [] C=some ((k::ps.map Pt.T).map .str,C):=by
  have:=Zbp (te:=mFmt (mVar 0)) (g:=Pt.P) (f:=fun p:Pt=>PV.str p.T) (.st k::ps) [none] [] C (fun p hp=>by
   rcases Ye.mp hp with rfl | hp
   ·exact fmt_part (p:=.st k) hw (by simp) C
   ·exact fmt_part (ho p hp) (hpl p hp) C)
  rw[Y2] at this
  rw[Yr,Y9]
  exact this
 have hn:(ps.map Pt.P).length<=99999:=by simp;lia
 unfold F_qbv B_qbv rowP
 simp only[Yr,Pt.P]
 generalize hx:XT ⟨(List.toArray [32])⟩ (k::ps.map Pt.T)=J at *
 generalize (k::ps.map Pt.T).map PV.str=WS at *
 generalize ps.map Pt.P=PS at *
 generalize hte:mFmt (mVar 0)=te at *
 simp![ixQ,ixP,atI,ixN,hk,mComp,mItems,itemsP,stIn',hn,key,hj]
theorem ZcQ {c:Int}{w:Str}(h0:0<=c)(h1:c < 12)(hw:wordB w=true)(C:Cs):F_qbv [.v (.tup [.str "hand",.int c,.str w])] C=some (.v (.str (XT ⟨(List.toArray [32])⟩ ["hand",numS c,"to",w])),C):=by
 have hl:=ZbC h0 (show c < 10 ^ 30 by lia)
 have hn:=Za7 h0 (show c < 10 ^ 30 by lia)
 have hwl:=ZaV hw
 have e:catS YW [.v (.str "hand "),.v (.str (numS c)),.v (.str " to "),.v (.str w)]=some (XT ⟨(List.toArray [32])⟩ ["hand",numS c,"to",w]):=by
  have hs:(YW++"hand "++numS c++" to "++w:Str)=XT ⟨(List.toArray [32])⟩ ["hand",numS c,"to",w]:=by
   apply Zbq
   rw[ZaS]
   simp only[Za4,YJ]
   show []++[104,97,110,100,32]++(numS c).cps.toList++[32,116,111,32]++w.cps.toList=[104,97,110,100]++32::((numS c).cps.toList++32::([116,111]++32::w.cps.toList))
   simp
  have ll:∀a b:Str,(a++b).length=a.length + b.length:=fun a b=>XZ a b
  have l0:YW.length=0:=rfl
  have l1:(("hand ":Str)).length=5:=rfl
  have l2:((" to ":Str)).length=4:=rfl
  simp only[catS]
  rw[if_pos,if_pos,if_pos,if_pos,hs]
  all_goals (simp only[ll,l0,l1,l2];lia)
 generalize XT ⟨(List.toArray [32])⟩ ["hand",numS c,"to",w]=T at *
 simp![F_qbv,ixQ,ixP,atI,ixN,mJoined,mFmt,fmtH,hl,e]
theorem shown_deed_eq {k:Str}{ps:List Pt}(h:Dd k ps)(C:Cs):F_qbv [.v (rowP (.st k::ps))] C=some (.v (.str (XT ⟨(List.toArray [32])⟩ (dWords k ps))),C):=by
 by_cases hk:k="hand"
 ·cases h<;>first | exact absurd hk (by decide +kernel) | skip
  rename_i c w h0 h1 hw hb
  exact ZcQ h0 h1 hw C
 ·have:=Zcv h hk C
  unfold dWords
  rw[if_neg hk]
  exact this
theorem nt:¬(("number":Str)="to"):=by decide +kernel
theorem wt:¬(("word":Str)="to"):=by decide +kernel
theorem wn:¬(("word":Str)="number"):=by decide +kernel
section
variable {d2 t0 t1 t2 t3 t4 t5 t6 t7:Addr}
theorem rd_bare {k:Str}{f:Addr}(h1:(Zax t0 t1 t2 t3 t4 t5 t6 t7).lookup k=some f)(h2:(Zan t0 t1 t2 t3 t4 t5 t6 t7).lookup f=some [])(C:Cs):F_qbp d2 t0 t1 t2 t3 t4 t5 t6 t7 [.v (.lst [.str k])] C=some (.v (rowP [.st k]),C):=by
 simp![F_qbp,ixQ,ixP,atI,ixN,topI,topG,h1,lenTH,h2,Zbo,addP,mNew,mFor,mZipT,zipTP,itemsT,itemsP,cutP,HT.sIx,loop,tupH,rowP,Pt.P]
theorem rd_num {k:Str}{f:Addr}{c:Int}(h0:0<=c)(hc:c < 12)(h1:(Zax t0 t1 t2 t3 t4 t5 t6 t7).lookup k=some f)(h2:(Zan t0 t1 t2 t3 t4 t5 t6 t7).lookup f=some [("number":Str)])(C:Cs):F_qbp d2 t0 t1 t2 t3 t4 t5 t6 t7 [.v (.lst [.str k,.str (numS c)])] C=some (.v (rowP [.st k,.num c]),C):=by
 have e:=ZaI h0 (show c < 10 ^ 30 by lia) (C++[.lst [.str k]])
 generalize numS c=N at *
 simp![F_qbp,ixQ,ixP,atI,ixN,topI,topG,h1,lenTH,h2,Zbo,addP,mNew,mFor,mZipT,zipTP,itemsT,itemsP,cutP,HT.sIx,loop,hTup,hCons,hName,hNil,mApp,isLst,appC,nt,e,tupH,rowP,Pt.P]
theorem rd_word {k w:Str}{f:Addr}(h1:(Zax t0 t1 t2 t3 t4 t5 t6 t7).lookup k=some f)(h2:(Zan t0 t1 t2 t3 t4 t5 t6 t7).lookup f=some [("word":Str)])(C:Cs):F_qbp d2 t0 t1 t2 t3 t4 t5 t6 t7 [.v (.lst [.str k,.str w])] C=some (.v (rowP [.st k,.st w]),C):=by
 simp![F_qbp,ixQ,ixP,atI,ixN,topI,topG,h1,lenTH,h2,Zbo,addP,mNew,mFor,mZipT,zipTP,itemsT,itemsP,cutP,HT.sIx,loop,hTup,hCons,hName,hNil,mApp,isLst,appC,wt,wn,tupH,rowP,Pt.P]
theorem rd_two {k:Str}{f:Addr}{c p:Int}(h0:0<=c)(hc:c < 12)(h3:0<=p)(hp:p < 12)(h1:(Zax t0 t1 t2 t3 t4 t5 t6 t7).lookup k=some f)(h2:(Zan t0 t1 t2 t3 t4 t5 t6 t7).lookup f=some [("number":Str),"number"])(C:Cs):F_qbp d2 t0 t1 t2 t3 t4 t5 t6 t7 [.v (.lst [.str k,.str (numS c),.str (numS p)])] C=some (.v (rowP [.st k,.num c,.num p]),C):=by
 have e:=ZaI h0 (show c < 10 ^ 30 by lia) (C++[.lst [.str k]])
 have e2:=ZaI h3 (show p < 10 ^ 30 by lia) (C++[.lst [.str k,.int c]])
 generalize numS c=N at *
 generalize numS p=M at *
 simp![F_qbp,ixQ,ixP,atI,ixN,topI,topG,h1,lenTH,h2,Zbo,addP,mNew,mFor,mZipT,zipTP,itemsT,itemsP,cutP,HT.sIx,loop,hTup,hCons,hName,hNil,mApp,isLst,appC,nt,e,e2,tupH,rowP,Pt.P]
theorem rd_hand {k w:Str}{f:Addr}{c:Int}(h0:0<=c)(hc:c < 12)(h1:(Zax t0 t1 t2 t3 t4 t5 t6 t7).lookup k=some f)(h2:(Zan t0 t1 t2 t3 t4 t5 t6 t7).lookup f=some [("number":Str),"to","word"])(C:Cs):F_qbp d2 t0 t1 t2 t3 t4 t5 t6 t7 [.v (.lst [.str k,.str (numS c),.str "to",.str w])] C=some (.v (rowP [.st k,.num c,.st w]),C):=by
 have e:=ZaI h0 (show c < 10 ^ 30 by lia) (C++[.lst [.str k]])
 generalize numS c=N at *
 simp![F_qbp,ixQ,ixP,atI,ixN,topI,topG,h1,lenTH,h2,Zbo,addP,mNew,mFor,mZipT,zipTP,itemsT,itemsP,cutP,HT.sIx,loop,hTup,hCons,hName,hNil,mApp,isLst,appC,nt,wt,wn,e,tupH,rowP,Pt.P]
theorem read_deed_eq (hd:[t0,t1,t2,t3,t4,t5,t6,t7].Nodup){k:Str}{ps:List Pt}(h:Dd k ps)(C:Cs):F_qbp d2 t0 t1 t2 t3 t4 t5 t6 t7 [.v (.lst ((dWords k ps).map .str))] C=some (.v (rowP (.st k::ps)),C):=by
 simp only[WO,Ye,Yt,or_false,not_or,List.nodup_nil,not_false_eq_true,and_true] at hd
 obtain ⟨⟨a1,a2,a3,a4,a5,a6,a7⟩,⟨b2,b3,b4,b5,b6,b7⟩,⟨c3,c4,c5,c6,c7⟩,⟨e4,e5,e6,e7⟩,⟨g5,g6,g7⟩,⟨i6,i7⟩,j7⟩:=hd
 have n:∀{x y:Addr},¬x=y->(y==x)=false:=fun h=>beq_eq_false_iff_ne.mpr (XA h)
 cases h with
 | join=>exact rd_bare (f:=t0) 1e0 (by simp[Zan,Yj]) C
 | say w hw=>exact rd_word (f:=t1) 1e0 (by simp[Zan,Yj,n a1]) C
 | does c p h0 h1 h2 h3=>exact rd_two (f:=t2) h0 h1 h2 (by lia) 1e0 (by simp[Zan,Yj,n a2,n b2]) C
 | free c h0 h1=>exact rd_num (f:=t3) h0 h1 1e0 (by simp[Zan,Yj,n a3,n b3,n c3]) C
 | ready c h0 h1=>exact rd_num (f:=t4) h0 h1 1e0 (by simp[Zan,Yj,n a4,n b4,n c4,n e4]) C
 | hand c w h0 h1 hw hb=>exact rd_hand (f:=t5) h0 h1 1e0 (by simp[Zan,Yj,n a5,n b5,n c5,n e5,n g5]) C
 | quit c h0 h1=>exact rd_num (f:=t6) h0 h1 1e0 (by simp[Zan,Yj,n a6,n b6,n c6,n e6,n g6,n i6]) C
 | note=>exact rd_bare (f:=t7) 1e0 (by simp[Zan,Yj,n a7,n b7,n c7,n e7,n g7,n i7,n j7]) C
end
def ky (t:Nm):List Key:=[.inr t.h,.inr t.d,.inl t.n]
theorem nm_inj {t u:Nm}(h:t.P=u.P):t=u:=by
 obtain ⟨a,b,n⟩:=t;obtain ⟨a',b',n'⟩:=u
 simp[Nm.P] at h;obtain ⟨rfl,rfl,rfl⟩:=h;rfl
theorem pur_nm (t:Nm):pur t.P=true:=by simp[Nm.P,pur,purs]
theorem ltD_nm (t u:Nm):ltD t.P u.P=some (lT t.P u.P):=by
 have h:∃c,ltD t.P u.P=some c:=by
  unfold Nm.P ltD lexD
  split
  ·unfold lexD;split
   ·unfold lexD;split
    ·unfold lexD;exact ⟨_,rfl⟩
    ·unfold ltD;exact ⟨_,rfl⟩
   ·unfold ltD;exact ⟨_,rfl⟩
  ·unfold ltD;exact ⟨_,rfl⟩
 obtain ⟨c,e⟩:=h
 rw[e,ltD_lT _ e]
theorem Zcn (g:PV->Bool)(ts:List Nm)(h:∀t:Nm,g t.P=true):(ts.map Nm.P).all g=true:=by
 rw[YG];intro x hx;obtain ⟨t,_,rfl⟩:=YM.mp hx;exact h t
theorem cmp_nm (ts:List Nm):cmpAll (ts.map Nm.P)=true:=Zcn _ ts fun t=>Zcn _ ts fun u=>by rw[ltD_nm];rfl
theorem purs_nm:∀ts:List Nm,purs (ts.map Nm.P)=true
 | []=>rfl
 | t::ts=>by rw[Yr];unfold purs;rw[pur_nm,purs_nm ts];rfl
theorem dats_nm:∀ts:List Nm,dats (ts.map Nm.P)=true
 | []=>rfl
 | t::ts=>by rw[Yr];unfold dats;rw[dats_nm ts];simp[Nm.P,dat,dats]
theorem deps_nm:∀ts:List Nm,deps (ts.map Nm.P)<=1
 | []=>by simp[deps]
 | t::ts=>by rw[Yr];unfold deps;have:=deps_nm ts;simp[Nm.P,dep,deps];lia
theorem sortable_nm (ts:List Nm):sortable (ts.map Nm.P)=true:=by
 unfold sortable;rw[Zcn (fun p=>fstK p==4) ts fun t=>rfl];simp
theorem sortP_nm (ts:List Nm)(h:ts.length < 64):sortP (ts.map Nm.P)=some (sortL (ts.map Nm.P)):=by
 have hd:=deps_nm ts
 unfold sortP
 rw[if_pos]
 rw[dats_nm,sortable_nm,cmp_nm,Yu]
 simp[h];lia
theorem of_all {xs:List PV}(h:∀x∈xs,∃t:Nm,x=t.P):∃ts:List Nm,xs=ts.map Nm.P:=by
 induction xs with
 | nil=>exact ⟨[],rfl⟩
 | cons x xs ih=>
  obtain ⟨t,rfl⟩:=h x (.head _)
  obtain ⟨ts,rfl⟩:=ih fun y hy=>h y (.tail _ hy)
  exact ⟨t::ts,rfl⟩
theorem pw_map {α β:Type}{R:β->β->Prop}{S:α->α->Prop}(f:α->β)(h:∀a b,R (f a) (f b)->S a b){l:List α}(p:(l.map f).Pairwise R):l.Pairwise S:=by
 rw[VB] at p
 exact p.imp fun {a b} z=>h a b z
theorem map_pw {α β:Type}{R:β->β->Prop}{S:α->α->Prop}(f:α->β)(h:∀a b,S a b->R (f a) (f b)){l:List α}(p:l.Pairwise S):(l.map f).Pairwise R:=by
 rw[VB];exact p.imp fun {a b} z=>h a b z
def Ris (us:List Nm):Prop:=us.Pairwise fun a b=>lT a.P b.P=true
theorem sort_nm (ts:List Nm)(hn:ts.Nodup):∃us:List Nm,sortL (ts.map Nm.P)=us.map Nm.P/\us.length=ts.length/\(∀u∈us,u∈ts)/\Ris us:=by
 have p:=sortL_perm (cmp_nm ts) (purs_nm ts)
 have r:=sortL_rising (cmp_nm ts) (purs_nm ts)
 obtain ⟨us,e⟩:=of_all (xs:=sortL (ts.map Nm.P)) fun x hx=>by
  obtain ⟨t,_,rfl⟩:=YM.mp (p.mem_iff.mp hx);exact ⟨t,rfl⟩
 refine ⟨us,e,?_,fun u hu=>?_,?_⟩
 ·have:=p.length_eq;rw[e] at this;simpa using this
 ·have:u.P∈sortL (ts.map Nm.P):=by rw[e];exact Vi hu
  obtain ⟨t,ht,e2⟩:=YM.mp (p.mem_iff.mp this)
  rw[←nm_inj e2];exact ht
 ·rw[e] at r p
  have hnd:(us.map Nm.P).Nodup:=p.nodup_iff.mpr (map_pw Nm.P (fun a b z q=>z (nm_inj q)) hn)
  unfold Rising at r
  have:=r.and hnd
  refine (pw_map (R:=fun a b=>lT b a=false/\a≠b) (S:=fun a b:Nm=>lT a.P b.P=true) Nm.P (fun a b z=>?_) this)
  cases c:lT a.P b.P with
  | true=>rfl
  | false=>exact absurd (lT_tri _ (pur_nm a) (pur_nm b) c z.1) z.2
theorem putKs_ky (us:List Nm)(t:Nm)(hn:us.Nodup):∃us':List Nm,putKs (us.map ky) (ky t)=us'.map ky/\us'.length<=us.length + 1/\us'.Nodup/\∀u∈us',u∈us\/u=t:=by
 unfold putKs
 by_cases h:inK (ky t) (us.map ky)=true
 ·rw[if_pos h];exact ⟨us,rfl,by lia,hn,fun u hu=>.inl hu⟩
 ·rw[if_neg h]
  refine ⟨us++[t],by simp,by simp,?_,fun u hu=>by simpa using hu⟩
  rw[VA]
  refine ⟨hn,by simp,fun a ha b hb e=>?_⟩
  have hb:b=t:=by simpa using hb
  subst hb e
  exact h (inK_iff.mpr (Vi ha))
theorem map_tupK_ky (us:List Nm):(us.map ky).map tupK=us.map Nm.P:=by rw[Y9];rfl
structure Lt where
 x:Nm
 prev:Int
 gots:List Nm
 time:Int
 kd:Str
 ps:List Pt
def Lt.P (l:Lt):PV:=.tup [.str l.x.h,.str l.x.d,.int l.x.n,.int l.prev,.tup (l.gots.map Nm.P),.int l.time,rowP (.st l.kd::l.ps)]
structure Lt.Ok (l:Lt):Prop where
 x:l.x.Ok
 p0:0<=l.prev
 p1:l.prev < 10 ^ 30
 g:∀y∈l.gots,y.Ok/\(y.h=l.x.h->y.d≠l.x.d)
 gn:l.gots.length<=30
 gr:Ris l.gots
 t0:0<=l.time
 t1:l.time < 10 ^ 30
 d:Dd l.kd l.ps
theorem ZbF {g:PV->PSt->Option PSt}{te:PSt->M SV}{C:Cs}(I:PSt->Prop):∀(xs:List PV),(∀x∈xs,∀ρ,I ρ->∃ρ',g x ρ=some ρ'/\I ρ'/\te ρ' C=some (.v (.bl true),C))->∀ρ ys,I ρ->compL g tOk te xs ρ ys C=some (ys++xs.map fun _=>.bl true,C)
 | [],_,ρ,ys,_=>by simp[compL,Pu.ret]
 | x::xs,h,ρ,ys,i=>by
  obtain ⟨ρ',e1,i',e2⟩:=h x (.head _) ρ i
  have e:=ZbF I xs (fun y hy=>h y (.tail _ hy)) ρ' (ys++[.bl true]) i'
  simp[compL,tOk,bnd,Pu.ret,e1,e2,e]
theorem all_true (xs:List PV):allH [.lst (xs.map fun _=>.bl true)]=some (.bl true):=by
 have:=Zce (fun _:PV=>true) xs
 simp[allH,this]
theorem ris_adj:∀{us:List Nm},Ris us->∀p∈Xo (fun a b=>PV.tup [a,b]) (us.map Nm.P) ((us.map Nm.P).drop 1),∃a b:Nm,p=.tup [a.P,b.P]/\lT a.P b.P=true
 | [],_,p,h=>by simp at h
 | [a],_,p,h=>by simp at h
 | a::b::r,hr,p,h=>by
  unfold Ris at hr
  rw[List.pairwise_cons] at hr
  simp only[Yr,List.drop_one,List.tail_cons,List.zipWith_cons_cons] at h
  rcases Ye.mp h with rfl | h
  ·exact ⟨a,b,rfl,hr.1 b (.head _)⟩
  ·exact ris_adj (us:=b::r) hr.2 p (by simpa using h)
theorem dat_nm (t:Nm):dat t.P=true:=by simp[Nm.P,dat,dats]
theorem dep_nm (t:Nm):dep t.P=1:=by simp[Nm.P,dep,deps]
theorem ltDP_nm (t u:Nm):ltDP t.P u.P=some (.bl (lT t.P u.P)):=by
 unfold ltDP;rw[dat_nm,dat_nm,dep_nm,ltD_nm];rfl
theorem ne2 {a b c d:Str}(h:a=c->b≠d):deepP (fun p q=>!eqD p q) (.tup [.str a,.str b]) (.tup [.str c,.str d])=some (.bl true):=by
 unfold deepP
 simp[dat,dats,dep,deps,eqD,eqDs]
 by_cases q:a=c
 ·exact .inr (h q)
 ·exact .inl q
theorem cut2 (x:Nm):cutP [.str x.h,.str x.d,.int x.n] none (some 2)=[.str x.h,.str x.d]:=rfl
theorem cut_drop (xs:List PV):cutP xs (some 1) none=xs.drop 1:=by
 simp[cutP,HT.sIx]
 rcases xs with _ | ⟨a,l⟩
 ·rfl
 ·simp
theorem are_gots_eq {us:List Nm}{h d:Str}(hg:∀y∈us,y.Ok/\(y.h=h->y.d≠d))(hn:us.length<=30)(hr:Ris us)(C:Cs):F_qay [.v (.tup (us.map Nm.P)),.v (.str h),.v (.str d)] C=some (.v (.bl true),C):=by
 have e0:F_qbl [.v (.tup (us.map Nm.P)),.v (.int 0),.v (.int 30)] C=some (.v (.bl true),C):=by
  rw[row_tup]
  have e1:decide ((0:Int)<=(us.map Nm.P).length)=true:=decide_eq_true (by lia)
  have e2:decide (((us.map Nm.P).length:Int)<=30)=true:=decide_eq_true (by rw[Yu];lia)
  rw[e1,e2];rfl
 have c1:=ZbF (g:=hName 0) (te:=mFn F_qbe (aCons (mVar 0) aNil)) (C:=C) (fun ρ=>ρ.length=1) (us.map Nm.P) (fun x hx ρ hρ=>by
  obtain ⟨t,ht,rfl⟩:=YM.mp hx
  have e:=ZbR (hg t ht).1 C
  match ρ,hρ with
  | [r1],_=>exact ⟨_,rfl,rfl,by simp[mFn,bnd,aCons,aNil,mVar,Pu.ret,e]⟩) [none] [] rfl
 have c2:=ZbF (g:=hTup (hCons (hName 0) (hCons (hName 1) hNil)) 2) (te:=mOp (g2 ltDP) (mVar 0) (mVar 1)) (C:=C) (fun ρ=>ρ.length=2) (Xo (fun a b=>PV.tup [a,b]) (us.map Nm.P) ((us.map Nm.P).drop 1)) (fun x hx ρ hρ=>by
  obtain ⟨a,b,rfl,hab⟩:=ris_adj hr x hx
  have e:=ltDP_nm a b
  rw[hab] at e
  match ρ,hρ with
  | [r1,r2],_=>exact ⟨_,rfl,rfl,by simp[mOp,bnd,mVar,opM,g2,deref,e]⟩) [none,none] [] rfl
 have c3:=ZbF (g:=hName 0) (te:=mOp (g2 (deepP fun p q=>!eqD p q)) (mSlice (mVar 0) oNo (oPart (mC (.int 2)))) (mTup (aCons (mVar 1) (aCons (mVar 2) aNil)))) (C:=C) (fun ρ=>∃r,ρ=[r,#[.str h],#[.str d]]) (us.map Nm.P) (fun x hx ρ hρ=>by
  obtain ⟨t,ht,rfl⟩:=YM.mp hx
  have e:=ne2 (hg t ht).2
  obtain ⟨r,rfl⟩:=hρ
  refine ⟨_,rfl,⟨_,rfl⟩,?_⟩
  unfold Nm.P
  simp![cut2,e]) [none,#[.str h],#[.str d]] [] ⟨_,rfl⟩
 have hl:(us.map Nm.P).length<=100000:=by rw[Yu];lia
 have hz:zipP [.v (.tup (us.map Nm.P)),.v (.tup (cutP (us.map Nm.P) (some 1) none))]=some (Xo (fun a b=>PV.tup [a,b]) (us.map Nm.P) ((us.map Nm.P).drop 1)):=by rw[cut_drop];rfl
 have hzl:(Xo (fun a b=>PV.tup [a,b]) (us.map Nm.P) ((us.map Nm.P).drop 1)).length<=100000:=by rw[List.length_zipWith];lia
 have z1:=all_true (us.map Nm.P)
 have z2:=all_true (Xo (fun a b=>PV.tup [a,b]) (us.map Nm.P) ((us.map Nm.P).drop 1))
 generalize Xo (fun a b=>PV.tup [a,b]) (us.map Nm.P) ((us.map Nm.P).drop 1)=zs at *
 generalize us.map Nm.P=xs at *
 generalize (zs.map fun _=>PV.bl true)=zt at *
 generalize (xs.map fun _=>PV.bl true)=xt at *
 unfold F_qay B_qay
 generalize mFn F_qbe (aCons (mVar 0) aNil)=te at c1 ⊢
 generalize mOp (g2 ltDP) (mVar 0) (mVar 1)=te2 at c2 ⊢
 generalize mOp (g2 (deepP fun p q=>!eqD p q)) (mSlice (mVar 0) oNo (oPart (mC (.int 2)))) (mTup (aCons (mVar 1) (aCons (mVar 2) aNil)))=te3 at c3 ⊢
 simp![e0,mComp,mItems,itemsP,stIn',hl,c1,z1,mZip,hz,hzl,c2,z2,c3]
section
variable {d1 f1 f2 f3 f4 f5:Addr}
theorem is_letter_eq (h:f1≠f2/\f1≠f3/\f1≠f4/\f1≠f5/\f2≠f3/\f2≠f4/\f2≠f5/\f3≠f4/\f3≠f5/\f4≠f5){l:Lt}(o:l.Ok)(C:Cs):F_qbd d1 f1 f2 f3 f4 f5 [.v l.P] C=some (.v (.bl true),C):=by
 have e0:=row_tup [.str l.x.h,.str l.x.d,.int l.x.n,.int l.prev,.tup (l.gots.map Nm.P),.int l.time,rowP (.st l.kd::l.ps)] 7 7 C
 have e1:=ZbR o.x C
 have e2:=Za6 (.int l.prev) 0 C rfl
 have e3:=are_gots_eq o.g o.gn o.gr C
 have e4:=Za6 (.int l.time) 0 C rfl
 have e5:=is_deed_eq (d1:=d1) h o.d C
 have n1:numB (.int l.prev) 0=true:=by simp[numB,o.p0]
 have n2:numB (.int l.time) 0=true:=by simp[numB,o.t0]
 rw[n1] at e2
 rw[n2] at e4
 have hc:∀a b c d e f g:PV,cutP [a,b,c,d,e,f,g] none (some 3)=[a,b,c]:=fun _ _ _ _ _ _ _=>rfl
 unfold Nm.P at e1
 unfold Lt.P
 simp at e0
 generalize rowP (.st l.kd::l.ps)=DD at *
 generalize l.gots.map Nm.P=GG at *
 simp![F_qbd,e0,hc,e1,mAsg,hTup,hCons,hName,hNil,e2,e3,e4,e5]
end
def Lt.tm (l:Lt):Str:=numS l.time++(⟨(List.toArray [58])⟩:Str)
def Lt.tW (l:Lt):List Str:=("at":Str)::l.tm::dWords l.kd l.ps
def Lt.gW (l:Lt):List Str:=(if l.gots=[] then [] else ("got":Str)::l.gots.map Nm.T)++l.tW
def Lt.aW (l:Lt):List Str:=(if l.prev=0 then [] else [("after":Str),numS l.prev])++l.gW
def Lt.W (l:Lt):List Str:=l.x.h::l.x.d::numS l.x.n::l.aW
theorem ne1 (a:Str)(r:List PV)(b:Str):deepP (fun p q=>!eqD p q) (.lst (cutP (.str a::r) none (some 1))) (.lst [.str b])=some (.bl (decide (a≠b))):=by
 have:cutP (.str a::r) none (some 1)=[.str a]:=by simp[cutP,HT.sIx]
 rw[this]
 unfold deepP
 simp[dat,dats,dep,deps,eqD,eqDs]
 by_cases h:a=b<;>simp[h]
theorem at_after:¬(("at":Str)="after"):=by decide +kernel
theorem got_after:¬(("got":Str)="after"):=by decide +kernel
theorem at_got:¬(("at":Str)="got"):=by decide +kernel
theorem got_at:¬(("got":Str)="at"):=by decide +kernel
theorem gW_head (l:Lt):∃a r,l.gW.map PV.str=.str a::r/\a≠"after":=by
 unfold Lt.gW Lt.tW
 split
 ·exact ⟨"at",_,rfl,at_after⟩
 ·exact ⟨"got",_,rfl,got_after⟩
theorem cut_two (a b:PV)(r:List PV):cutP (a::b::r) (some 2) none=r:=by
 simp[cutP,HT.sIx]
theorem read_prev_eq {l:Lt}(o:l.Ok)(C:Cs):F_qbu [.v (.lst (l.aW.map .str))] C=some (.v (.tup [.int l.prev,.lst (l.gW.map .str)]),C):=by
 obtain ⟨a,r,e,ha⟩:=gW_head l
 unfold Lt.aW
 by_cases h:l.prev=0
 ·rw[if_pos h,Y2,h,e]
  have e1:=ne1 a r "after"
  rw[decide_eq_true ha] at e1
  simp![F_qbu,e1]
 ·rw[if_neg h]
  have h0:=o.p0
  have h2:0 < l.prev:=by lia
  have e1:=ne1 "after" (.str (numS l.prev)::l.gW.map .str) "after"
  have e2:=ZaI o.p0 o.p1 C
  simp only[Wj,Y2,Yr]
  generalize l.gW.map PV.str=G at *
  have e3:=cut_two (.str "after") (.str (numS l.prev)) G
  generalize numS l.prev=N at *
  simp at e1
  have hg:(1:Int) < (G.length:Int) + 1 + 1:=by lia
  simp![F_qbu,e1,Zbo,ixQ,ixP,atI,ixN,e2,e3,h2,hg]
theorem at_index {ws:List Str}(hw:∀w∈ws,w≠"at")(b:Str)(hb:b≠"at")(r:List Str):indexH (.lst ((b::(ws++("at":Str)::r)).map .str)) [.str "at"]=some (.int ((ws.length + 1:Nat):Int)):=by
 have hf:((b::(ws++("at":Str)::r)).map PV.str).all flatP=true:=by
  rw[YG];intro x hx;obtain ⟨z,_,rfl⟩:=YM.mp hx;rfl
 have hi:((b::(ws++("at":Str)::r)).map PV.str).findIdx? (fun y=>eqF y (.str "at"))=some (ws.length + 1):=by
  rw[Yr,Wp]
  have:eqF (.str b) (.str "at")=false:=by simp[eqF,hb]
  rw[this]
  have k:∀ws:List Str,(∀w∈ws,w≠"at")->((ws++("at":Str)::r).map PV.str).findIdx? (fun y=>eqF y (.str "at"))=some ws.length:=by
   intro ws
   induction ws with
   | nil=>intro _;simp[Wp,eqF]
   | cons w ws ih=>
    intro hw
    have hw1:eqF (.str w) (.str "at")=false:=by simp[eqF,hw w (.head _)]
    rw[Wj,Yr,Wp,hw1,ih fun z hz=>hw z (.tail _ hz)]
    simp
  rw[k ws hw]
  simp
 unfold indexH
 dsimp only
 rw[hf,hi]
 rfl
theorem at_in (xs r:List PV)(h:xs.all flatP=true)(h2:r.all flatP=true):inP (.str "at") (.lst (xs++.str "at"::r))=some (.bl true):=by
 unfold inP inB
 have:(xs++.str "at"::r).all flatP=true:=by
  rw[List.all_append,h,XB,h2];rfl
 simp only[this]
 simp[flatP,eqF]
theorem nmT_ne {x:Nm}:x.T≠"at":=by
 intro h
 have h1:x.T.cps.toList=[97,116]:=by rw[h];decide +kernel
 have h2:46∈x.T.cps.toList:=by rw[Zb6];simp
 rw[h1] at h2
 simp at h2
theorem cut_mid (a:PV)(ws r:List PV):cutP (a::(ws++r)) (some 1) (some ((ws.length + 1:Nat):Int))=ws:=by
 simp[cutP,HT.sIx]
 rw[if_neg (by lia)]
 simp
theorem cut_end (a:PV)(ws r:List PV):cutP (a::(ws++r)) (some ((ws.length + 1:Nat):Int)) none=r:=by
 simp[cutP,HT.sIx]
 rw[if_neg (by lia)]
 simp
theorem flat_strs (ws:List Str):(ws.map PV.str).all flatP=true:=by
 rw[YG];intro x hx;obtain ⟨z,_,rfl⟩:=YM.mp hx;rfl
theorem read_gots_eq {l:Lt}(o:l.Ok)(C:Cs):F_qbq [.v (.lst (l.gW.map .str))] C=some (.v (.tup [.tup (l.gots.map Nm.P),.lst (l.tW.map .str)]),C):=by
 unfold Lt.gW
 by_cases h:l.gots=[]
 ·rw[if_pos h,Y2,h]
  have e1:=ne1 "at" ((l.tm::dWords l.kd l.ps).map .str) "got"
  rw[decide_eq_true at_got] at e1
  unfold Lt.tW
  rw[Yr]
  generalize (l.tm::dWords l.kd l.ps).map PV.str=R at *
  simp![F_qbq,e1]
 ·rw[if_neg h]
  have e1:=ne1 "got" ((l.gots.map Nm.T).map .str++l.tW.map .str) "got"
  have hi:=at_index (ws:=l.gots.map Nm.T) (fun w hw=>by obtain ⟨x,_,rfl⟩:=YM.mp hw;exact nmT_ne) "got" got_at (l.tm::dWords l.kd l.ps)
  have hin:=at_in ((("got":Str)::l.gots.map Nm.T).map .str) ((l.tm::dWords l.kd l.ps).map .str) (flat_strs _) (flat_strs _)
  have c1:=cut_mid (.str "got") ((l.gots.map Nm.T).map .str) (l.tW.map .str)
  have c2:=cut_end (.str "got") ((l.gots.map Nm.T).map .str) (l.tW.map .str)
  have hc:=Zbp (te:=mFn F_qbs (aCons (mVar 0) aNil)) (g:=fun x:Nm=>PV.str x.T) (f:=Nm.P) l.gots [none] [] C (fun x hx=>by
   have e:=read_name_eq (o.g x hx).1 C
   simp[mFn,bnd,aCons,aNil,mVar,Pu.ret,e])
  have hm:(l.gots.map fun x:Nm=>PV.str x.T)=(l.gots.map Nm.T).map .str:=by rw[Y9];rfl
  have hlen:((l.gots.map Nm.T).map PV.str).length=l.gots.length:=by simp
  have hg0:0 < l.gots.length:=List.length_pos_iff.mpr h
  have hgn:=o.gn
  rw[hlen] at c1 c2
  rw[Yu] at hi
  rw[hm,Y2] at hc
  have ht:l.tW.map PV.str=.str "at"::(l.tm::dWords l.kd l.ps).map .str:=rfl
  simp only[WX,Yr,Wj] at hi hin ht ⊢
  rw[←ht] at hin hi
  generalize l.tW.map PV.str=TW at *
  generalize (l.gots.map Nm.T).map PV.str=GW at *
  generalize l.gots.map Nm.P=GP at *
  generalize l.gots.length=n at *
  simp at e1
  have hl:GW.length<=100000:=by lia
  have hn1:(1:Int) < ((n + 1:Nat):Int):=by lia
  generalize ((n + 1:Nat):Int)=m at *
  unfold F_qbq B_qbq
  generalize mFn F_qbs (aCons (mVar 0) aNil)=te at hc ⊢
  simp![e1,hin,Zbo,hi,hn1,mComp,mItems,itemsP,stIn',c1,c2,hl,hc,tupH]
theorem Zde (l:Lt):l.tm.cps.toList=(numS l.time).cps.toList++[58]:=by
 unfold Lt.tm
 rw[Za4,YJ]
theorem tm_len (l:Lt):l.tm.length=(numS l.time).length + 1:=by
 rw[Zba,Zde,Zba];simp
theorem tm_ends (l:Lt):endsH (.str l.tm) [.str ":"]=some (.bl true):=by
 show some (PV.bl (Txt.endswith l.tm ⟨(List.toArray [58])⟩))=_
 have h:=tm_len l
 have h1:(⟨(List.toArray [58])⟩:Str).length=1:=rfl
 have:=(PySem.StrLaws.subAt_one l.tm 58 (l.tm.length - 1)).mpr (by
  rw[Zde,h,show (numS l.time).length + 1 - 1=(numS l.time).cps.toList.length by rw[←Zba];lia]
  simp)
 unfold Txt.endswith
 rw[h1] at this ⊢
 rw[this.2]
 simp;lia
theorem tm_cut (l:Lt):Txt.slice l.tm none (some (-1))=numS l.time:=by
 have h:=tm_len l
 have e:=slice_closes_to_neg (x:=l.tm) (j:=-1) (k:=((numS l.time).length:Int)) (by decide) (by lia) (by lia)
 rw[eq_of_beq e]
 apply Zbq
 simp[Zde,Zba]
theorem hand_ps {k:Str}{ps:List Pt}(h:Dd k ps)(hk:k="hand"):∃(c:Int) (w:Str),ps=[.num c,.st w]:=by
 cases h<;>first | exact ⟨_,_,rfl⟩ | exact absurd hk (by decide +kernel)
theorem dW_len {k:Str}{ps:List Pt}(h:Dd k ps):1<=(dWords k ps).length/\(dWords k ps).length<=4:=by
 obtain ⟨_,_,hl⟩:=dd_ok h
 unfold dWords
 split
 ·rename_i hk
  obtain ⟨c,w,rfl⟩:=hand_ps h hk
  simp
 ·simp;lia
def r1:PSt->M PF:=mSet 1 (mFn F_qbz (aCons (mVar 0) aNil))
def r2:PSt->M PF:=mDrop (mFn F_qbo (aCons (mOp (g2 gtP) (mCB (g1 lenH) (aCons (mVar 1) aNil)) (mC (.int 3))) aNil))
def r3:PSt->M PF:=mAsg (mSliceA (mVar 1) oNo (oPart (mC (.int 2)))) (hLst (hCons (hName 2) (hCons (hName 3) hNil)) 2)
def r4:PSt->M PF:=mSet 4 (mFn F_qbt (aCons (mOp (g2 ixQ) (mVar 1) (mC (.int 2))) aNil))
def r5:PSt->M PF:=mAsg (mFn F_qbu (aCons (mSliceA (mVar 1) (oPart (mC (.int 3))) oNo) aNil)) (hTup (hCons (hName 5) (hCons (hName 1) hNil)) 2)
def r6:PSt->M PF:=mAsg (mFn F_qbq (aCons (mVar 1) aNil)) (hTup (hCons (hName 6) (hCons (hName 1) hNil)) 2)
def r7:PSt->M PF:=mDrop (mFn F_qbo (aCons (mAndV (mOp (g2 gtP) (mCB (g1 lenH) (aCons (mVar 1) aNil)) (mC (.int 2))) (mAndV (mOp (g2 eqP) (mOp (g2 ixQ) (mVar 1) (mC (.int 0))) (mC (.str "at"))) (mMt "str" endsH (mOp (g2 ixQ) (mVar 1) (mC (.int 1))) (aCons (mC (.str ":")) aNil)))) aNil))
section
variable (d1 f1 f2 f3 f4 f5 d2 t0 t1 t2 t3 t4 t5 t6 t7:Addr)
def r8:PSt->M PF:=mSet 7 (mTup (aCons (mVar 2) (aCons (mVar 3) (aCons (mVar 4) (aCons (mVar 5) (aCons (mVar 6) (aCons (mFn F_qbt (aCons (mSliceA (mOp (g2 ixQ) (mVar 1) (mC (.int 1))) oNo (oPart (mNeg (mC (.int 1))))) aNil)) (aCons (mFn (F_qbp d2 t0 t1 t2 t3 t4 t5 t6 t7) (aCons (mSliceA (mVar 1) (oPart (mC (.int 2))) oNo) aNil)) aNil))))))))
def r9:PSt->M PF:=mDrop (mFn F_qbo (aCons (mFn (F_qbd d1 f1 f2 f3 f4 f5) (aCons (mVar 7) aNil)) aNil))
end
section
variable {d1 f1 f2 f3 f4 f5 d2 t0 t1 t2 t3 t4 t5 t6 t7:Addr}
theorem read_is:B_qbr d1 f1 f2 f3 f4 f5 d2 t0 t1 t2 t3 t4 t5 t6 t7=mSeq r1 (mSeq r2 (mSeq r3 (mSeq r4 (mSeq r5 (mSeq r6 (mSeq r7 (mSeq (r8 d2 t0 t1 t2 t3 t4 t5 t6 t7) (mSeq (r9 d1 f1 f2 f3 f4 f5) (mRet (mVar 7)))))))))):=rfl
theorem cut_3 (a b c:PV)(r:List PV):cutP (a::b::c::r) (some 3) none=r:=by
 simp[cutP,HT.sIx]
theorem cut_02 (a b:PV)(r:List PV):cutP (a::b::r) none (some 2)=[a,b]:=by
 simp[cutP,HT.sIx]
theorem ZbQ (h:f1≠f2/\f1≠f3/\f1≠f4/\f1≠f5/\f2≠f3/\f2≠f4/\f2≠f5/\f3≠f4/\f3≠f5/\f4≠f5)(hd:[t0,t1,t2,t3,t4,t5,t6,t7].Nodup){l:Lt}(o:l.Ok)(z:Str)(hl:z.length<=90000)(hw:(Txt.split z ⟨(List.toArray [32])⟩).filter ne0=l.W)(C:Cs):F_qbr d1 f1 f2 f3 f4 f5 d2 t0 t1 t2 t3 t4 t5 t6 t7 [.v (.str z)] C=some (.v l.P,C):=by
 have e1:=words_of_eq z _ hl hw C
 have e2:=ZaI (n:=l.x.n) (by have:=o.x.n0;lia) o.x.n1 C
 have e3:=read_prev_eq o C
 have e4:=read_gots_eq o C
 have e5:=ZaI o.t0 o.t1 C
 have e6:=read_deed_eq (d2:=d2) hd o.d C
 have e7:=is_letter_eq (d1:=d1) h o C
 have hdl:=dW_len o.d
 have hte:=tm_ends l
 have htc:=tm_cut l
 have hW:l.W.map PV.str=.str l.x.h::.str l.x.d::.str (numS l.x.n)::l.aW.map .str:=rfl
 have hT:l.tW.map PV.str=.str "at"::.str l.tm::(dWords l.kd l.ps).map .str:=rfl
 have hal:1<=(l.aW.map PV.str).length:=by
  unfold Lt.aW Lt.gW Lt.tW;simp;lia
 have hD1:1<=((dWords l.kd l.ps).map PV.str).length:=by simp;lia
 rw[hW] at e1
 rw[hT] at e4
 have hP:l.P=.tup [.str l.x.h,.str l.x.d,.int l.x.n,.int l.prev,.tup (l.gots.map Nm.P),.int l.time,rowP (.st l.kd::l.ps)]:=rfl
 rw[hP] at e7 ⊢
 clear hW hT hP hdl hw
 generalize l.gots.map Nm.P=GP at *
 generalize rowP (.st l.kd::l.ps)=DP at *
 generalize (dWords l.kd l.ps).map PV.str=DW at *
 generalize l.aW.map PV.str=AW at *
 generalize l.gW.map PV.str=GW at *
 generalize numS l.x.n=N at *
 generalize numS l.time=T at *
 generalize l.tm=TM at *
 generalize l.x.h=h0 at *
 generalize l.x.d=d0 at *
 generalize l.x.n=n0 at *
 generalize l.prev=p0 at *
 generalize l.time=tt at *
 have c1:=cut_02 (.str h0) (.str d0) (.str N::AW)
 have c2:=cut_3 (.str h0) (.str d0) (.str N) AW
 have c3:=cut_two (.str "at") (.str TM) DW
 have s1:r1 [#[.str z],none,none,none,none,none,none,none] C=some (.nx [#[.str z],#[.lst (.str h0::.str d0::.str N::AW)],none,none,none,none,none,none],C):=by
  simp![r1,e1]
 have s2:r2 [#[.str z],#[.lst (.str h0::.str d0::.str N::AW)],none,none,none,none,none,none] C=some (.nx [#[.str z],#[.lst (.str h0::.str d0::.str N::AW)],none,none,none,none,none,none],C):=by
  have hg:(3:Int) < (AW.length:Int) + 1 + 1 + 1:=by lia
  simp![r2,Zbo,hg]
 have s3:r3 [#[.str z],#[.lst (.str h0::.str d0::.str N::AW)],none,none,none,none,none,none] C=some (.nx [#[.str z],#[.lst (.str h0::.str d0::.str N::AW)],#[.str h0],#[.str d0],none,none,none,none],C):=by
  simp![r3,mAsg,mSliceA,sliceAD,c1,hLst,hCons,hName,hNil]
 have s4:r4 [#[.str z],#[.lst (.str h0::.str d0::.str N::AW)],#[.str h0],#[.str d0],none,none,none,none] C=some (.nx [#[.str z],#[.lst (.str h0::.str d0::.str N::AW)],#[.str h0],#[.str d0],#[.int n0],none,none,none],C):=by
  have i2:ixQ (.lst (.str h0::.str d0::.str N::AW)) (.int 2)=some (.str N):=by
   simp only[ixQ,ixP,atI,ixN,Ys]
   rw[if_pos (by decide),if_pos (by lia)];rfl
  simp![r4,i2,e2]
 have s5:r5 [#[.str z],#[.lst (.str h0::.str d0::.str N::AW)],#[.str h0],#[.str d0],#[.int n0],none,none,none] C=some (.nx [#[.str z],#[.lst GW],#[.str h0],#[.str d0],#[.int n0],#[.int p0],none,none],C):=by
  simp![r5,mAsg,mSliceA,sliceAD,c2,e3,hTup,hCons,hName,hNil]
 have s6:r6 [#[.str z],#[.lst GW],#[.str h0],#[.str d0],#[.int n0],#[.int p0],none,none] C=some (.nx [#[.str z],#[.lst (.str "at"::.str TM::DW)],#[.str h0],#[.str d0],#[.int n0],#[.int p0],#[.tup GP],none],C):=by
  simp![r6,mAsg,e4,hTup,hCons,hName,hNil]
 have i0:ixQ (.lst (.str "at"::.str TM::DW)) (.int 0)=some (.str "at"):=by
  simp only[ixQ,ixP,atI,ixN,Ys]
  rw[if_pos (by decide),if_pos (by lia)];rfl
 have i1:ixQ (.lst (.str "at"::.str TM::DW)) (.int 1)=some (.str TM):=by
  simp only[ixQ,ixP,atI,ixN,Ys]
  rw[if_pos (by decide),if_pos (by lia)];rfl
 have s7:r7 [#[.str z],#[.lst (.str "at"::.str TM::DW)],#[.str h0],#[.str d0],#[.int n0],#[.int p0],#[.tup GP],none] C=some (.nx [#[.str z],#[.lst (.str "at"::.str TM::DW)],#[.str h0],#[.str d0],#[.int n0],#[.int p0],#[.tup GP],none],C):=by
  have hg:(2:Int) < (DW.length:Int) + 1 + 1:=by lia
  simp![r7,i0,i1,hte,Zbo,hg]
 have s8:r8 d2 t0 t1 t2 t3 t4 t5 t6 t7 [#[.str z],#[.lst (.str "at"::.str TM::DW)],#[.str h0],#[.str d0],#[.int n0],#[.int p0],#[.tup GP],none] C=some (.nx [#[.str z],#[.lst (.str "at"::.str TM::DW)],#[.str h0],#[.str d0],#[.int n0],#[.int p0],#[.tup GP],#[.tup [.str h0,.str d0,.int n0,.int p0,.tup GP,.int tt,DP]]],C):=by
  simp![r8,i1,mSliceA,sliceAD,mNeg,negP,htc,e5,c3,e6]
 have s9:r9 d1 f1 f2 f3 f4 f5 [#[.str z],#[.lst (.str "at"::.str TM::DW)],#[.str h0],#[.str d0],#[.int n0],#[.int p0],#[.tup GP],#[.tup [.str h0,.str d0,.int n0,.int p0,.tup GP,.int tt,DP]]] C=some (.nx [#[.str z],#[.lst (.str "at"::.str TM::DW)],#[.str h0],#[.str d0],#[.int n0],#[.int p0],#[.tup GP],#[.tup [.str h0,.str d0,.int n0,.int p0,.tup GP,.int tt,DP]]],C):=by
  simp![r9,e7,Zbo]
 have run:B_qbr d1 f1 f2 f3 f4 f5 d2 t0 t1 t2 t3 t4 t5 t6 t7 [#[.str z],none,none,none,none,none,none,none] C=some (.rt (.v (.tup [.str h0,.str d0,.int n0,.int p0,.tup GP,.int tt,DP])),C):=by
  rw[read_is,Zay s1,Zay s2,Zay s3,Zay s4,Zay s5,Zay s6,Zay s7,Zay s8,Zay s9];rfl
 unfold F_qbr
 generalize B_qbr d1 f1 f2 f3 f4 f5 d2 t0 t1 t2 t3 t4 t5 t6 t7=bl at *
 simp![run]
end
def ST (l:Lt)(v:Option SV):PSt:=[#[l.P],#[.str l.x.h],#[.str l.x.d],#[.int l.x.n],#[.int l.prev],#[.tup (l.gots.map Nm.P)],#[.int l.time],#[rowP (.st l.kd::l.ps)],v]
def u0:PSt->M PF:=mAsg (mVar 0) (hTup (hCons (hName 1) (hCons (hName 2) (hCons (hName 3) (hCons (hName 4) (hCons (hName 5) (hCons (hName 6) (hCons (hName 7) hNil))))))) 7)
theorem u0_ok (l:Lt)(C:Cs):u0 [#[l.P],none,none,none,none,none,none,none,none] C=some (.nx (ST l none),C):=by
 unfold ST Lt.P
 generalize rowP (.st l.kd::l.ps)=DD
 generalize l.gots.map Nm.P=GG
 simp![u0,mAsg,hTup,hCons,hName,hNil]
structure W8 (C0 D:Cs)(n:Nat)(ws:List Str):Prop where
 cell:D[n]? = some (.lst (ws.map .str))
 tk:D.take C0.length=C0
 le:C0.length<=n
theorem W8.lt {C0 D:Cs}{n:Nat}{ws:List Str}(h:W8 C0 D n ws):n < D.length:=by
 rcases Y1 n D.length with q | q
 ·exact q
 ·have:=h.cell;rw[YD.mpr q] at this;cases this
theorem W8.mk' {C0 D:Cs}(h1:D.take C0.length=C0)(h2:C0.length<=D.length)(us:List Str):W8 C0 (D++[.lst (us.map .str)]) D.length us:=
 ⟨by simp,by rw[List.take_append_of_le_length h2];exact h1,h2⟩
theorem W8.new {C0 D:Cs}{n:Nat}{ws:List Str}(h:W8 C0 D n ws)(us:List Str):W8 C0 (D++[.lst (us.map .str)]) D.length us:=.mk' h.tk (by have:=h.lt;have:=h.le;lia) us
theorem new8 {f:PSt->M (List PV)}{l:Lt}{v:Option SV}{D:Cs}{ps:List PV}(h:f (ST l v) D=some (ps,D)):mNew 8 f (ST l v) D=some (.nx (ST l (some (.c D.length))),D++[.lst ps]):=by
 unfold mNew bnd;rw[h];rfl
def v1:PSt->M (List PV):=mLst (aCons (mVar 1) (aCons (mVar 2) (aCons (mCB (g1 strH) (aCons (mVar 3) aNil)) aNil)))
def v2:PSt->M (List PV):=mCatL (mVar 8) (mVal (mLst (aCons (mC (.str "after")) (aCons (mCB (g1 strH) (aCons (mVar 4) aNil)) aNil))))
def v3:PSt->M (List PV):=mCatL (mOp (g2 addP) (mVar 8) (mVal (mLst (aCons (mC (.str "got")) aNil)))) (mVal (mComp (mItems (mVar 5)) ["_law_name_here"] [] (hName 0) tOk (mFn F_qam (aCons (mVar 0) aNil))))
def v4:PSt->M (List PV):=mCatL (mOp (g2 addP) (mVar 8) (mVal (mLst (aCons (mC (.str "at")) (aCons (mOp (g2 addP) (mCB (g1 strH) (aCons (mVar 6) aNil)) (mC (.str ":"))) aNil))))) (mVal (mComp (mItems (mVar 7)) ["_law_part"] [] (hName 0) tOk (mCB (g1 strH) (aCons (mVar 0) aNil))))
def u1:PSt->M PF:=mNew 8 v1
def u2:PSt->M PF:=mIfS (mTest (mOp (g2 neP) (mVar 4) (mC (.int 0)))) (mNew 8 v2) mSkip
def u3:PSt->M PF:=mIfS (mTest (mOp (g2 (deepP fun p q=>!eqD p q)) (mVar 5) (mTup aNil))) (mNew 8 v3) mSkip
def u4:PSt->M PF:=mNew 8 v4
def u5:PSt->M PF:=mIfS (mTest (mOp (g2 eqP) (mOp (g2 ixQ) (mVar 7) (mC (.int 0))) (mC (.str "hand")))) (mDrop (mIns (mVar 8) (aCons (mOp (g2 subP) (mCB (g1 lenH) (aCons (mVar 8) aNil)) (mC (.int 1))) (aCons (mC (.str "to")) aNil)))) mSkip
theorem words_is:B_qai=mSeq u0 (mSeq u1 (mSeq u2 (mSeq u3 (mSeq u4 (mSeq u5 (mRet (mVar 8))))))):=rfl
theorem u1_ok {l:Lt}(o:l.Ok)(C:Cs):∃n D,u1 (ST l none) C=some (.nx (ST l (some (.c n))),D)/\W8 C D n [l.x.h,l.x.d,numS l.x.n]:=by
 have hl:=ZbC (n:=l.x.n) (by have:=o.x.n0;lia) o.x.n1
 refine ⟨_,_,new8 (ps:=[l.x.h,l.x.d,numS l.x.n].map .str) ?_,.mk' (by simp) (Yx _) _⟩
 unfold ST
 simp![v1,strH,hl]
theorem if_t {c:PSt->M Bool}{a b:PSt->M PF}{ρ:PSt}{C C1:Cs}(h:c ρ C=some (true,C1)):mIfS c a b ρ C=a ρ C1:=by
 unfold mIfS bnd
 rw[h];rfl
theorem Zbr {c:PSt->M Bool}{a:PSt->M PF}{ρ:PSt}{C C1:Cs}(h:c ρ C=some (false,C1)):mIfS c a mSkip ρ C=some (.nx ρ,C1):=by
 unfold mIfS bnd
 rw[h];rfl
theorem u2_ok {l:Lt}(o:l.Ok){C D:Cs}{n:Nat}{ws:List Str}(h:W8 C D n ws)(hw:ws.length<=100):∃n' D',u2 (ST l (some (.c n))) D=some (.nx (ST l (some (.c n'))),D')/\W8 C D' n' (ws++if l.prev=0 then [] else [("after":Str),numS l.prev]):=by
 have hl:=ZbC o.p0 o.p1
 by_cases hp:l.prev=0
 ·refine ⟨n,D,Zbr ?_,by rw[if_pos hp,YA];exact h⟩
  unfold ST
  simp![hp]
 ·have e:mTest (mOp (g2 neP) (mVar 4) (mC (.int 0))) (ST l (some (.c n))) D=some (true,D):=by
   unfold ST
   simp![hp]
  refine ⟨_,_,(if_t e).trans (new8 (ps:=(ws++[("after":Str),numS l.prev]).map .str) ?_),by rw[if_neg hp];exact h.new _⟩
  have hc:=h.cell
  have hx:(ws.map PV.str).length + 2<=100000:=by simp;lia
  rw[WX]
  generalize ws.map PV.str=WS at *
  unfold ST
  simp![v2,strH,hl,mCatL,catL2,hc,hx]
theorem ne_gots (gs:List Nm):deepP (fun p q=>!eqD p q) (.tup (gs.map Nm.P)) (.tup [])=some (.bl (decide (gs≠[]))):=by
 have h1:=dats_nm gs
 have h2:=deps_nm gs
 unfold deepP
 rw[if_pos]
 ·cases gs<;>simp[eqD,eqDs]
 ·simp only[dat,h1,dep]
  simp[dats];lia
theorem u3_ok {l:Lt}(o:l.Ok){C D:Cs}{n:Nat}{ws:List Str}(h:W8 C D n ws)(hw:ws.length<=100):∃n' D',u3 (ST l (some (.c n))) D=some (.nx (ST l (some (.c n'))),D')/\W8 C D' n' (ws++if l.gots=[] then [] else ("got":Str)::l.gots.map Nm.T):=by
 have en:=ne_gots l.gots
 by_cases hp:l.gots=[]
 ·refine ⟨n,D,Zbr ?_,by rw[if_pos hp,YA];exact h⟩
  rw[decide_eq_false (by simp[hp])] at en
  unfold ST
  generalize l.gots.map Nm.P=GG at *
  simp![en]
 ·rw[decide_eq_true hp] at en
  have e:mTest (mOp (g2 (deepP fun p q=>!eqD p q)) (mVar 5) (mTup aNil)) (ST l (some (.c n))) D=some (true,D):=by
   unfold ST
   generalize l.gots.map Nm.P=GG at *
   simp![en]
  refine ⟨_,_,(if_t e).trans (new8 (ps:=(ws++("got":Str)::l.gots.map Nm.T).map .str) ?_),by rw[if_neg hp];exact h.new _⟩
  have hc:=h.cell
  have hgn:=o.gn
  have hk:=Zbp (te:=mFn F_qam (aCons (mVar 0) aNil)) (g:=Nm.P) (f:=fun x:Nm=>PV.str x.T) l.gots [none] [] D (fun x hx=>by
   have e:=name_text_eq (o.g x hx).1 D
   simp[mFn,bnd,aCons,aNil,mVar,Pu.ret,e])
  have hm:(l.gots.map fun x:Nm=>PV.str x.T)=(l.gots.map Nm.T).map .str:=by rw[Y9];rfl
  rw[hm,Y2] at hk
  have hx:(ws.map PV.str).length + 1<=1000000:=by simp;lia
  have hl:(l.gots.map Nm.P).length<=100000:=by simp;lia
  have hy:(ws.map PV.str).length + 1 + ((l.gots.map Nm.T).map PV.str).length<=100000:=by simp;lia
  rw[WX,Yr]
  unfold ST v3
  generalize ws.map PV.str=WS at *
  generalize (l.gots.map Nm.T).map PV.str=GT at *
  generalize l.gots.map Nm.P=GP at *
  generalize mFn F_qam (aCons (mVar 0) aNil)=te at *
  simp![mCatL,catL2,hc,addP,hx,mComp,mItems,itemsP,stIn',hl,hk,hy]
theorem str_part {p:Pt}(h:p.Ok)(hn:∀x,p≠.nm x)(C:Cs):mCB (g1 strH) (aCons (mVar 0) aNil) [#[p.P]] C=some (.v (.str p.T),C):=by
 cases p with
 | st k=>simp![Pt.P,Pt.T,strH]
 | nm x=>exact absurd rfl (hn x)
 | num n=>
  have hl:=ZbC h.1 h.2
  simp![Pt.P,Pt.T,strH,hl]
theorem u4_ok {l:Lt}(o:l.Ok){C D:Cs}{n:Nat}{ws:List Str}(h:W8 C D n ws)(hw:ws.length<=100):∃n' D',u4 (ST l (some (.c n))) D=some (.nx (ST l (some (.c n'))),D')/\W8 C D' n' (ws++("at":Str)::l.tm::l.kd::l.ps.map Pt.T):=by
 have hlg:=ZbC o.t0 o.t1
 have hnl:=Za7 o.t0 o.t1
 obtain ⟨ho,hwd,hpl⟩:=dd_ok o.d
 have hpn:=dd_plain o.d
 refine ⟨_,_,new8 (ps:=(ws++("at":Str)::l.tm::l.kd::l.ps.map Pt.T).map .str) ?_,h.new _⟩
 have hc:=h.cell
 have hk:compL (hName 0) tOk (mCB (g1 strH) (aCons (mVar 0) aNil)) (.str l.kd::l.ps.map Pt.P) [none] [] D=some ((l.kd::l.ps.map Pt.T).map .str,D):=by
  have:=Zbp (te:=mCB (g1 strH) (aCons (mVar 0) aNil)) (g:=Pt.P) (f:=fun p:Pt=>PV.str p.T) (.st l.kd::l.ps) [none] [] D (fun p hp=>by
   rcases Ye.mp hp with rfl | hp
   ·exact str_part (p:=.st l.kd) hwd (by simp) D
   ·exact str_part (ho p hp) (hpn p hp) D)
  rw[Y2] at this
  rw[Yr,Y9]
  exact this
 have hx:(ws.map PV.str).length + 2<=1000000:=by simp;lia
 have hl:(l.ps.map Pt.P).length<=99999:=by simp;lia
 have hy:(ws.map PV.str).length + 2 + ((l.kd::l.ps.map Pt.T).map PV.str).length<=100000:=by simp;lia
 have ht:addP (.str (numS l.time)) (.str ":")=some (.str l.tm):=by
  show (if (numS l.time).length + (⟨(List.toArray [58])⟩:Str).length<=1000000 then some (PV.str (numS l.time++⟨(List.toArray [58])⟩)) else none)=_
  rw[if_pos (by show _ + 1<=_;lia)];rfl
 rw[WX,Yr,Yr]
 unfold ST v4 rowP
 simp only[Yr (f:=Pt.P),Pt.P]
 generalize l.tm=TM at *
 generalize (l.kd::l.ps.map Pt.T).map PV.str=DW at *
 generalize ws.map PV.str=WS at *
 generalize l.ps.map Pt.P=PP at *
 generalize hte:mCB (g1 strH) (aCons (mVar 0) aNil)=te at *
 have h6:mCB (g1 strH) (aCons (mVar 6) aNil) [#[l.P],#[.str l.x.h],#[.str l.x.d],#[.int l.x.n],#[.int l.prev],#[.tup (l.gots.map Nm.P)],#[.int l.time],#[.tup (.str l.kd::PP)],some (.c n)] D=some (.v (.str (numS l.time)),D):=by
  simp![strH,hlg]
 have ha:addP (.lst WS) (.lst [.str "at",.str TM])=some (.lst (WS++[.str "at",.str TM])):=by
  simp[addP,hx]
 generalize mCB (g1 strH) (aCons (mVar 6) aNil)=t6 at *
 simp![mCatL,catL2,hc,ht,h6,ha,mComp,mItems,itemsP,stIn',hl,hk]
 rw[if_pos hy]
theorem ix_deed (k:Str)(ps:List Pt):ixQ (rowP (.st k::ps)) (.int 0)=some (.str k):=by
 unfold rowP
 simp[ixQ,ixP,atI,ixN,Pt.P]
theorem u5_ok {l:Lt}(o:l.Ok){C D:Cs}{n:Nat}{ws:List Str}(hw:ws.length<=100)(h:W8 C D n (ws++("at":Str)::l.tm::l.kd::l.ps.map Pt.T)):∃D',u5 (ST l (some (.c n))) D=some (.nx (ST l (some (.c n))),D')/\W8 C D' n (ws++("at":Str)::l.tm::dWords l.kd l.ps):=by
 have ei:=ix_deed l.kd l.ps
 by_cases hk:l.kd="hand"
 ·obtain ⟨c,w,hp⟩:=hand_ps o.d hk
  have e:mTest (mOp (g2 eqP) (mOp (g2 ixQ) (mVar 7) (mC (.int 0))) (mC (.str "hand"))) (ST l (some (.c n))) D=some (true,D):=by
   unfold ST
   generalize rowP (.st l.kd::l.ps)=DD at *
   simp![ei,hk]
  obtain ⟨A,hA,hAl⟩:∃A:List PV,(ws++("at":Str)::l.tm::l.kd::l.ps.map Pt.T).map PV.str=A++[.str w]/\A=(ws++[("at":Str),l.tm,"hand",numS c]).map PV.str:=by
   refine ⟨_,?_,rfl⟩
   rw[hp,hk]
   simp[Pt.T]
  have hl:A.length<=1000:=by rw[hAl];simp;lia
  have hc:=h.cell
  rw[hA] at hc
  refine ⟨D.set n (.lst (A++[.str "to",.str w])),(if_t e).trans ?_,?_,?_,h.le⟩
  ·have t1:(A++[PV.str w]).take A.length=A:=by simp
   have t2:(A++[PV.str w]).drop A.length=[.str w]:=by simp
   have i1:(0:Int)<=((A++[PV.str w]).length:Int) - 1/\((A++[PV.str w]).length:Int) - 1<=(A++[PV.str w]).length/\(A++[PV.str w]).length < 100000:=by simp;lia
   have i2:(((A++[PV.str w]).length:Int) - 1).toNat=A.length:=by simp
   have hins:insC (.c n) [.v (.int (((A++[PV.str w]).length:Int) - 1)),.v (.str "to")] D=some (.v .non,D.set n (.lst (A++[.str "to",.str w]))):=by
    unfold insC
    simp only[hc]
    rw[if_pos i1,i2,t1,t2]
   generalize A++[PV.str w]=AW at *
   unfold ST
   simp![mIns,isLst,hc,subP,hins]
  ·rw[setAt hc,hk,hp,hAl]
   simp[dWords,Pt.T]
  ·rw[List.take_set,List.set_eq_of_length_le]
   ·exact h.tk
   ·have:=h.le;rw[XI];lia
 ·refine ⟨D,Zbr ?_,?_⟩
  ·unfold ST
   generalize rowP (.st l.kd::l.ps)=DD at *
   simp![ei,hk]
  ·unfold dWords
   rw[if_neg hk];exact h
theorem ZcZ {l:Lt}(o:l.Ok)(C:Cs):F_qai [.v l.P] C=some (.v (.lst (l.W.map .str)),C):=by
 have hgn:=o.gn
 obtain ⟨n1,D1,e1,h1⟩:=u1_ok o C
 obtain ⟨n2,D2,e2,h2⟩:=u2_ok o h1 (by simp)
 obtain ⟨n3,D3,e3,h3⟩:=u3_ok o h2 (by split<;>simp)
 obtain ⟨n4,D4,e4,h4⟩:=u4_ok o h3 (by split<;>split<;>simp<;>lia)
 obtain ⟨D5,e5,h5⟩:=u5_ok o (by split<;>split<;>simp<;>lia) h4
 have hW:[l.x.h,l.x.d,numS l.x.n]++(if l.prev=0 then [] else [("after":Str),numS l.prev])++(if l.gots=[] then [] else ("got":Str)::l.gots.map Nm.T)++("at":Str)::l.tm::dWords l.kd l.ps=l.W:=by
  unfold Lt.W Lt.aW Lt.gW Lt.tW
  simp only[YF];rfl
 rw[hW] at h5
 have run:B_qai [#[l.P],none,none,none,none,none,none,none,none] C=some (.rt (.c n4),D5):=by
  rw[words_is,Zay (u0_ok l C),Zay e1,Zay e2,Zay e3,Zay e4,Zay e5];rfl
 have hf:fin C.length D5 (.c n4)=some (.v (.lst (l.W.map .str)),C):=by
  unfold fin
  dsimp only
  have:=h5.le
  rw[if_neg (by lia),h5.cell,h5.tk];rfl
 unfold F_qai
 generalize B_qai=bb at *
 generalize l.P=LP at *
 show (match bb [some (.v LP),none,none,none,none,none,none,none,none] C with
  | some (.rt r,C')=>fin C.length C' r
  | some (.nx _,C')=>some (.v .non,C'.take C.length)
  | some (.rf ps,C')=>some (.v (.lst ps),C'.take C.length)
  | some (.rq qs,C')=>(finQ C.length C' qs).map fun ps=>(.v (.tup ps),C'.take C.length)
  | _=>none)=_
 rw[run]
 exact hf
abbrev Gw (w:Str):Prop:=32∉w.cps.toList/\w.cps.toList≠[]/\w.length<=56
theorem gw_pt {p:Pt}(h:p.Ok):Gw p.T:=by
 have h1:=ZcW h
 refine ⟨pt_free h,fun e=>?_,h1.2⟩
 have:=h1.1
 rw[Zba,e] at this
 simp at this
theorem gw_num {n:Int}(h0:0<=n)(h1:n < 10 ^ 30):Gw (numS n):=gw_pt (p:=.num n) ⟨h0,h1⟩
theorem gw_word {w:Str}(h:wordB w=true):Gw w:=gw_pt (p:=.st w) h
theorem gw_deed {k:Str}{ps:List Pt}(h:Dd k ps):∀w∈dWords k ps,Gw w:=by
 obtain ⟨ho,hwd,hpl⟩:=dd_ok h
 intro w hw
 unfold dWords at hw
 split at hw
 ·rename_i hk
  obtain ⟨c,v,rfl⟩:=hand_ps h hk
  have g1:=gw_pt (ho (.num c) (by simp))
  have g2:=gw_pt (ho (.st v) (by simp))
  simp only[Ye,Yt,or_false] at hw
  rcases hw with rfl | rfl | rfl | rfl
  ·decide +kernel
  ·exact g1
  ·decide +kernel
  ·exact g2
 ·rcases Ye.mp hw with rfl | hw
  ·exact gw_word hwd
  ·obtain ⟨p,hp,rfl⟩:=YM.mp hw
   exact gw_pt (ho p hp)
def jn (ws:List Str):Str:=XT ⟨(List.toArray [32])⟩ ws
theorem glue_app {c:Nat}:∀{as bs:List (List Nat)},as≠[]->bs≠[]->glue c (as++bs)=glue c as++c::glue c bs
 | [],_,h,_=>absurd rfl h
 | [a],b::bs,_,_=>by simp[glue]
 | [a],[],_,h=>absurd rfl h
 | a::a'::as,bs,_,hb=>by
  have:=glue_app (c:=c) (as:=a'::as) (bs:=bs) (by simp) hb
  simp only[Wj] at this ⊢
  simp[glue,this]
theorem jn_app {ws us:List Str}(h1:ws≠[])(h2:us≠[]):(jn (ws++us)).cps.toList=(jn ws).cps.toList++32::(jn us).cps.toList:=by
 unfold jn
 rw[ZaS,ZaS,ZaS,WX,glue_app (by simpa using h1) (by simpa using h2)]
theorem glue_len {c:Nat}:∀{ps:List (List Nat)},(∀p∈ps,p.length<=56)->(glue c ps).length<=57 * ps.length
 | [],_=>by simp[glue]
 | [p],h=>by have:=h p (by simp);simp[glue];lia
 | p::q::r,h=>by
  have h1:=h p (by simp)
  have h2:=glue_len (c:=c) (ps:=q::r) fun z hz=>h z (.tail _ hz)
  simp only[glue,YU,Ys] at h2 ⊢
  lia
theorem Zdn {ws:List Str}(h:∀w∈ws,w.length<=56):(jn ws).length<=57 * ws.length:=by
 rw[Zba]
 unfold jn
 rw[ZaS]
 have:=glue_len (c:=32) (ps:=ws.map (·.cps.toList)) (fun p hp=>by
  obtain ⟨w,hw,rfl⟩:=YM.mp hp
  have:=h w hw
  rw[Zba] at this;exact this)
 rw[Yu] at this
 exact this
theorem ll (a b:Str):(a++b).length=a.length + b.length:=XZ a b
def x1:PSt->M PF:=mSet 8 (mJoined (aCons (mFmt (mVar 1)) (aCons (mC (.str " ")) (aCons (mFmt (mVar 2)) (aCons (mC (.str " ")) (aCons (mFmt (mVar 3)) aNil))))))
def x2:PSt->M PF:=mIfS (mTest (mOp (g2 neP) (mVar 4) (mC (.int 0)))) (mAugS 8 (mJoined (aCons (mC (.str " after ")) (aCons (mFmt (mVar 4)) aNil)))) mSkip
def xC:PSt->M (List PV):=mComp (mItems (mVar 5)) ["name"] [] (hName 0) tOk (mFn F_qbx (aCons (mVar 0) aNil))
def x3:PSt->M PF:=mIfS (mTru (mVar 5)) (mAugS 8 (mOp (g2 addP) (mC (.str " got ")) (mMt "str" joinH (mC (.str " ")) (aCons (mVal xC) aNil)))) mSkip
def x4:PSt->M PF:=mRet (mOp (g2 addP) (mOp (g2 addP) (mVar 8) (mJoined (aCons (mC (.str " at ")) (aCons (mFmt (mVar 6)) (aCons (mC (.str ": ")) aNil))))) (mFn F_qbv (aCons (mVar 7) aNil)))
theorem shown_is:B_qbw=mSeq u0 (mSeq x1 (mSeq x2 (mSeq x3 x4))):=rfl
theorem x1_ok {l:Lt}(o:l.Ok)(C:Cs):x1 (ST l none) C=some (.nx (ST l #[.str (jn [l.x.h,l.x.d,numS l.x.n])]),C):=by
 have hl:=ZbC (n:=l.x.n) (by have:=o.x.n0;lia) o.x.n1
 have h1:=ZaV o.x.h
 have h2:=ZaV o.x.d
 have h3:=Za7 (n:=l.x.n) (by have:=o.x.n0;lia) o.x.n1
 have e:catS YW [.v (.str l.x.h),.v (.str " "),.v (.str l.x.d),.v (.str " "),.v (.str (numS l.x.n))]=some (jn [l.x.h,l.x.d,numS l.x.n]):=by
  have hs:((YW++l.x.h++" "++l.x.d++" "++numS l.x.n:Str))=jn [l.x.h,l.x.d,numS l.x.n]:=by
   apply Zbq
   unfold jn
   rw[ZaS]
   simp only[Za4,YJ]
   show []++l.x.h.cps.toList++[32]++l.x.d.cps.toList++[32]++_=l.x.h.cps.toList++32::(l.x.d.cps.toList++32::glue 32 [(numS l.x.n).cps.toList])
   simp[glue]
  have l0:YW.length=0:=rfl
  have l1:((" ":Str)).length=1:=rfl
  simp only[catS]
  rw[if_pos,if_pos,if_pos,if_pos,if_pos,hs]
  all_goals (simp only[ll,l0,l1];lia)
 generalize jn [l.x.h,l.x.d,numS l.x.n]=T at *
 unfold ST
 simp![x1,mJoined,mFmt,fmtH,hl,e]
theorem x2_ok {l:Lt}(o:l.Ok){ws:List Str}(hw:(jn ws).length<=50000)(h0:ws≠[])(C:Cs):x2 (ST l #[.str (jn ws)]) C=some (.nx (ST l #[(.str (jn (ws++if l.prev=0 then [] else [("after":Str),numS l.prev])))]),C):=by
 have hl:=ZbC o.p0 o.p1
 have hn:=Za7 o.p0 o.p1
 by_cases hp:l.prev=0
 ·rw[if_pos hp,YA]
  refine Zbr ?_
  unfold ST
  simp![hp]
 ·rw[if_neg hp]
  have e:mTest (mOp (g2 neP) (mVar 4) (mC (.int 0))) (ST l #[.str (jn ws)]) C=some (true,C):=by
   unfold ST
   simp![hp]
  refine (if_t e).trans ?_
  have l0:YW.length=0:=rfl
  have l1:((" after ":Str)).length=7:=rfl
  have ec:catS YW [.v (.str " after "),.v (.str (numS l.prev))]=some (YW++" after "++numS l.prev):=by
   simp only[catS]
   rw[if_pos,if_pos]
   all_goals (simp only[ll,l0,l1];lia)
  have es:jn ws++(YW++" after "++numS l.prev)=jn (ws++[("after":Str),numS l.prev]):=by
   apply Zbq
   rw[jn_app h0 (by simp)]
   unfold jn
   rw[ZaS _ [("after":Str),numS l.prev]]
   simp only[Za4,YJ]
   show _++([]++[32,97,102,116,101,114,32]++_)=_++32::([97,102,116,101,114]++32::glue 32 [(numS l.prev).cps.toList])
   simp[glue]
  have hb:(jn ws).length + (YW++" after "++numS l.prev).length<=1000000:=by simp only[ll,l0,l1];lia
  have eg:augS C (.v (.str (jn ws))) (.v (.str (YW++" after "++numS l.prev)))=#[(.str (jn (ws++[("after":Str),numS l.prev])))]:=by
   show (if _ then some (SV.v (.str (jn ws++(YW++" after "++numS l.prev)))) else none)=_
   rw[if_pos hb,es]
  generalize jn (ws++[("after":Str),numS l.prev])=T2 at *
  generalize jn ws=T1 at *
  generalize (YW++" after "++numS l.prev)=T3 at *
  unfold ST
  simp![mAugS,mJoined,mFmt,fmtH,hl,ec,eg]
theorem x3_ok {l:Lt}(o:l.Ok){ws:List Str}(hw:(jn ws).length<=50000)(h0:ws≠[])(C:Cs):x3 (ST l #[.str (jn ws)]) C=some (.nx (ST l #[(.str (jn (ws++if l.gots=[] then [] else ("got":Str)::l.gots.map Nm.T)))]),C):=by
 have ht:truP (.tup (l.gots.map Nm.P))=some (decide (l.gots≠[])):=by
  cases h:l.gots<;>simp[truP]
 by_cases hp:l.gots=[]
 ·rw[if_pos hp,YA]
  refine Zbr ?_
  rw[decide_eq_false (by simp[hp])] at ht
  unfold ST
  generalize l.gots.map Nm.P=GG at *
  simp[mTru,bnd,mVar,opM,deref,Pu.ret,ht]
 ·rw[if_neg hp]
  rw[decide_eq_true hp] at ht
  have e:mTru (mVar 5) (ST l #[.str (jn ws)]) C=some (true,C):=by
   unfold ST
   generalize l.gots.map Nm.P=GG at *
   simp[mTru,bnd,mVar,opM,deref,Pu.ret,ht]
  refine (if_t e).trans ?_
  have hgn:=o.gn
  have hgl:=Zdn (ws:=l.gots.map Nm.T) fun w hw=>by
   obtain ⟨x,hx,rfl⟩:=YM.mp hw
   exact (ZcW (p:=.nm x) (o.g x hx).1).2
  rw[Yu] at hgl
  have hne:l.gots.map Nm.T≠[]:=by simpa using hp
  have l1:((" got ":Str)).length=5:=rfl
  have hk:=Zbp (te:=mFn F_qbx (aCons (mVar 0) aNil)) (g:=Nm.P) (f:=fun x:Nm=>PV.str x.T) l.gots [none] [] C (fun x hx=>by
   have e:=shown_name_eq (o.g x hx).1 C
   simp[mFn,bnd,aCons,aNil,mVar,Pu.ret,e])
  have hm:(l.gots.map fun x:Nm=>PV.str x.T)=(l.gots.map Nm.T).map .str:=by rw[Y9];rfl
  rw[hm,Y2] at hk
  have hj:joinH (.str " ") [.lst ((l.gots.map Nm.T).map .str)]=some (.str (jn (l.gots.map Nm.T))):=by
   refine ZcJ ⟨(List.toArray [32])⟩ _ ?_
   have hs:∀gs:List Nm,(∀y∈gs,y.Ok)->((gs.map Nm.T).map (·.length)).sum<=56 * gs.length:=by
    intro gs
    induction gs with
    | nil=>intro _;simp
    | cons g gs ih=>
     intro h
     have h1:=(ZcW (p:=.nm g) (h g (.head _))).2
     change g.T.length<=56 at h1
     have h2:=ih fun y hy=>h y (.tail _ hy)
     simp only[Yr,List.sum_cons,Ys]
     lia
   have:=hs l.gots fun y hy=>(o.g y hy).1
   show _ + _ * 1<=_
   rw[Yu];lia
  have hl:(l.gots.map Nm.P).length<=100000:=by simp;lia
  have ha:addP (.str " got ") (.str (jn (l.gots.map Nm.T)))=some (.str (" got "++jn (l.gots.map Nm.T))):=by
   show (if _ then some (PV.str _) else none)=_
   rw[if_pos (by rw[l1];lia)]
  have es:jn ws++(" got "++jn (l.gots.map Nm.T))=jn (ws++("got":Str)::l.gots.map Nm.T):=by
   apply Zbq
   rw[jn_app h0 (by simp),show (("got":Str)::l.gots.map Nm.T:List Str)=[("got":Str)]++l.gots.map Nm.T from rfl,jn_app (by simp) hne]
   simp only[Za4,YJ]
   show _++([32,103,111,116,32]++_)=_++32::([103,111,116]++32::_)
   simp
  have hb:(jn ws).length + (" got "++jn (l.gots.map Nm.T)).length<=1000000:=by simp only[ll,l1];lia
  have eg:augS C (.v (.str (jn ws))) (.v (.str (" got "++jn (l.gots.map Nm.T))))=#[(.str (jn (ws++("got":Str)::l.gots.map Nm.T)))]:=by
   show (if _ then some (SV.v (.str (jn ws++(" got "++jn (l.gots.map Nm.T))))) else none)=_
   rw[if_pos hb,es]
  have hx:xC (ST l #[.str (jn ws)]) C=some ((l.gots.map Nm.T).map .str,C):=by
   unfold xC ST
   generalize (l.gots.map Nm.T).map PV.str=GT at *
   generalize l.gots.map Nm.P=GP at *
   generalize mFn F_qbx (aCons (mVar 0) aNil)=te at *
   simp![mComp,mItems,itemsP,stIn',hl,hk]
  unfold ST at hx ⊢
  generalize (l.gots.map Nm.T).map PV.str=GT at *
  generalize jn (ws++("got":Str)::l.gots.map Nm.T)=T2 at *
  generalize (" got "++jn (l.gots.map Nm.T):Str)=T3 at *
  generalize jn (l.gots.map Nm.T)=T4 at *
  generalize jn ws=T1 at *
  generalize l.gots.map Nm.P=GP at *
  generalize xC=te at *
  simp![mAugS,hx,hj,ha,eg]
theorem x4_ok {l:Lt}(o:l.Ok){ws:List Str}(hw:(jn ws).length<=50000)(h0:ws≠[])(C:Cs):x4 (ST l #[.str (jn ws)]) C=some (.rt (.v (.str (jn (ws++("at":Str)::l.tm::dWords l.kd l.ps)))),C):=by
 have hl:=ZbC o.t0 o.t1
 have hn:=Za7 o.t0 o.t1
 have hd:=shown_deed_eq o.d C
 have hdl:=dW_len o.d
 obtain ⟨ho,hwd,hpl⟩:=dd_ok o.d
 have hdj:=Zdn (ws:=dWords l.kd l.ps) fun w hw=>(gw_deed o.d w hw).2.2
 have l0:YW.length=0:=rfl
 have l1:((" at ":Str)).length=4:=rfl
 have l2:((": ":Str)).length=2:=rfl
 have ec:catS YW [.v (.str " at "),.v (.str (numS l.time)),.v (.str ": ")]=some (YW++" at "++numS l.time++": "):=by
  simp only[catS]
  rw[if_pos,if_pos,if_pos]
  all_goals (simp only[ll,l0,l1,l2];lia)
 have a1:addP (.str (jn ws)) (.str (YW++" at "++numS l.time++": "))=some (.str (jn ws++(YW++" at "++numS l.time++": "))):=by
  show (if _ then some (PV.str _) else none)=_
  rw[if_pos (by simp only[ll,l0,l1,l2];lia)]
 have a2:addP (.str (jn ws++(YW++" at "++numS l.time++": "))) (.str (XT ⟨(List.toArray [32])⟩ (dWords l.kd l.ps)))=some (.str (jn (ws++("at":Str)::l.tm::dWords l.kd l.ps))):=by
  show (if _ then some (PV.str _) else none)=_
  have:(XT ⟨(List.toArray [32])⟩ (dWords l.kd l.ps)).length<=57 * (dWords l.kd l.ps).length:=hdj
  rw[if_pos (by simp only[ll,l0,l1,l2];lia)]
  congr 2
  apply Zbq
  rw[show (ws++("at":Str)::l.tm::dWords l.kd l.ps:List Str)=ws++([("at":Str),l.tm]++dWords l.kd l.ps) from rfl,jn_app h0 (by simp),jn_app (by simp) (by intro h;rw[h] at hdl;simp at hdl)]
  have e2:(jn [("at":Str),l.tm]).cps.toList=[97,116]++32::l.tm.cps.toList:=by
   unfold jn;rw[ZaS];rfl
  rw[e2,Zde]
  simp only[Za4,YJ]
  show _++([]++[32,97,116,32]++_++[58,32])++_=_
  simp[jn]
 generalize jn (ws++("at":Str)::l.tm::dWords l.kd l.ps)=T2 at *
 generalize XT ⟨(List.toArray [32])⟩ (dWords l.kd l.ps)=T5 at *
 generalize (jn ws++(YW++" at "++numS l.time++": "):Str)=T3 at *
 generalize (YW++" at "++numS l.time++": ":Str)=T4 at *
 generalize jn ws=T1 at *
 unfold ST
 generalize rowP (.st l.kd::l.ps)=DD at *
 simp![x4,mJoined,mFmt,fmtH,hl,ec,a1,hd,a2]
theorem gw_tm {l:Lt}(o:l.Ok):Gw l.tm:=by
 obtain ⟨h1,h2,h3⟩:=gw_num o.t0 o.t1
 have hn:=Za7 o.t0 o.t1
 refine ⟨?_,?_,?_⟩
 ·rw[Zde];simp[h1]
 ·rw[Zde];simp
 ·rw[tm_len];lia
def Lt.A (l:Lt):List Str:=if l.prev=0 then [] else [("after":Str),numS l.prev]
def Lt.G (l:Lt):List Str:=if l.gots=[] then [] else ("got":Str)::l.gots.map Nm.T
theorem gw_A {l:Lt}(o:l.Ok):∀w∈l.A,Gw w:=by
 intro w hw
 unfold Lt.A at hw
 split at hw
 ·simp at hw
 ·simp only[Ye,Yt,or_false] at hw
  rcases hw with rfl | rfl
  ·decide +kernel
  ·exact gw_num o.p0 o.p1
theorem gw_G {l:Lt}(o:l.Ok):∀w∈l.G,Gw w:=by
 intro w hw
 unfold Lt.G at hw
 split at hw
 ·simp at hw
 ·rcases Ye.mp hw with rfl | hw
  ·decide +kernel
  ·obtain ⟨x,hx,rfl⟩:=YM.mp hw
   exact gw_pt (p:=.nm x) (o.g x hx).1
theorem gw_N {l:Lt}(o:l.Ok):∀w∈[l.x.h,l.x.d,numS l.x.n],Gw w:=by
 intro w hw
 simp only[Ye,Yt,or_false] at hw
 rcases hw with rfl | rfl | rfl
 ·exact gw_word o.x.h
 ·exact gw_word o.x.d
 ·exact gw_num (by have:=o.x.n0;lia) o.x.n1
theorem W_parts (l:Lt):[l.x.h,l.x.d,numS l.x.n]++l.A++l.G++("at":Str)::l.tm::dWords l.kd l.ps=l.W:=by
 unfold Lt.W Lt.aW Lt.gW Lt.tW Lt.A Lt.G
 simp only[YF];rfl
theorem gw_W {l:Lt}(o:l.Ok):∀w∈l.W,Gw w:=by
 intro w hw
 rw[←W_parts] at hw
 simp only[Y8] at hw
 rcases hw with ((hw | hw) | hw) | hw
 ·exact gw_N o w hw
 ·exact gw_A o w hw
 ·exact gw_G o w hw
 ·rcases Ye.mp hw with rfl | hw
  ·decide +kernel
  ·rcases Ye.mp hw with rfl | hw
   ·exact gw_tm o
   ·exact gw_deed o.d w hw
theorem len_A (l:Lt):l.A.length<=2:=by unfold Lt.A;split<;>simp
theorem len_G {l:Lt}(o:l.Ok):l.G.length<=31:=by
 have:=o.gn
 unfold Lt.G;split
 ·simp
 ·simp;lia
theorem len_W {l:Lt}(o:l.Ok):l.W.length<=60:=by
 have h1:=len_A l
 have h2:=len_G o
 have h3:=dW_len o.d
 rw[←W_parts]
 simp only[YU,Ys,XD];lia
theorem W_text {l:Lt}(o:l.Ok):(Txt.split (jn l.W) ⟨(List.toArray [32])⟩).filter ne0=l.W:=by
 apply Zcr
 unfold jn
 rw[ZaS]
 apply wds_glue
 intro p hp
 obtain ⟨w,hw,rfl⟩:=YM.mp hp
 have:=gw_W o w hw
 exact ⟨this.1,this.2.1⟩
theorem W_len {l:Lt}(o:l.Ok):(jn l.W).length<=90000:=by
 have h1:=Zdn (ws:=l.W) fun w hw=>(gw_W o w hw).2.2
 have h2:=len_W o
 lia
theorem W_join {l:Lt}(o:l.Ok):joinH (.str " ") [.lst (l.W.map .str)]=some (.str (jn l.W)):=by
 refine ZcJ ⟨(List.toArray [32])⟩ _ ?_
 have hs:∀gs:List Str,(∀y∈gs,y.length<=56)->(gs.map (·.length)).sum<=56 * gs.length:=by
  intro gs
  induction gs with
  | nil=>intro _;simp
  | cons g gs ih=>
   intro h
   have h1:=h g (.head _)
   have h2:=ih fun y hy=>h y (.tail _ hy)
   simp only[Yr,List.sum_cons,Ys]
   lia
 have h1:=hs l.W fun w hw=>(gw_W o w hw).2.2
 have h2:=len_W o
 show _ + _ * 1<=_
 lia
theorem Zbw {l:Lt}(o:l.Ok)(C:Cs):F_qbw [.v l.P] C=some (.v (.str (jn l.W)),C):=by
 have n1:=len_A l
 have n2:=len_G o
 have k1:=Zdn (ws:=[l.x.h,l.x.d,numS l.x.n]) fun w hw=>(gw_N o w hw).2.2
 have k2:=Zdn (ws:=[l.x.h,l.x.d,numS l.x.n]++l.A) fun w hw=>by
  rcases Y8.mp hw with hw | hw
  ·exact (gw_N o w hw).2.2
  ·exact (gw_A o w hw).2.2
 have k3:=Zdn (ws:=[l.x.h,l.x.d,numS l.x.n]++l.A++l.G) fun w hw=>by
  rcases Y8.mp hw with hw | hw
  ·rcases Y8.mp hw with hw | hw
   ·exact (gw_N o w hw).2.2
   ·exact (gw_A o w hw).2.2
  ·exact (gw_G o w hw).2.2
 simp only[YU,Ys,XD] at k1 k2 k3
 have e2:=x2_ok o (ws:=[l.x.h,l.x.d,numS l.x.n]) (by lia) (by simp) C
 have e3:=x3_ok o (ws:=[l.x.h,l.x.d,numS l.x.n]++l.A) (by lia) (by simp) C
 have e4:=x4_ok o (ws:=[l.x.h,l.x.d,numS l.x.n]++l.A++l.G) (by lia) (by simp) C
 rw[W_parts] at e4
 change x2 _ C=some (.nx (ST l #[.str (jn ([l.x.h,l.x.d,numS l.x.n]++l.A))]),C) at e2
 change x3 _ C=some (.nx (ST l #[.str (jn ([l.x.h,l.x.d,numS l.x.n]++l.A++l.G))]),C) at e3
 have run:B_qbw [#[l.P],none,none,none,none,none,none,none,none] C=some (.rt (.v (.str (jn l.W))),C):=by
  rw[shown_is,Zay (u0_ok l C),Zay (x1_ok o C),Zay e2,Zay e3];exact e4
 unfold F_qbw
 generalize B_qbw=bb at *
 generalize l.P=LP at *
 simp![run]
def smE (Z:List SV->M SV):PSt->M SV:=mFn Z (aCons (mVar 0) (aCons (mVar 1) aNil))
theorem same_tup {n:Nat}{xs:List PV}(hl:xs.length<=100000)(C:Cs)(h:∀x∈xs,F_qas n [.v x,.v x] C=some (.v (.bl true),C)):F_qas (n + 1) [.v (.tup xs),.v (.tup xs)] C=some (.v (.bl true),C):=by
 have c1:=ZbF (g:=hTup (hCons (hName 0) (hCons (hName 1) hNil)) 2) (te:=smE (F_qas n)) (C:=C) (fun ρ=>ρ.length=2) (xs.map fun x=>.tup [x,x]) (fun z hz ρ hρ=>by
  obtain ⟨x,hx,rfl⟩:=YM.mp hz
  have e:=h x hx
  match ρ,hρ with
  | [r1,r2],_=>exact ⟨_,rfl,rfl,by simp[smE,mFn,bnd,aCons,aNil,mVar,Pu.ret,e]⟩) [none,none] [] rfl
 have hz:zipP [.v (.tup xs),.v (.tup xs)]=some (xs.map fun x=>.tup [x,x]):=by
  show some (Xo (fun a b=>PV.tup [a,b]) xs xs)=_
  rw[List.zipWith_self]
 have h1:(xs.map fun x=>PV.tup [x,x]).length<=100000:=by rw[Yu];exact hl
 have z1:=all_true (xs.map fun x=>PV.tup [x,x])
 rw[F_qas]
 unfold smE at c1
 unfold B_qas
 generalize F_qas n=Z at *
 generalize mFn Z (aCons (mVar 0) (aCons (mVar 1) aNil))=te at *
 generalize (xs.map fun x=>PV.tup [x,x])=ZP at *
 generalize (ZP.map fun _=>PV.bl true)=BP at *
 generalize hTup (hCons (hName 0) (hCons (hName 1) hNil)) 2=hh at *
 simp![mComp,mZip,hz,itemsP,stIn',h1,c1,z1]
theorem ZcS {l:Lt}(o:l.Ok)(C:Cs):F_qas 12 [.v l.P,.v l.P] C=some (.v (.bl true),C):=by
 have hgn:=o.gn
 obtain ⟨ho,hwd,hpl⟩:=dd_ok o.d
 have hpn:=dd_plain o.d
 have hg:F_qas 11 [.v (.tup (l.gots.map Nm.P)),.v (.tup (l.gots.map Nm.P))] C=some (.v (.bl true),C):=same_tup (by rw[Yu];lia) C fun x hx=>by
  obtain ⟨t,_,rfl⟩:=YM.mp hx
  exact same_nm 8 t C
 have hd:F_qas 11 [.v (rowP (.st l.kd::l.ps)),.v (rowP (.st l.kd::l.ps))] C=some (.v (.bl true),C):=same_tup (by rw[Yu,Ys];lia) C fun x hx=>by
  obtain ⟨p,hp,rfl⟩:=YM.mp hx
  cases p with
  | st k=>exact ZcR 9 k C
  | num k=>exact Zb0 9 k C
  | nm x=>exact same_nm 8 x C
 unfold Lt.P
 refine same_tup (by simp) C fun x hx=>?_
 simp only[Ye,Yt,or_false] at hx
 rcases hx with rfl | rfl | rfl | rfl | rfl | rfl | rfl
 ·exact ZcR 10 _ C
 ·exact ZcR 10 _ C
 ·exact Zb0 10 _ C
 ·exact Zb0 10 _ C
 ·exact hg
 ·exact Zb0 10 _ C
 ·exact hd
theorem eq2 (a b:Str):deepP (fun p q=>!eqD p q) (.tup [.str a,.str b]) (.tup [.str a,.str b])=some (.bl false):=by
 unfold deepP
 simp[dat,dats,dep,deps,eqD,eqDs]
theorem deal_b {d:Str}(h:wordB d=true):∃b e,mulSP (.str "b") (.int (if (d.length:Int) < 12 then 1 else 0))=some (.str b)/\addP (.str d) (.str b)=some (.str e)/\wordB e=true:=by
 have hl:=ZaV h
 have k:∀b:Str,b.length<=1->addP (.str d) (.str b)=some (.str (d++b)):=fun b hb=>by
  show (if _ then some (PV.str _) else none)=_
  rw[if_pos (by lia)]
 by_cases q:(d.length:Int) < 12
 ·rw[if_pos q]
  refine ⟨"b",d++"b",congrArg (fun z=>some (PV.str z)) (by decide +kernel:Txt.mul "b" 1="b"),k _ (by decide),?_⟩
  unfold wordB at h ⊢
  rw[ll,show ("b":Str).length=1 from rfl,Za4,YJ,List.all_append]
  simp only[Yp,decide_eq_true_eq] at h ⊢
  exact ⟨⟨by lia,by lia⟩,h.2,by decide +kernel⟩
 ·rw[if_neg q]
  refine ⟨"",d++"",congrArg (fun z=>some (PV.str z)) (by decide +kernel:Txt.mul "b" 0=""),k _ (by decide),?_⟩
  have:d++("":Str)=d:=by
   apply Zbq;rw[Za4,YJ];exact YA _
  rw[this];exact h
structure DA (k n:Nat)(h d:Str)(C0 C:Cs)(us:List Nm):Prop where
 len:C.length=C0.length
 gs:GS C k
 oth:∀i,i≠k->i≠n->C[i]? = C0[i]?
 cell:∃vs,C[n]? = some (.dtt (us.map ky) vs)
 good:∀t∈us,t.Ok/\(t.h=h->t.d≠d)
 nd:us.Nodup
theorem DA.adv {k n:Nat}{h d:Str}{C0 C C':Cs}{us:List Nm}(A:DA k n h d C0 C us)(hkn:n≠k)(a:Adv k C C'):DA k n h d C0 C' us:=
 ⟨a.len.trans A.len,a.gs,fun i h1 h2=>(a.oth i h1).trans (A.oth i h1 h2),by obtain ⟨vs,e⟩:=A.cell;exact ⟨vs,by rw[a.oth n hkn];exact e⟩,A.good,A.nd⟩
def q1:PSt->M PF:=mSet 7 (mFn F_qak (aCons (mVar 0) aNil))
def q2:PSt->M PF:=mIfS (mTest (mOp (g2 eqP) (mOp (g2 modP) (mVar 6) (mC (.int 3))) (mC (.int 2)))) (mSet 7 (mTup (aCons (mOp (g2 ixQ) (mVar 7) (mC (.int 0))) (aCons (mOp (g2 addP) (mVar 2) (mOp (g2 mulSP) (mC (.str "b")) (mCB (g1 intH) (aCons (mOp (g2 ltP) (mCB (g1 lenH) (aCons (mVar 2) aNil)) (mC (.int 12))) aNil)))) (aCons (mOp (g2 ixQ) (mVar 7) (mC (.int 2))) aNil))))) mSkip
def q3:PSt->M PF:=mIfS (mTest (mOp (g2 (deepP fun p q=>!eqD p q)) (mSlice (mVar 7) oNo (oPart (mC (.int 2)))) (mTup (aCons (mVar 1) (aCons (mVar 2) aNil))))) (mSetIxT (mC (.bl true)) (mVar 5) (mVar 7)) mSkip
def qb:PSt->M PF:=mSeq q1 (mSeq q2 q3)
section
variable (k n:Nat)(h d:Str)(X3 X4:Option SV)
def QS (x6 x7:Option SV):PSt:=[some (.c k),#[.str h],#[.str d],X3,X4,some (.c n),x6,x7]
theorem q2_ok (hd:wordB d=true)(i:Int)(h0:0<=i)(t:Nm)(ht:t.Ok)(C:Cs):∃u:Nm,q2 (QS k n h d X3 X4 #[.int i] #[t.P]) C=some (.nx (QS k n h d X3 X4 #[.int i] #[u.P]),C)/\u.Ok:=by
 obtain ⟨b,e,e1,e2,hw⟩:=deal_b hd
 have hm:modP (.int i) (.int 3)=some (.int (i % 3)):=by
  simp[modP,intP]
 by_cases q:i % 3=2
 ·refine ⟨⟨t.h,e,t.n⟩,?_,ht.h,hw,ht.n0,ht.n1⟩
  unfold QS Nm.P
  by_cases ql:(d.length:Int) < 12
  ·rw[if_pos ql] at e1
   simp![q2,hm,q,ixQ,ixP,atI,ixN,ltP,intH,ql,e1,e2]
  ·rw[if_neg ql] at e1
   simp![q2,hm,q,ixQ,ixP,atI,ixN,ltP,intH,ql,e1,e2]
 ·refine ⟨t,?_,ht⟩
  unfold QS
  simp![q2,hm,q]
theorem q_step (hkn:n≠k)(hd:wordB d=true)(i:Int)(h0:0<=i)(x7:Option SV)(C0 C:Cs)(us:List Nm)(A:DA k n h d C0 C us)(hu:us.length < 100):
  ∃us' C' y7,qb (QS k n h d X3 X4 #[.int i] x7) C=some (.nx (QS k n h d X3 X4 #[.int i] y7),C')/\DA k n h d C0 C' us'/\us'.length<=us.length + 1:=by
 obtain ⟨t,C1,e1,ht,a1⟩:=name_adv k C A.gs
 have s1:q1 (QS k n h d X3 X4 #[.int i] x7) C=some (.nx (QS k n h d X3 X4 #[.int i] #[t.P]),C1):=by
  unfold QS
  simp![q1,e1]
 obtain ⟨u,s2,hu2⟩:=q2_ok k n h d X3 X4 hd i h0 t ht C1
 have A1:=A.adv hkn a1
 obtain ⟨vs,hn⟩:=A1.cell
 by_cases hb:u.h=h/\u.d=d
 ·refine ⟨us,C1,#[u.P],?_,A1,by lia⟩
  unfold qb
  rw[Zay s1,Zay s2]
  refine Zbr ?_
  have ed:=eq2 h d
  unfold QS Nm.P
  rw[hb.1,hb.2]
  simp![show cutP [.str h,.str d,.int u.n] none (some 2)=[.str h,.str d] from rfl,ed]
 ·have hne:u.h=h->u.d≠d:=fun q1 q2=>hb ⟨q1,q2⟩
  have ed:=ne2 hne
  obtain ⟨us',eu,hl',hnd,hm⟩:=putKs_ky us u A1.nd
  refine ⟨us',C1.set n (.dtt (us'.map ky) (putVs (us.map ky) vs (ky u) (.bl true))),#[u.P],?_,⟨?_,?_,fun j h1 h2=>?_,?_,fun t ht=>?_,hnd⟩,hl'⟩
  ·unfold qb
   rw[Zay s1,Zay s2]
   have et:mTest (mOp (g2 (deepP fun p q=>!eqD p q)) (mSlice (mVar 7) oNo (oPart (mC (.int 2)))) (mTup (aCons (mVar 1) (aCons (mVar 2) aNil)))) (QS k n h d X3 X4 #[.int i] #[u.P]) C1=some (true,C1):=by
    unfold QS Nm.P
    simp![cut2,ed]
   refine (if_t et).trans ?_
   have hk:keysP [.str u.h,.str u.d,.int u.n]=some (ky u):=rfl
   have hset:∀ρ,setT (.v (.bl true)) (.c n) (.v u.P) ρ C1=some (.nx ρ,C1.set n (.dtt (us'.map ky) (putVs (us.map ky) vs (ky u) (.bl true)))):=fun ρ=>by
    unfold setT Nm.P
    simp only[hn,hk]
    rw[if_pos (by rw[Yu];lia),eu]
   unfold QS
   generalize u.P=UP at *
   simp![mSetIxT,hset]
  ·rw[VU];exact A1.len
  ·obtain ⟨y1,y2,p1,p2,p3⟩:=A1.gs
   exact ⟨y1,y2,by rw[Xc hkn];exact p1,p2,p3⟩
  ·rw[Xc (XA h2)];exact A1.oth j h1 h2
  ·exact ⟨_,setAt hn⟩
  ·rcases hm t ht with q | rfl
   ·exact A1.good t q
   ·exact ⟨hu2,hne⟩
theorem q_loop (hkn:n≠k)(hd:wordB d=true)(C0:Cs):∀(xs:List Int) (us:List Nm) (C:Cs) (x6 x7:Option SV),(∀i∈xs,0<=i)->DA k n h d C0 C us->us.length + xs.length < 60->
  ∃us' C' y6 y7,loop (hName 6) qb (xs.map .int) (QS k n h d X3 X4 x6 x7) C=some (.nx (QS k n h d X3 X4 y6 y7),C')/\DA k n h d C0 C' us'/\us'.length<=us.length + xs.length
 | [],us,C,x6,x7,_,A,_=>⟨us,C,x6,x7,rfl,A,by simp⟩
 | y::xs,us,C,x6,x7,hx,A,hl=>by
  rw[Ys] at hl
  obtain ⟨us1,C1,z1,e1,A1,l1⟩:=q_step k n h d X3 X4 hkn hd y (hx y (.head _)) x7 C0 C us A (by lia)
  obtain ⟨us2,C2,x2,z2,e2,A2,l2⟩:=q_loop hkn hd C0 xs us1 C1 #[.int y] z1 (fun i hi=>hx i (.tail _ hi)) A1 (by lia)
  refine ⟨us2,C2,x2,z2,?_,A2,by rw[Ys];lia⟩
  rw[Yr]
  unfold loop
  have hh:hName 6 (.int y) (QS k n h d X3 X4 x6 x7)=some (QS k n h d X3 X4 #[.int y] x7):=rfl
  simp only[hh,bnd,e1,e2]
end
theorem gs_lt {C:Cs}{k:Nat}(h:GS C k):k < C.length:=by
 obtain ⟨x,y,g,_⟩:=h
 rcases Y1 k C.length with q | q
 ·exact q
 ·rw[YD.mpr q] at g;cases g
theorem gs_app {C:Cs}{k:Nat}(h:GS C k)(v:PV):GS (C++[v]) k:=by
 have hk:=gs_lt h
 obtain ⟨x,y,g,g1,g2⟩:=h
 exact ⟨x,y,by rw[YC hk];exact g,g1,g2⟩
theorem keys_nm (us:List Nm)(h:∀t∈us,t.Ok):keysOk (us.map ky)=true:=by
 unfold keysOk
 rw[YG];intro k hk
 obtain ⟨t,ht,rfl⟩:=YM.mp hk
 have h1:=(ZaV (h t ht).h).2
 have h2:=(ZaV (h t ht).d).2
 have h3:t.h.length<=1000:=by lia
 have h4:t.d.length<=1000:=by lia
 simp[ky,keyOk,h3,h4]
theorem sorted_cell (us:List Nm)(vs:List PV)(C:Cs)(n:Nat)(hc:C[n]? = some (.dtt (us.map ky) vs))(h:∀t∈us,t.Ok)(hl:us.length < 64):sortedH3 C [.c n]=some (sortL (us.map Nm.P)):=by
 unfold sortedH3
 simp only[deref,hc]
 unfold sortedH2
 simp only[deref,hc]
 rw[if_pos (keys_nm us h),map_tupK_ky,sortP_nm us hl]
def a1:PSt->M PF:=mAsg (mFn F_qak (aCons (mVar 0) aNil)) (hTup (hCons (hName 1) (hCons (hName 2) (hCons (hName 3) hNil))) 3)
def a2:PSt->M PF:=mSet 4 (mOp (g2 ixQ) (mVal (mLst (aCons (mC (.int 0)) (aCons (mFn F_qao (aCons (mVar 0) aNil)) (aCons (mC (.int 0)) (aCons (mC (.int 1)) aNil)))))) (mFn F_qaq (aCons (mVar 0) (aCons (mC (.int 4)) aNil))))
def aR:PSt->M (List PV):=mRange1 (aCons (mOp (g2 ixQ) (mVal (mLst (aCons (mC (.int 0)) (aCons (mC (.int 1)) (aCons (mC (.int 0)) (aCons (mC (.int 2)) (aCons (mC (.int 7)) (aCons (mC (.int 30)) aNil)))))))) (mFn F_qaq (aCons (mVar 0) (aCons (mC (.int 6)) aNil)))) aNil)
def a5:PSt->M PF:=mRet (mTup (aCons (mVar 1) (aCons (mVar 2) (aCons (mVar 3) (aCons (mVar 4) (aCons (mCB (g1 tupH) (aCons (mVal (mSorted3 (aCons (mVar 5) aNil))) aNil)) (aCons (mFn F_qao (aCons (mVar 0) aNil)) (aCons (mFn F_qac (aCons (mVar 0) aNil)) aNil))))))))
theorem letter_is:B_qag=mSeq a1 (mSeq a2 (mSeq (mNewT 5) (mSeq (mFor aR (hName 6) qb) a5))):=rfl
theorem letter_adv (k:Nat)(C:Cs)(g:GS C k):∃(l:Lt) (C':Cs),F_qag [.c k] C=some (.v l.P,C')/\l.Ok/\Adv k C C':=by
 obtain ⟨x,C1,e1,hx,b1⟩:=name_adv k C g
 have s1:a1 [some (.c k),none,none,none,none,none,none,none] C=some (.nx [some (.c k),#[.str x.h],#[.str x.d],#[.int x.n],none,none,none,none],C1):=by
  unfold Nm.P at e1
  simp![a1,mAsg,e1,hTup,hCons,hName,hNil]
 obtain ⟨p,C2,e2,hp0,hp1,b2⟩:=Zci k C1 b1.gs
 obtain ⟨j,C3,e3,hj0,hj1,b3⟩:=ZaO k 4 C2 b2.gs (by decide)
 obtain ⟨pv,hpv,e4⟩:=ZbS [.int 0,.int p,.int 0,.int 1] j hj0 (by simpa using hj1)
 obtain ⟨pr,rfl,hr0,hr1⟩:∃b:Int,pv=.int b/\0<=b/\b < 10 ^ 30:=by
  simp only[Ye,Yt,or_false] at hpv
  rcases hpv with rfl | rfl | rfl | rfl
  ·exact ⟨_,rfl,by decide,by decide⟩
  ·exact ⟨_,rfl,hp0,hp1⟩
  ·exact ⟨_,rfl,by decide,by decide⟩
  ·exact ⟨_,rfl,by decide,by decide⟩
 have s2:a2 [some (.c k),#[.str x.h],#[.str x.d],#[.int x.n],none,none,none,none] C1=some (.nx [some (.c k),#[.str x.h],#[.str x.d],#[.int x.n],#[.int pr],none,none,none],C3):=by
  simp![a2,e2,e3,e4]
 have b13:=(b1.trans b2).trans b3
 have s3:mNewT 5 [some (.c k),#[.str x.h],#[.str x.d],#[.int x.n],#[.int pr],none,none,none] C3=some (.nx (QS k C3.length x.h x.d #[.int x.n] #[.int pr] none none),C3++[.dtt [] []]):=rfl
 have g3:=gs_app b3.gs (.dtt [] [])
 obtain ⟨m,C4,e5,hm0,hm1,b4⟩:=ZaO k 6 _ g3 (by decide)
 obtain ⟨mv,hmv,e6⟩:=ZbS [.int 0,.int 1,.int 0,.int 2,.int 7,.int 30] m hm0 (by simpa using hm1)
 obtain ⟨r,rfl,hr⟩:∃r:Nat,mv=.int (r:Int)/\r<=30:=by
  simp only[Ye,Yt,or_false] at hmv
  rcases hmv with rfl | rfl | rfl | rfl | rfl | rfl
  ·exact ⟨0,rfl,by decide⟩
  ·exact ⟨1,rfl,by decide⟩
  ·exact ⟨0,rfl,by decide⟩
  ·exact ⟨2,rfl,by decide⟩
  ·exact ⟨7,rfl,by decide⟩
  ·exact ⟨30,rfl,by decide⟩
 have hk:=gs_lt b3.gs
 have hkn:C3.length≠k:=by lia
 have A0:DA k C3.length x.h x.d (C3++[.dtt [] []]) C4 []:=DA.adv ⟨rfl,g3,fun _ _ _=>rfl,⟨[],by simp⟩,by simp,by simp⟩ hkn b4
 have hrg:rng1P [.v (.int (r:Int))]=some (((YT r).map fun (q:Nat)=>(0 + q:Int)).map PV.int):=by
  unfold rng1P;dsimp only
  rw[if_pos (by lia),W6,Y9];rfl
 have hl0:((YT r).map fun (q:Nat)=>(0 + q:Int)).length<=30:=by simp;lia
 have hl1:∀i∈(YT r).map fun (q:Nat)=>(0 + q:Int),0<=i:=fun i hi=>by
  obtain ⟨q,_,rfl⟩:=YM.mp hi;lia
 generalize ((YT r).map fun (q:Nat)=>(0 + q:Int))=rs at hrg hl0 hl1
 obtain ⟨us,C5,y6,y7,e7,A1,l1⟩:=q_loop k C3.length x.h x.d #[.int x.n] #[.int pr] hkn hx.d (C3++[.dtt [] []]) rs [] C4 none none hl1 A0 (by simp;lia)
 have s4:mFor aR (hName 6) qb (QS k C3.length x.h x.d #[.int x.n] #[.int pr] none none) (C3++[.dtt [] []])=some (.nx (QS k C3.length x.h x.d #[.int x.n] #[.int pr] y6 y7),C5):=by
  have:aR (QS k C3.length x.h x.d #[.int x.n] #[.int pr] none none) (C3++[.dtt [] []])=some (rs.map .int,C4):=by
   unfold QS
   generalize rs.map PV.int=RS at *
   simp![aR,mRange1,e5,e6,hrg]
  unfold mFor bnd
  rw[this]
  exact e7
 rw[XD] at l1
 obtain ⟨vs,hc⟩:=A1.cell
 have es:=sorted_cell us vs C5 C3.length hc (fun t ht=>(A1.good t ht).1) (by lia)
 obtain ⟨ts,e8,l2,m2,hri⟩:=sort_nm us A1.nd
 rw[e8] at es
 obtain ⟨tm,C6,e9,ht0,ht1,b6⟩:=Zci k C5 A1.gs
 obtain ⟨kd,ps,C7,e10,hd,b7⟩:=deed_adv k C6 b6.gs
 have hlen:C5.length=C.length + 1:=by rw[A1.len,YU,b13.len];rfl
 have hlen7:C7.length=C.length + 1:=by rw[b7.len,b6.len,hlen]
 refine ⟨⟨x,pr,ts,tm,kd,ps⟩,C7.take C.length,?_,⟨hx,hr0,hr1,fun y hy=>A1.good y (m2 y hy),by show ts.length<=30;lia,hri,ht0,ht1,hd⟩,?_⟩
 ·have s5:a5 (QS k C3.length x.h x.d #[.int x.n] #[.int pr] y6 y7) C5=some (.rt (.v (Lt.P ⟨x,pr,ts,tm,kd,ps⟩)),C7):=by
   unfold QS Lt.P
   generalize ts.map Nm.P=TS at *
   generalize rowP (.st kd::ps)=DD at *
   simp![a5,mSorted3,es,tupH,e9,e10]
  have run:B_qag [some (.c k),none,none,none,none,none,none,none] C=some (.rt (.v (Lt.P ⟨x,pr,ts,tm,kd,ps⟩)),C7):=by
   rw[letter_is,Zay s1,Zay s2,Zay s3,Zay s4];exact s5
  unfold F_qag
  generalize B_qag=bb at *
  generalize Lt.P ⟨x,pr,ts,tm,kd,ps⟩=LP at *
  simp![run]
 ·have hk0:=gs_lt g
  refine ⟨by rw[XI,hlen7];lia,?_,fun j hj=>?_⟩
  ·obtain ⟨z,y,q,q1,q2⟩:=b7.gs
   exact ⟨z,y,by rw[XW hk0];exact q,q1,q2⟩
  ·rcases Y1 j C.length with q | q
   ·rw[XW q,b7.oth j hj,b6.oth j hj,A1.oth j hj (by rw[b13.len];lia),YC (by rw[b13.len];exact q),b13.oth j hj]
   ·rw[YD.mpr (by rw[XI];lia),YD.mpr q]
def b1:PSt->M PF:=mNew 2 (mFnF FF_qae (aCons (mVar 0) (aCons (mVar 1) aNil)))
def b2:PSt->M PF:=mSet 3 (mFn F_qag (aCons (mVar 2) aNil))
def b3:PSt->M PF:=mSet 4 (mFn F_qai (aCons (mVar 3) aNil))
def cSh:PSt->M Bool:=mTest (mOp (g2 neP) (mFn F_qbw (aCons (mVar 3) aNil)) (mMt "str" joinH (mC (.str " ")) (aCons (mVar 4) aNil)))
section
variable (d1 f1 f2 f3 f4 f5 d2 t0 t1 t2 t3 t4 t5 t6 t7:Addr)
def cRd:PSt->M Bool:=mNotT (mTru (mFn (F_qas 12) (aCons (mFn (F_qbr d1 f1 f2 f3 f4 f5 d2 t0 t1 t2 t3 t4 t5 t6 t7) (aCons (mMt "str" joinH (mC (.str " ")) (aCons (mVar 4) aNil)) aNil)) (aCons (mVar 3) aNil))))
def cTx:PSt->M Bool:=mNotT (mTru (mFn (F_qas 12) (aCons (mFn (F_qbr d1 f1 f2 f3 f4 f5 d2 t0 t1 t2 t3 t4 t5 t6 t7) (aCons (mFn F_qau (aCons (mVar 2) (aCons (mVar 4) aNil))) aNil)) (aCons (mVar 3) aNil))))
def bb:PSt->M PF:=mSeq b1 (mSeq b2 (mSeq b3 (mSeq (mIfS (mOrT cSh (cRd d1 f1 f2 f3 f4 f5 d2 t0 t1 t2 t3 t4 t5 t6 t7)) (mRet (mC (.bl false))) mSkip) (mSeq (mIfS (cTx d1 f1 f2 f3 f4 f5 d2 t0 t1 t2 t3 t4 t5 t6 t7) (mRet (mC (.bl false))) mSkip) (mIfS cSh (mRet (mC (.bl false))) mSkip)))))
end
def lR:PSt->M (List PV):=mRange1 (aCons (mOp (g2 addP) (mC (.int 1)) (mCB (g1 minH) (aCons (mC (.int 30)) (aCons (mCB (g1 lenH) (aCons (mVar 0) aNil)) aNil)))) aNil)
section
variable {d1 f1 f2 f3 f4 f5 d2 t0 t1 t2 t3 t4 t5 t6 t7:Addr}
theorem law_is:B_law d1 f1 f2 f3 f4 f5 d2 t0 t1 t2 t3 t4 t5 t6 t7=mSeq (mFor lR (hName 1) (bb d1 f1 f2 f3 f4 f5 d2 t0 t1 t2 t3 t4 t5 t6 t7)) (mRet (mC (.bl true))):=rfl
theorem bb_ok (h:f1≠f2/\f1≠f3/\f1≠f4/\f1≠f5/\f2≠f3/\f2≠f4/\f2≠f5/\f3≠f4/\f3≠f5/\f4≠f5)(hd:[t0,t1,t2,t3,t4,t5,t6,t7].Nodup)(ns:List Int)(i:Int)(h1:0<=i)(h2:i<=1000)(x2 x3 x4:Option SV)(C:Cs):∃y2 y3 y4 C',bb d1 f1 f2 f3 f4 f5 d2 t0 t1 t2 t3 t4 t5 t6 t7 [#[.lst (ns.map .int)],#[.int i],x2,x3,x4] C=some (.nx [#[.lst (ns.map .int)],#[.int i],y2,y3,y4],C'):=by
 obtain ⟨x,y,e1,hy⟩:=left_eq ns i C h1 h2
 have g0:GS (C++[.lst [.int x,.int y]]) C.length:=⟨x,y,by simp,hy⟩
 obtain ⟨l,C1,e2,o,a1⟩:=letter_adv C.length (C++[.lst [.int x,.int y]]) g0
 have e3:=ZcZ o C1
 have e4:=Zbw o C1
 have e5:=W_join o
 have e6:=ZbQ (d1:=d1) (d2:=d2) h hd o (jn l.W) (W_len o) (W_text o) C1
 have e7:=ZcS o C1
 obtain ⟨z,C2,e8,hz,hzl,a2⟩:=text_adv C.length C1 a1.gs l.W (len_W o) (gw_W o)
 have e9:=ZbQ (d1:=d1) (d2:=d2) h hd o z hzl (Zcr z 32 _ hz) C2
 have e10:=ZcS o C2
 have e11:=Zbw o C2
 generalize ns.map PV.int=NS at *
 generalize l.P=CL at *
 generalize jn l.W=TX at *
 generalize l.W.map PV.str=WS at *
 have s1:b1 [#[.lst NS],#[.int i],x2,x3,x4] C=some (.nx [#[.lst NS],#[.int i],some (.c C.length),x3,x4],C++[.lst [.int x,.int y]]):=by
  simp![b1,mNew,e1]
 have s2:b2 [#[.lst NS],#[.int i],some (.c C.length),x3,x4] (C++[.lst [.int x,.int y]])=some (.nx [#[.lst NS],#[.int i],some (.c C.length),#[CL],x4],C1):=by
  simp![b2,e2]
 have s3:b3 [#[.lst NS],#[.int i],some (.c C.length),#[CL],x4] C1=some (.nx [#[.lst NS],#[.int i],some (.c C.length),#[CL],#[.lst WS]],C1):=by
  simp![b3,e3]
 have sS:∀D,F_qbw [.v CL] D=some (.v (.str TX),D)->cSh [#[.lst NS],#[.int i],some (.c C.length),#[CL],#[.lst WS]] D=some (false,D):=fun D e=>by
  simp![cSh,e,e5]
 have sR:cRd d1 f1 f2 f3 f4 f5 d2 t0 t1 t2 t3 t4 t5 t6 t7 [#[.lst NS],#[.int i],some (.c C.length),#[CL],#[.lst WS]] C1=some (false,C1):=by
  simp![cRd,e5,e6,e7]
 have sO:mOrT cSh (cRd d1 f1 f2 f3 f4 f5 d2 t0 t1 t2 t3 t4 t5 t6 t7) [#[.lst NS],#[.int i],some (.c C.length),#[CL],#[.lst WS]] C1=some (false,C1):=by
  unfold mOrT bnd
  rw[sS C1 e4]
  exact sR
 have sT:cTx d1 f1 f2 f3 f4 f5 d2 t0 t1 t2 t3 t4 t5 t6 t7 [#[.lst NS],#[.int i],some (.c C.length),#[CL],#[.lst WS]] C1=some (false,C2):=by
  simp![cTx,e8,e9,e10]
 refine ⟨some (.c C.length),#[CL],#[.lst WS],C2,?_⟩
 unfold bb
 rw[Zay s1,Zay s2,Zay s3,Zay (Zbr sO),Zay (Zbr sT),Zbr (sS C2 e11)]
theorem law_pure (h:f1≠f2/\f1≠f3/\f1≠f4/\f1≠f5/\f2≠f3/\f2≠f4/\f2≠f5/\f3≠f4/\f3≠f5/\f4≠f5)(hd:[t0,t1,t2,t3,t4,t5,t6,t7].Nodup)(ns:List Int)(hn:ns.length<=63):F_law d1 f1 f2 f3 f4 f5 d2 t0 t1 t2 t3 t4 t5 t6 t7 [.v (.lst (ns.map .int))] []=some (.v (.bl true),[]):=by
 obtain ⟨n,hr,hn2⟩:∃n:Nat,lR [#[.lst (ns.map .int)],none,none,none,none] []=some ((YT n).map fun (q:Nat)=>PV.int (0 + q),[])/\n<=100:=by
  have hlen:lenH [.lst (ns.map .int)]=some (.int (ns.length:Int)):=by simp[lenH]
  generalize ns.length=m at *
  generalize ns.map PV.int=NS at *
  have hm:minH [.int 30,.int (m:Int)]=some (.int (if (m:Int) < 30 then (m:Int) else 30)):=rfl
  obtain ⟨q,hq,hq2⟩:∃q:Nat,(if (m:Int) < 30 then (m:Int) else 30)=(q:Int)/\q<=30:=by
   split
   ·exact ⟨m,rfl,by lia⟩
   ·exact ⟨30,rfl,by lia⟩
  rw[hq] at hm
  have hrg:rng1P [.v (.int (1 + (q:Int)))]=some ((YT (1 + q)).map fun (q:Nat)=>PV.int (0 + q)):=by
   unfold rng1P
   dsimp only
   rw[if_pos (by lia),show (1 + (q:Int)).toNat=1 + q by lia]
  refine ⟨1 + q,?_,by lia⟩
  simp[lR,mRange1,aCons,aNil,mC,mOp,mCB,mVar,bnd,opM,Pu.ret,g1,g2,derefs,deref,addP,hlen,hm,hrg]
 obtain ⟨ρ',D,e,hpi⟩:=loop_inv (g:=hName 1) (f:=bb d1 f1 f2 f3 f4 f5 d2 t0 t1 t2 t3 t4 t5 t6 t7) (fun ρ D=>∃x1 x2 x3 x4,ρ=[#[.lst (ns.map .int)],x1,x2,x3,x4]) ((YT n).map fun (q:Nat)=>PV.int (0 + q)) (fun z hz ρ D hh=>by
   obtain ⟨q,hq,rfl⟩:=YM.mp hz
   have hq:=List.mem_range.mp hq
   obtain ⟨x1,x2,x3,x4,rfl⟩:=hh
   obtain ⟨y2,y3,y4,D',e⟩:=bb_ok (d1:=d1) (d2:=d2) h hd ns (0 + (q:Int)) (by lia) (by lia) x2 x3 x4 D
   exact ⟨_,_,D',rfl,e,_,_,_,_,rfl⟩) [#[.lst (ns.map .int)],none,none,none,none] [] ⟨none,none,none,none,rfl⟩
 have s6:mFor lR (hName 1) (bb d1 f1 f2 f3 f4 f5 d2 t0 t1 t2 t3 t4 t5 t6 t7) [#[.lst (ns.map .int)],none,none,none,none] []=some (.nx ρ',D):=by
  unfold mFor
  rw[bnd,hr];exact e
 have run:B_law d1 f1 f2 f3 f4 f5 d2 t0 t1 t2 t3 t4 t5 t6 t7 [#[.lst (ns.map .int)],none,none,none,none] []=some (.rt (.v (.bl true)),D):=by
  rw[law_is,Zay s6];rfl
 unfold F_law
 generalize B_law d1 f1 f2 f3 f4 f5 d2 t0 t1 t2 t3 t4 t5 t6 t7=bl at *
 generalize ns.map PV.int=NS at *
 simp![run]
end
def fnames:List Str:=List.map X1 ["is_number","is_number_below","is_row_of","is_word","is_clause_number","is_bare","is_of_word","is_of_clause","is_of_part","is_of_house","is_deed","is_letter_name","are_gots","is_letter","words_in","is_figures","need","shown_name","shown_deed","shown_letter","words_of","read_number","read_name","read_prev","read_gots","read_deed","read_letter","_law_cell_at","_law_left","_law_pick","_law_number","_law_word","_law_name","_law_deed","_law_letter","_law_name_text","_law_letter_words","_law_text","_law_same","law"]
def sts:List (Str×Stmt):=fnames.zip (List.map top [6,7,8,9,12,13,14,15,16,17,19,20,21,22,28,29,32,33,34,35,36,37,38,39,40,41,42,44,45,46,47,48,49,50,51,52,53,54,55,56])
theorem sts_ok:(recsOf qv).map Hd.four=sts.map Hd.fourS:=by kernel_rfl
theorem td_DEEDS {w:World}{h:Heap}{mg:Str->Option Value}{as:List Addr}(G:h.Ns Y5 mg)(Y:hk.says w h)(m:83∈as){f_qaz:Addr}{f_qbk:Addr}{f_qbj:Addr}{f_qbh:Addr}{f_qbi:Addr}(e0:mg "is_bare"=some (.ref f_qaz))(e1:mg "is_of_word"=some (.ref f_qbk))(e2:mg "is_of_part"=some (.ref f_qbj))(e3:mg "is_of_clause"=some (.ref f_qbh))(e4:mg "is_of_house"=some (.ref f_qbi)):mg "DEEDS"=some (.ref 83)/\TopD (Hd.kf h as) w 83 (Zbm f_qaz f_qbk f_qbj f_qbh f_qbi):=by
 refine ⟨Hd.tab_mg G Y.1 0 rfl rfl,⟨(es_DEEDS w.params).toArray,8,Hd.kf_at (Hd.tab_at Y.2 0 rfl rfl) m,?_,?_⟩,by decide⟩
 ·repeat (first | exact Wm | refine And.intro ⟨_,_,rfl,rfl⟩ ?_)
 ·have q0:=(Hd.tab_mg G Y.1 1 rfl rfl).symm.trans e0
  cases q0
  have q1:=(Hd.tab_mg G Y.1 2 rfl rfl).symm.trans e1
  cases q1
  have q2:=(Hd.tab_mg G Y.1 3 rfl rfl).symm.trans e2
  cases q2
  have q3:=(Hd.tab_mg G Y.1 4 rfl rfl).symm.trans e3
  cases q3
  have q4:=(Hd.tab_mg G Y.1 5 rfl rfl).symm.trans e4
  cases q4
  repeat (first | exact Wy | refine Wd ⟨rfl,rfl⟩ ?_)
theorem td_DEED_FORMS {w:World}{h:Heap}{mg:Str->Option Value}{as:List Addr}(G:h.Ns Y5 mg)(Y:hk.says w h)(m:153∈as)(m0:154∈as)(m1:155∈as)(m2:156∈as)(m3:157∈as)(m4:158∈as)(m5:159∈as)(m6:160∈as)(m7:161∈as):mg "DEED_FORMS"=some (.ref 153)/\TopD (Hd.kf h as) w 153 (Zax 154 155 156 157 158 159 160 161)/\TupT (Hd.kf h as) (Zan 154 155 156 157 158 159 160 161)/\[154,155,156,157,158,159,160,161].Nodup:=by
 refine ⟨Hd.tab_mg G Y.1 6 rfl rfl,⟨⟨(Zcb w.params).toArray,8,Hd.kf_at (Hd.tab_at Y.2 1 rfl rfl) m,?_,?_⟩,by decide⟩,?_,by decide⟩
 ·repeat (first | exact Wm | refine And.intro ⟨_,_,rfl,rfl⟩ ?_)
 ·repeat (first | exact Wy | refine Wd ⟨rfl,rfl⟩ ?_)
 ·intro a xs e
  unfold Zan at e
  rw[Yj] at e
  by_cases h0:a=154
  ·subst h0;rw[beq_self_eq_true] at e;cases e
   exact ⟨_,_,_,Hd.kf_at (Hd.tab_at Y.2 2 rfl rfl) m0,rfl,rfl,by decide,(by repeat (first | exact Wy | refine Wd ⟨_,rfl⟩ ?_)),by decide⟩
  rw[beq_eq_false_iff_ne.mpr h0] at e
  rw[Yj] at e
  by_cases h1:a=155
  ·subst h1;rw[beq_self_eq_true] at e;cases e
   exact ⟨_,_,_,Hd.kf_at (Hd.tab_at Y.2 3 rfl rfl) m1,rfl,rfl,by decide,(by repeat (first | exact Wy | refine Wd ⟨_,rfl⟩ ?_)),by decide⟩
  rw[beq_eq_false_iff_ne.mpr h1] at e
  rw[Yj] at e
  by_cases h2:a=156
  ·subst h2;rw[beq_self_eq_true] at e;cases e
   exact ⟨_,_,_,Hd.kf_at (Hd.tab_at Y.2 4 rfl rfl) m2,rfl,rfl,by decide,(by repeat (first | exact Wy | refine Wd ⟨_,rfl⟩ ?_)),by decide⟩
  rw[beq_eq_false_iff_ne.mpr h2] at e
  rw[Yj] at e
  by_cases h3:a=157
  ·subst h3;rw[beq_self_eq_true] at e;cases e
   exact ⟨_,_,_,Hd.kf_at (Hd.tab_at Y.2 5 rfl rfl) m3,rfl,rfl,by decide,(by repeat (first | exact Wy | refine Wd ⟨_,rfl⟩ ?_)),by decide⟩
  rw[beq_eq_false_iff_ne.mpr h3] at e
  rw[Yj] at e
  by_cases h4:a=158
  ·subst h4;rw[beq_self_eq_true] at e;cases e
   exact ⟨_,_,_,Hd.kf_at (Hd.tab_at Y.2 6 rfl rfl) m4,rfl,rfl,by decide,(by repeat (first | exact Wy | refine Wd ⟨_,rfl⟩ ?_)),by decide⟩
  rw[beq_eq_false_iff_ne.mpr h4] at e
  rw[Yj] at e
  by_cases h5:a=159
  ·subst h5;rw[beq_self_eq_true] at e;cases e
   exact ⟨_,_,_,Hd.kf_at (Hd.tab_at Y.2 7 rfl rfl) m5,rfl,rfl,by decide,(by repeat (first | exact Wy | refine Wd ⟨_,rfl⟩ ?_)),by decide⟩
  rw[beq_eq_false_iff_ne.mpr h5] at e
  rw[Yj] at e
  by_cases h6:a=160
  ·subst h6;rw[beq_self_eq_true] at e;cases e
   exact ⟨_,_,_,Hd.kf_at (Hd.tab_at Y.2 8 rfl rfl) m6,rfl,rfl,by decide,(by repeat (first | exact Wy | refine Wd ⟨_,rfl⟩ ?_)),by decide⟩
  rw[beq_eq_false_iff_ne.mpr h6] at e
  rw[Yj] at e
  by_cases h7:a=161
  ·subst h7;rw[beq_self_eq_true] at e;cases e
   exact ⟨_,_,_,Hd.kf_at (Hd.tab_at Y.2 9 rfl rfl) m7,rfl,rfl,by decide,(by repeat (first | exact Wy | refine Wd ⟨_,rfl⟩ ?_)),by decide⟩
  rw[beq_eq_false_iff_ne.mpr h7] at e
  cases e
theorem ln0 {P:List Value->Prop}(h:P []):∀us:List Value,us.length=0->P us:=by
 intro us hl
 cases us with
 | nil=>exact h
 | cons a r=>simp at hl
theorem ln1 {P:List Value->Prop}(h:∀a,P [a]):∀us:List Value,us.length=1->P us:=by
 intro us hl
 cases us with
 | nil=>simp at hl
 | cons a r=>exact ln0 (P:=fun r=>P (a::r)) (h a) r (by simpa using hl)
theorem ln2 {P:List Value->Prop}(h:∀a b,P [a,b]):∀us:List Value,us.length=2->P us:=by
 intro us hl
 cases us with
 | nil=>simp at hl
 | cons a r=>exact ln1 (P:=fun r=>P (a::r)) (h a) r (by simpa using hl)
theorem ln3 {P:List Value->Prop}(h:∀a b c,P [a,b,c]):∀us:List Value,us.length=3->P us:=by
 intro us hl
 cases us with
 | nil=>simp at hl
 | cons a r=>exact ln2 (P:=fun r=>P (a::r)) (h a) r (by simpa using hl)
theorem all_mk {P:Yo}{w:World}{K:W.Frag}{mg:Str->Option Value}{fa:Addr}(hfa:mg "law"=some (.ref fa))(T:Txt mg)
  (e_is_number:Hd.FnAt K mg "is_number" s_qbf)
  (e_is_number_below:Hd.FnAt K mg "is_number_below" s_qbg)
  (e_is_row_of:Hd.FnAt K mg "is_row_of" s_qbl)
  (e_is_word:Hd.FnAt K mg "is_word" s_qbm)
  (e_is_clause_number:Hd.FnAt K mg "is_clause_number" s_qba)
  (e_is_bare:Hd.FnAt K mg "is_bare" s_qaz)
  (e_is_of_word:Hd.FnAt K mg "is_of_word" s_qbk)
  (e_is_of_clause:Hd.FnAt K mg "is_of_clause" s_qbh)
  (e_is_of_part:Hd.FnAt K mg "is_of_part" s_qbj)
  (e_is_of_house:Hd.FnAt K mg "is_of_house" s_qbi)
  (e_is_deed:Hd.FnAt K mg "is_deed" s_qbb)
  (e_is_letter_name:Hd.FnAt K mg "is_letter_name" s_qbe)
  (e_are_gots:Hd.FnAt K mg "are_gots" s_qay)
  (e_is_letter:Hd.FnAt K mg "is_letter" s_qbd)
  (e_words_in:Hd.FnAt K mg "words_in" s_qby)
  (e_is_figures:Hd.FnAt K mg "is_figures" s_qbc)
  (e_need:Hd.FnAt K mg "need" s_qbo)
  (e_shown_name:Hd.FnAt K mg "shown_name" s_qbx)
  (e_shown_deed:Hd.FnAt K mg "shown_deed" s_qbv)
  (e_shown_letter:Hd.FnAt K mg "shown_letter" s_qbw)
  (e_words_of:Hd.FnAt K mg "words_of" s_qbz)
  (e_read_number:Hd.FnAt K mg "read_number" s_qbt)
  (e_read_name:Hd.FnAt K mg "read_name" s_qbs)
  (e_read_prev:Hd.FnAt K mg "read_prev" s_qbu)
  (e_read_gots:Hd.FnAt K mg "read_gots" s_qbq)
  (e_read_deed:Hd.FnAt K mg "read_deed" s_qbp)
  (e_read_letter:Hd.FnAt K mg "read_letter" s_qbr)
  (e__law_cell_at:Hd.FnAt K mg "_law_cell_at" s_qaa)
  (e__law_left:Hd.FnAt K mg "_law_left" s_qae)
  (e__law_pick:Hd.FnAt K mg "_law_pick" s_qaq)
  (e__law_number:Hd.FnAt K mg "_law_number" s_qao)
  (e__law_word:Hd.FnAt K mg "_law_word" s_qaw)
  (e__law_name:Hd.FnAt K mg "_law_name" s_qak)
  (e__law_deed:Hd.FnAt K mg "_law_deed" s_qac)
  (e__law_letter:Hd.FnAt K mg "_law_letter" s_qag)
  (e__law_name_text:Hd.FnAt K mg "_law_name_text" s_qam)
  (e__law_letter_words:Hd.FnAt K mg "_law_letter_words" s_qai)
  (e__law_text:Hd.FnAt K mg "_law_text" s_qau)
  (e__law_same:Hd.FnAt K mg "_law_same" s_qas)
  (e_law:Hd.FnAt K mg "law" s_law)
  {d_DEEDS:Addr} (tb_DEEDS:∀{f_qaz f_qbk f_qbj f_qbh f_qbi:Addr},mg "is_bare"=some (.ref f_qaz)->mg "is_of_word"=some (.ref f_qbk)->mg "is_of_part"=some (.ref f_qbj)->mg "is_of_clause"=some (.ref f_qbh)->mg "is_of_house"=some (.ref f_qbi)->mg "DEEDS"=some (.ref d_DEEDS)/\TopD K w d_DEEDS (Zbm f_qaz f_qbk f_qbj f_qbh f_qbi))
  {d_DEED_FORMS f_DEED_FORMS_0 f_DEED_FORMS_1 f_DEED_FORMS_2 f_DEED_FORMS_3 f_DEED_FORMS_4 f_DEED_FORMS_5 f_DEED_FORMS_6 f_DEED_FORMS_7:Addr} (tb_DEED_FORMS:mg "DEED_FORMS"=some (.ref d_DEED_FORMS)/\TopD K w d_DEED_FORMS (Zax f_DEED_FORMS_0 f_DEED_FORMS_1 f_DEED_FORMS_2 f_DEED_FORMS_3 f_DEED_FORMS_4 f_DEED_FORMS_5 f_DEED_FORMS_6 f_DEED_FORMS_7)/\TupT K (Zan f_DEED_FORMS_0 f_DEED_FORMS_1 f_DEED_FORMS_2 f_DEED_FORMS_3 f_DEED_FORMS_4 f_DEED_FORMS_5 f_DEED_FORMS_6 f_DEED_FORMS_7)/\[f_DEED_FORMS_0,f_DEED_FORMS_1,f_DEED_FORMS_2,f_DEED_FORMS_3,f_DEED_FORMS_4,f_DEED_FORMS_5,f_DEED_FORMS_6,f_DEED_FORMS_7].Nodup)
  :∃fd:Ym,(∀(s:Shared) (v:Value),BindsTo s fd ⟨[v],[]⟩ [("_law_script",v)])/\∀base:Heap,FnOk P w K mg base CX0 14 fa fd ["_law_script"] (Hd.spLaw K):=by
 obtain ⟨f_qbf,fd_qbf,m_qbf,N_qbf⟩:=e_is_number
 have bd_qbf:=N_qbf.binds (ps:=["thing","least"]) fun _ _ _ _ _ _=>ln2 fun _ _=>rfl
 obtain ⟨f_qbg,fd_qbg,m_qbg,N_qbg⟩:=e_is_number_below
 have bd_qbg:=N_qbg.binds (ps:=["thing","bound"]) fun _ _ _ _ _ _=>ln2 fun _ _=>rfl
 obtain ⟨f_qbl,fd_qbl,m_qbl,N_qbl⟩:=e_is_row_of
 have bd_qbl:=N_qbl.binds (ps:=["thing","least","most"]) fun _ _ _ _ _ _=>ln3 fun _ _ _=>rfl
 obtain ⟨f_qbm,fd_qbm,m_qbm,N_qbm⟩:=e_is_word
 have bd_qbm:=N_qbm.binds (ps:=["thing"]) fun _ _ _ _ _ _=>ln1 fun _=>rfl
 obtain ⟨f_qba,fd_qba,m_qba,N_qba⟩:=e_is_clause_number
 have bd_qba:=N_qba.binds (ps:=["thing"]) fun _ _ _ _ _ _=>ln1 fun _=>rfl
 obtain ⟨f_qaz,fd_qaz,m_qaz,N_qaz⟩:=e_is_bare
 have bd_qaz:=N_qaz.binds (ps:=["parts"]) fun _ _ _ _ _ _=>ln1 fun _=>rfl
 obtain ⟨f_qbk,fd_qbk,m_qbk,N_qbk⟩:=e_is_of_word
 have bd_qbk:=N_qbk.binds (ps:=["parts"]) fun _ _ _ _ _ _=>ln1 fun _=>rfl
 obtain ⟨f_qbh,fd_qbh,m_qbh,N_qbh⟩:=e_is_of_clause
 have bd_qbh:=N_qbh.binds (ps:=["parts"]) fun _ _ _ _ _ _=>ln1 fun _=>rfl
 obtain ⟨f_qbj,fd_qbj,m_qbj,N_qbj⟩:=e_is_of_part
 have bd_qbj:=N_qbj.binds (ps:=["parts"]) fun _ _ _ _ _ _=>ln1 fun _=>rfl
 obtain ⟨f_qbi,fd_qbi,m_qbi,N_qbi⟩:=e_is_of_house
 have bd_qbi:=N_qbi.binds (ps:=["parts"]) fun _ _ _ _ _ _=>ln1 fun _=>rfl
 obtain ⟨f_qbb,fd_qbb,m_qbb,N_qbb⟩:=e_is_deed
 have bd_qbb:=N_qbb.binds (ps:=["thing"]) fun _ _ _ _ _ _=>ln1 fun _=>rfl
 obtain ⟨f_qbe,fd_qbe,m_qbe,N_qbe⟩:=e_is_letter_name
 have bd_qbe:=N_qbe.binds (ps:=["thing"]) fun _ _ _ _ _ _=>ln1 fun _=>rfl
 obtain ⟨f_qay,fd_qay,m_qay,N_qay⟩:=e_are_gots
 have bd_qay:=N_qay.binds (ps:=["thing","house","deal"]) fun _ _ _ _ _ _=>ln3 fun _ _ _=>rfl
 obtain ⟨f_qbd,fd_qbd,m_qbd,N_qbd⟩:=e_is_letter
 have bd_qbd:=N_qbd.binds (ps:=["thing"]) fun _ _ _ _ _ _=>ln1 fun _=>rfl
 obtain ⟨f_qby,fd_qby,m_qby,N_qby⟩:=e_words_in
 have bd_qby:=N_qby.binds (ps:=["line"]) fun _ _ _ _ _ _=>ln1 fun _=>rfl
 obtain ⟨f_qbc,fd_qbc,m_qbc,N_qbc⟩:=e_is_figures
 have bd_qbc:=N_qbc.binds (ps:=["word"]) fun _ _ _ _ _ _=>ln1 fun _=>rfl
 obtain ⟨f_qbo,fd_qbo,m_qbo,N_qbo⟩:=e_need
 have bd_qbo:=N_qbo.binds (ps:=["holds"]) fun _ _ _ _ _ _=>ln1 fun _=>rfl
 obtain ⟨f_qbx,fd_qbx,m_qbx,N_qbx⟩:=e_shown_name
 have bd_qbx:=N_qbx.binds (ps:=["name"]) fun _ _ _ _ _ _=>ln1 fun _=>rfl
 obtain ⟨f_qbv,fd_qbv,m_qbv,N_qbv⟩:=e_shown_deed
 have bd_qbv:=N_qbv.binds (ps:=["deed"]) fun _ _ _ _ _ _=>ln1 fun _=>rfl
 obtain ⟨f_qbw,fd_qbw,m_qbw,N_qbw⟩:=e_shown_letter
 have bd_qbw:=N_qbw.binds (ps:=["letter"]) fun _ _ _ _ _ _=>ln1 fun _=>rfl
 obtain ⟨f_qbz,fd_qbz,m_qbz,N_qbz⟩:=e_words_of
 have bd_qbz:=N_qbz.binds (ps:=["text"]) fun _ _ _ _ _ _=>ln1 fun _=>rfl
 obtain ⟨f_qbt,fd_qbt,m_qbt,N_qbt⟩:=e_read_number
 have bd_qbt:=N_qbt.binds (ps:=["word"]) fun _ _ _ _ _ _=>ln1 fun _=>rfl
 obtain ⟨f_qbs,fd_qbs,m_qbs,N_qbs⟩:=e_read_name
 have bd_qbs:=N_qbs.binds (ps:=["word"]) fun _ _ _ _ _ _=>ln1 fun _=>rfl
 obtain ⟨f_qbu,fd_qbu,m_qbu,N_qbu⟩:=e_read_prev
 have bd_qbu:=N_qbu.binds (ps:=["words"]) fun _ _ _ _ _ _=>ln1 fun _=>rfl
 obtain ⟨f_qbq,fd_qbq,m_qbq,N_qbq⟩:=e_read_gots
 have bd_qbq:=N_qbq.binds (ps:=["words"]) fun _ _ _ _ _ _=>ln1 fun _=>rfl
 obtain ⟨f_qbp,fd_qbp,m_qbp,N_qbp⟩:=e_read_deed
 have bd_qbp:=N_qbp.binds (ps:=["words"]) fun _ _ _ _ _ _=>ln1 fun _=>rfl
 obtain ⟨f_qbr,fd_qbr,m_qbr,N_qbr⟩:=e_read_letter
 have bd_qbr:=N_qbr.binds (ps:=["text"]) fun _ _ _ _ _ _=>ln1 fun _=>rfl
 obtain ⟨f_qaa,fd_qaa,m_qaa,N_qaa⟩:=e__law_cell_at
 have bd_qaa:=N_qaa.binds (ps:=["_law_script","_law_k"]) fun _ _ _ _ _ _=>ln2 fun _ _=>rfl
 obtain ⟨f_qae,fd_qae,m_qae,N_qae⟩:=e__law_left
 have bd_qae:=N_qae.binds (ps:=["_law_script","_law_k"]) fun _ _ _ _ _ _=>ln2 fun _ _=>rfl
 obtain ⟨f_qaq,fd_qaq,m_qaq,N_qaq⟩:=e__law_pick
 have bd_qaq:=N_qaq.binds (ps:=["_law_left_here","_law_many"]) fun _ _ _ _ _ _=>ln2 fun _ _=>rfl
 obtain ⟨f_qao,fd_qao,m_qao,N_qao⟩:=e__law_number
 have bd_qao:=N_qao.binds (ps:=["_law_left_here"]) fun _ _ _ _ _ _=>ln1 fun _=>rfl
 obtain ⟨f_qaw,fd_qaw,m_qaw,N_qaw⟩:=e__law_word
 have bd_qaw:=N_qaw.binds (ps:=["_law_left_here"]) fun _ _ _ _ _ _=>ln1 fun _=>rfl
 obtain ⟨f_qak,fd_qak,m_qak,N_qak⟩:=e__law_name
 have bd_qak:=N_qak.binds (ps:=["_law_left_here"]) fun _ _ _ _ _ _=>ln1 fun _=>rfl
 obtain ⟨f_qac,fd_qac,m_qac,N_qac⟩:=e__law_deed
 have bd_qac:=N_qac.binds (ps:=["_law_left_here"]) fun _ _ _ _ _ _=>ln1 fun _=>rfl
 obtain ⟨f_qag,fd_qag,m_qag,N_qag⟩:=e__law_letter
 have bd_qag:=N_qag.binds (ps:=["_law_left_here"]) fun _ _ _ _ _ _=>ln1 fun _=>rfl
 obtain ⟨f_qam,fd_qam,m_qam,N_qam⟩:=e__law_name_text
 have bd_qam:=N_qam.binds (ps:=["_law_name_here"]) fun _ _ _ _ _ _=>ln1 fun _=>rfl
 obtain ⟨f_qai,fd_qai,m_qai,N_qai⟩:=e__law_letter_words
 have bd_qai:=N_qai.binds (ps:=["_law_letter_here"]) fun _ _ _ _ _ _=>ln1 fun _=>rfl
 obtain ⟨f_qau,fd_qau,m_qau,N_qau⟩:=e__law_text
 have bd_qau:=N_qau.binds (ps:=["_law_left_here","_law_words"]) fun _ _ _ _ _ _=>ln2 fun _ _=>rfl
 obtain ⟨f_qas,fd_qas,m_qas,N_qas⟩:=e__law_same
 have bd_qas:=N_qas.binds (ps:=["_law_found","_law_due"]) fun _ _ _ _ _ _=>ln2 fun _ _=>rfl
 obtain ⟨f_law,fd_law,m_law,N_law⟩:=e_law
 obtain ⟨m_DEEDS,TD_DEEDS⟩:=tb_DEEDS m_qaz m_qbk m_qbj m_qbh m_qbi
 obtain ⟨m_DEED_FORMS,TD_DEED_FORMS,TU_DEED_FORMS,DU_DEED_FORMS⟩:=tb_DEED_FORMS
 have e:=hfa.symm.trans m_law;cases e
 have hb:∀(s:Shared) (v:Value),BindsTo s fd_law ⟨[v],[]⟩ [("_law_script",v)]:=by
  obtain ⟨oc,od,kV,doc,pm,an,cdv,ct,osl,rfl,lk,hcd⟩:=N_law.ex
  exact fun s v=>.of_eq rfl
 refine ⟨fd_law,hb,fun base=>?_⟩
 have E_qbf:=ok_qbf (P:=P) (w:=w) (base:=base) N_qbf T
 have E_qbg:=ok_qbg (P:=P) (w:=w) (base:=base) N_qbg T E_qbf m_qbf N_qbf.kp bd_qbf
 have E_qbl:=ok_qbl (P:=P) (w:=w) (base:=base) N_qbl T
 have E_qbm:=ok_qbm (P:=P) (w:=w) (base:=base) N_qbm T
 have E_qba:=ok_qba (P:=P) (w:=w) (base:=base) N_qba T E_qbg m_qbg N_qbg.kp bd_qbg
 have E_qaz:=ok_qaz (P:=P) (w:=w) (base:=base) N_qaz T
 have E_qbk:=ok_qbk (P:=P) (w:=w) (base:=base) N_qbk T E_qbm m_qbm N_qbm.kp bd_qbm
 have E_qbh:=ok_qbh (P:=P) (w:=w) (base:=base) N_qbh T E_qba m_qba N_qba.kp bd_qba
 have E_qbj:=ok_qbj (P:=P) (w:=w) (base:=base) N_qbj T E_qba m_qba N_qba.kp bd_qba E_qbg m_qbg N_qbg.kp bd_qbg
 have E_qbi:=ok_qbi (P:=P) (w:=w) (base:=base) N_qbi T E_qba m_qba N_qba.kp bd_qba E_qbm m_qbm N_qbm.kp bd_qbm
 have E_qbb:=ok_qbb (P:=P) (w:=w) (base:=base) N_qbb T m_DEEDS TD_DEEDS E_qaz m_qaz N_qaz.kp bd_qaz E_qbk m_qbk N_qbk.kp bd_qbk E_qbj m_qbj N_qbj.kp bd_qbj E_qbh m_qbh N_qbh.kp bd_qbh E_qbi m_qbi N_qbi.kp bd_qbi
 have E_qbe:=ok_qbe (P:=P) (w:=w) (base:=base) N_qbe T E_qbl m_qbl N_qbl.kp bd_qbl E_qbm m_qbm N_qbm.kp bd_qbm E_qbf m_qbf N_qbf.kp bd_qbf
 have E_qay:=ok_qay (P:=P) (w:=w) (base:=base) N_qay T E_qbl m_qbl N_qbl.kp bd_qbl E_qbe m_qbe N_qbe.kp bd_qbe
 have E_qbd:=ok_qbd (P:=P) (w:=w) (base:=base) N_qbd T E_qbl m_qbl N_qbl.kp bd_qbl E_qbe m_qbe N_qbe.kp bd_qbe E_qbf m_qbf N_qbf.kp bd_qbf E_qay m_qay N_qay.kp bd_qay E_qbb m_qbb N_qbb.kp bd_qbb
 have E_qby:=ok_qby (P:=P) (w:=w) (base:=base) N_qby T
 have E_qbc:=ok_qbc (P:=P) (w:=w) (base:=base) N_qbc T
 have E_qbo:=ok_qbo (P:=P) (w:=w) (base:=base) N_qbo T
 have E_qbx:=ok_qbx (P:=P) (w:=w) (base:=base) N_qbx T
 have E_qbv:=ok_qbv (P:=P) (w:=w) (base:=base) N_qbv T
 have E_qbw:=ok_qbw (P:=P) (w:=w) (base:=base) N_qbw T E_qbx m_qbx N_qbx.kp bd_qbx E_qbv m_qbv N_qbv.kp bd_qbv
 have E_qbz:=ok_qbz (P:=P) (w:=w) (base:=base) N_qbz T E_qbo m_qbo N_qbo.kp bd_qbo E_qby m_qby N_qby.kp bd_qby
 have E_qbt:=ok_qbt (P:=P) (w:=w) (base:=base) N_qbt T E_qbc m_qbc N_qbc.kp bd_qbc E_qbo m_qbo N_qbo.kp bd_qbo
 have E_qbs:=ok_qbs (P:=P) (w:=w) (base:=base) N_qbs T E_qbo m_qbo N_qbo.kp bd_qbo E_qbt m_qbt N_qbt.kp bd_qbt
 have E_qbu:=ok_qbu (P:=P) (w:=w) (base:=base) N_qbu T E_qbo m_qbo N_qbo.kp bd_qbo E_qbt m_qbt N_qbt.kp bd_qbt
 have E_qbq:=ok_qbq (P:=P) (w:=w) (base:=base) N_qbq T E_qbo m_qbo N_qbo.kp bd_qbo E_qbs m_qbs N_qbs.kp bd_qbs
 have E_qbp:=ok_qbp (P:=P) (w:=w) (base:=base) N_qbp T m_DEED_FORMS TD_DEED_FORMS TU_DEED_FORMS E_qbo m_qbo N_qbo.kp bd_qbo E_qbt m_qbt N_qbt.kp bd_qbt
 have E_qbr:=ok_qbr (P:=P) (w:=w) (base:=base) N_qbr T E_qbz m_qbz N_qbz.kp bd_qbz E_qbo m_qbo N_qbo.kp bd_qbo E_qbt m_qbt N_qbt.kp bd_qbt E_qbu m_qbu N_qbu.kp bd_qbu E_qbq m_qbq N_qbq.kp bd_qbq E_qbp m_qbp N_qbp.kp bd_qbp E_qbd m_qbd N_qbd.kp bd_qbd
 have E_qaa:=ok_qaa (P:=P) (w:=w) (base:=base) N_qaa T
 have E_qae:=ok_qae (P:=P) (w:=w) (base:=base) N_qae T E_qaa m_qaa N_qaa.kp bd_qaa
 have EF_qae:=okF_qae (P:=P) (w:=w) (base:=base) N_qae T E_qaa m_qaa N_qaa.kp bd_qaa
 have E_qaq:=ok_qaq (P:=P) (w:=w) (base:=base) N_qaq T
 have E_qao:=ok_qao (P:=P) (w:=w) (base:=base) N_qao T E_qaq m_qaq N_qaq.kp bd_qaq
 have E_qaw:=ok_qaw (P:=P) (w:=w) (base:=base) N_qaw T E_qaq m_qaq N_qaq.kp bd_qaq
 have E_qak:=ok_qak (P:=P) (w:=w) (base:=base) N_qak T E_qaw m_qaw N_qaw.kp bd_qaw E_qao m_qao N_qao.kp bd_qao
 have E_qac:=ok_qac (P:=P) (w:=w) (base:=base) N_qac T E_qaq m_qaq N_qaq.kp bd_qaq E_qaw m_qaw N_qaw.kp bd_qaw
 have E_qag:=ok_qag (P:=P) (w:=w) (base:=base) N_qag T E_qak m_qak N_qak.kp bd_qak E_qao m_qao N_qao.kp bd_qao E_qaq m_qaq N_qaq.kp bd_qaq E_qac m_qac N_qac.kp bd_qac
 have E_qam:=ok_qam (P:=P) (w:=w) (base:=base) N_qam T
 have E_qai:=ok_qai (P:=P) (w:=w) (base:=base) N_qai T E_qam m_qam N_qam.kp bd_qam
 have E_qau:=ok_qau (P:=P) (w:=w) (base:=base) N_qau T E_qaq m_qaq N_qaq.kp bd_qaq
 have E_qas:=ok_qas (P:=P) (w:=w) (base:=base) N_qas T m_qas N_qas.kp bd_qas
 have E_law:=ok_law (P:=P) (w:=w) (base:=base) N_law T EF_qae m_qae N_qae.kp bd_qae E_qag m_qag N_qag.kp bd_qag E_qai m_qai N_qai.kp bd_qai E_qbw m_qbw N_qbw.kp bd_qbw E_qbr m_qbr N_qbr.kp bd_qbr E_qas m_qas N_qas.kp bd_qas E_qau m_qau N_qau.kp bd_qau
 exact E_law.imp (Hd.spLaw_lift fun ns hl=>law_pure ⟨(ZbT N_qaz N_qbk (by decide)),(ZbT N_qaz N_qbj (by decide)),(ZbT N_qaz N_qbh (by decide)),(ZbT N_qaz N_qbi (by decide)),(ZbT N_qbk N_qbj (by decide)),(ZbT N_qbk N_qbh (by decide)),(ZbT N_qbk N_qbi (by decide)),(ZbT N_qbj N_qbh (by decide)),(ZbT N_qbj N_qbi (by decide)),(ZbT N_qbh N_qbi (by decide))⟩ DU_DEED_FORMS ns hl)
def bl:List Str:=["all","bool","enumerate","int","isinstance","len","max","min","range","sorted","str","tuple","zip"]
theorem hbl:bl.all (fun x=>!Hd.isHere qv (W.looseW qv ["DEEDS","HoldError","NoLetter","DEED_FORMS"]) x)=true:=by kernel_rfl
theorem said:PySem.Challenge.rw_holdword_k80_letters_shown.wellSaid=true:=by kernel_rfl
end K80
open PySem PySem.W PyProof.Rows
set_option maxRecDepth 100000 in
set_option maxHeartbeats 0 in
theorem PySem.Challenge.cw_holdword_k80_letters_shown_holds : PySem.Challenge.rw_holdword_k80_letters_shown.Holds := by
 refine holds_law K80.said fun said=>?_
 refine holds_open (q:=K80.qv) (loose:=["DEEDS","HoldError","NoLetter","DEED_FORMS"]) (Xt:=fun s=>xlAt K80.qv [] s&&recOk [] s) (XP:=XL K80.qv []) (YP:=K80.hk.says) K80.hl (Hook.of K80.hk) (Hook.keeps K80.hk) (fun s e=>xl_of s (Bool.and_eq_true_iff.mp e).1) XL.keeps (d:=⟨"law",L2.defArgs K80.s_law,L2.defBody K80.s_law,L2.defScope K80.s_law,Hd.defPos K80.s_law⟩) (kwd:=[]) (by kernel_rfl) (by kernel_rfl) (by kernel_rfl) (fun s e=>recFacts_of (Bool.and_eq_true_iff.mp e).2) 1e0 said (by kernel_rfl) ⟨rfl,rfl,rfl,rfl,rfl,by decide +kernel⟩ ⟨[.list []],by decide +kernel,by decide +kernel⟩ ?_
 refine Hd.walk (k:=14) rfl rfl ⟨rfl,by decide,by decide⟩ [83,153,154,155,156,157,158,159,160,161] fun w s₀ mg mb h as G Y h0 A fa hmg=>?_
 refine K80.all_mk hmg ⟨Hd.str_of (G.T.const "FIGURES" (.str "0123456789") (by kernel_rfl)),Hd.str_of (G.T.const "JUDGE" (.str "bell") (by kernel_rfl)),Hd.int_of (G.T.const "LONGEST_WORD" (.int 12) (by kernel_rfl)),Hd.int_of (G.T.const "MOST_CLAUSES" (.int 12) (by kernel_rfl)),Hd.int_of (G.T.const "MOST_GOTS" (.int 30) (by kernel_rfl)),Hd.int_of (G.T.const "MOST_PARTS" (.int 9) (by kernel_rfl)),Hd.str_of (G.T.const "SMALL_LETTERS" (.str "abcdefghijklmnopqrstuvwxyz") (by kernel_rfl)),Hd.nones G.T K80.hbl 0 rfl,Hd.nones G.T K80.hbl 1 rfl,Hd.nones G.T K80.hbl 2 rfl,Hd.nones G.T K80.hbl 3 rfl,Hd.nones G.T K80.hbl 4 rfl,Hd.nones G.T K80.hbl 5 rfl,Hd.nones G.T K80.hbl 6 rfl,Hd.nones G.T K80.hbl 7 rfl,Hd.nones G.T K80.hbl 8 rfl,Hd.nones G.T K80.hbl 9 rfl,Hd.nones G.T K80.hbl 10 rfl,Hd.nones G.T K80.hbl 11 rfl,Hd.nones G.T K80.hbl 12 rfl⟩ (Hd.fn_at A K80.sts_ok 0 rfl) (Hd.fn_at A K80.sts_ok 1 rfl) (Hd.fn_at A K80.sts_ok 2 rfl) (Hd.fn_at A K80.sts_ok 3 rfl) (Hd.fn_at A K80.sts_ok 4 rfl) (Hd.fn_at A K80.sts_ok 5 rfl) (Hd.fn_at A K80.sts_ok 6 rfl) (Hd.fn_at A K80.sts_ok 7 rfl) (Hd.fn_at A K80.sts_ok 8 rfl) (Hd.fn_at A K80.sts_ok 9 rfl) (Hd.fn_at A K80.sts_ok 10 rfl) (Hd.fn_at A K80.sts_ok 11 rfl) (Hd.fn_at A K80.sts_ok 12 rfl) (Hd.fn_at A K80.sts_ok 13 rfl) (Hd.fn_at A K80.sts_ok 14 rfl) (Hd.fn_at A K80.sts_ok 15 rfl) (Hd.fn_at A K80.sts_ok 16 rfl) (Hd.fn_at A K80.sts_ok 17 rfl) (Hd.fn_at A K80.sts_ok 18 rfl) (Hd.fn_at A K80.sts_ok 19 rfl) (Hd.fn_at A K80.sts_ok 20 rfl) (Hd.fn_at A K80.sts_ok 21 rfl) (Hd.fn_at A K80.sts_ok 22 rfl) (Hd.fn_at A K80.sts_ok 23 rfl) (Hd.fn_at A K80.sts_ok 24 rfl) (Hd.fn_at A K80.sts_ok 25 rfl) (Hd.fn_at A K80.sts_ok 26 rfl) (Hd.fn_at A K80.sts_ok 27 rfl) (Hd.fn_at A K80.sts_ok 28 rfl) (Hd.fn_at A K80.sts_ok 29 rfl) (Hd.fn_at A K80.sts_ok 30 rfl) (Hd.fn_at A K80.sts_ok 31 rfl) (Hd.fn_at A K80.sts_ok 32 rfl) (Hd.fn_at A K80.sts_ok 33 rfl) (Hd.fn_at A K80.sts_ok 34 rfl) (Hd.fn_at A K80.sts_ok 35 rfl) (Hd.fn_at A K80.sts_ok 36 rfl) (Hd.fn_at A K80.sts_ok 37 rfl) (Hd.fn_at A K80.sts_ok 38 rfl) (Hd.fn_at A K80.sts_ok 39 rfl) (K80.td_DEEDS G.T.g Y (h0 _ (by simp))) (K80.td_DEED_FORMS G.T.g Y (h0 _ (by simp)) (h0 _ (by simp)) (h0 _ (by simp)) (h0 _ (by simp)) (h0 _ (by simp)) (h0 _ (by simp)) (h0 _ (by simp)) (h0 _ (by simp)) (h0 _ (by simp)))