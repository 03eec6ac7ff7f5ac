import PyProof.Rows.All
import Wide.All
import OpenK.AllK
import Wide.FinOn
import Lean
import PyProof.EqAt
import PyProof.EqKinds
import PyProof.TupleCall
import PyProof.DictCompW
import PySem.SetOps
import PyProof.SetScanFacts
import PyProof.SetKind
import PyProof.TupleKey
import PyProof.DictRoadsH
import PyProof.IsRules
import PyProof.Rows.SetFrom
import PyProof.WalksMore
import PyProof.NeKinds
import KE.KSortTup
import KE.KDictOf
import PyProof.DictFindH
import PyProof.AttrMissSeq
import KE.KDictList
import PyProof.CollectWalk
import PyProof.StrBlock2
import PyProof.SeqI3
import PyProof.EnumMake
import PyProof.WalksEnum
import PyProof.DictValues
import PyProof.DictWalks
import KE.KRevSl
import PyProof.ListMulAny
import PyProof.Rows.ListMul
import PyProof.Draws
import PyProof.Rows.IntBool
import KE.KRevIter
import PyProof.Rows.FStr
import PyProof.Rows.StrNews
import PyProof.Rows.StrSplitAre
import PyProof.CallStr
import KE.KIntText
import PyProof.AutoListH
import KE.KPairComp
import PySem.Challenge.RW_holdword_k18_rows
noncomputable section
set_option hygiene false
local macro_rules
|`(1e0)=>`((by rfl))
|`(1e1)=>`((Zaf c__law_pick 3e6 1e0 (@Zaa _ _ _ _ _ (Zab 0) 3e1 1e0)))
|`(1e2)=>`(⟨rfl,rfl,rfl,by decide +kernel,rfl,by decide +kernel,by decide +kernel⟩)
|`(1e3)=>`((by lia))
|`(1e4)=>`((by decide))
|`(1e5)=>`(Yi 6e5 X.env=(false,eval e X.env)::Yi es X.env)
|`(1e6)=>`(#[.lst (ls.map Lt.P)])
|`(1e7)=>`(Value->Shared->Prop)
|`(1e8)=>`(#[.lst (ns.map .int)])
|`(1e9)=>`((mC (.int 1)))
|`(2e0)=>`((mVar 0))
|`(2e1)=>`(List (Addr×Obj))
|`(2e2)=>`((CompCx X (vs++fs) scope C s₀ H₀ ex pn))
|`(2e3)=>`((Or.inl rfl))
|`(2e4)=>`(Inv X pins σ H s)
|`(2e5)=>`((mC (.int 2)))
|`(2e6)=>`((mC (.int 0)))
|`(2e7)=>`((g2 ixQ))
|`(2e8)=>`((model X.prog X.w))
|`(2e9)=>`(PSt->M (List SV))
|`(3e0)=>`(Str->Option Value)
|`(3e1)=>`((@Zaa _ _ _ _ _ Zac Zad 1e0))
|`(3e2)=>`(some (.c k))
|`(3e3)=>`((backTo pos (Yi es X.env)).any (·.1)=false)
|`(3e4)=>`([3e2,#[d.P],#[.tup (d.hs.map .str)],#[.tup (d.ow.map .str)],#[.int d.cl],#[.tup (d.cs.map Cl.P)],#[.int w],11e9,#[.int cl.a],#[.int cl.b],#[.int cl.p],#[.int cl.w],#[.tup (cl.cs.map tupK)],#[lvP cl.lv],none])
local macro_rules
|`(3e5)=>`(#[townP sp nms ds])
|`(3e6)=>`((hr.mono 1e4))
|`(3e7)=>`((mVar 1))
|`(3e8)=>`(List Addr)
|`(3e9)=>`(List Value)
|`(4e0)=>`((by exact ⟨rfl,rfl,rfl,rfl,rfl,rfl,rfl⟩))
|`(4e1)=>`((g2 (deepP fun p q=>!eqD p q)))
|`(4e2)=>`(PSt->M SV)
|`(4e3)=>`(#[.lst (ws.map .str)])
|`(4e4)=>`((mC (.int 3)))
|`(4e5)=>`((Zas (Zau (@Zaa _ _ _ _ _ Zac (@Zaa _ _ _ _ _ Zac (@Zaa _ _ _ _ _ Zac (@Zaa _ _ _ _ _ Zac (@Zaa _ _ _ _ _ Zac (@Zaa _ _ _ _ _ Zac (@Zaa _ _ _ _ _ Zac 3e1 1e0) 1e0) 1e0) 1e0) 1e0) 1e0) 1e0))))
|`(4e6)=>`(Cal P w K mg base 1 "_law_pick" ["_law_left_here","_law_many"] (liftSp K F_l_pick))
|`(4e7)=>`(#[.dtt (dF ls).1 (dF ls).2])
|`(4e8)=>`((.int (sh.length:Int)))
|`(4e9)=>`(A.units < cLine)
|`(5e0)=>`(["_law_letter_here"])
|`(5e1)=>`((aCons (mC (.int 8)) aNil))
|`(5e2)=>`((by simp))
|`(5e3)=>`((g2 addP))
|`(5e4)=>`(some (.c C.length))
|`(5e5)=>`((mVar 2))
|`(5e6)=>`((x==("__debug__":Str))=false)
|`(5e7)=>`(some (.c a))
|`(5e8)=>`(PV->PSt->Option PSt)
|`(5e9)=>`((mVar 3))
local macro_rules
|`(6e0)=>`(some (.c D.length))
|`(6e1)=>`((model prog w))
|`(6e2)=>`(List Str)
|`(6e3)=>`((Zat hr))
|`(6e4)=>`(List Expr)
|`(6e5)=>`((e::es))
|`(6e6)=>`((hName 0))
|`(6e7)=>`(X.A.units + 64 < cLine)
|`(6e8)=>`((Zaf c__law_pick 3e6 1e0 (@Zaa _ _ _ _ _ (Zab 1) 3e1 1e0)))
|`(6e9)=>`((aCons 5e5 aNil))
|`(7e0)=>`((.lst (ls.map Lt.P)))
|`(7e1)=>`(PSt->M Bool)
|`(7e2)=>`((List Key×Addr×Value))
|`(7e3)=>`((mVar 5))
|`(7e4)=>`((nomark _))
|`(7e5)=>`((List PV))
|`(7e6)=>`((fun _ _ _ _ _ _=>ln2 fun _ _=>rfl))
|`(7e7)=>`(some (.c C2.length))
|`(7e8)=>`(Option SV)
|`(7e9)=>`(List (List Key×V))
|`(8e0)=>`(X.fn x=true\/X.env.scope.names.lookup x=some .local)
|`(8e1)=>`((.lst ps))
|`(8e2)=>`((mFn F_l_pick (aCons 3e7 5e1)))
|`(8e3)=>`((mLst aNil))
|`(8e4)=>`(⟨_,rfl⟩)
local macro_rules
|`(8e5)=>`((@Zaa _ _ _ _ _ (Zab 2) Zad 1e0))
|`(8e6)=>`((aCons 5e9 aNil))
|`(8e7)=>`((p.getD (n - 1) 0))
|`(8e8)=>`((mVar 6))
|`(8e9)=>`((ι++ι2))
|`(9e0)=>`((.tup ps))
|`(9e1)=>`((.ref s.heap.objs.size))
|`(9e2)=>`(List Key)
|`(9e3)=>`((mRet (mC (.bl false))))
|`(9e4)=>`((0 + (q:Int)))
|`(9e5)=>`((g1 lenH))
|`(9e6)=>`((aCons (mVar 4) aNil))
|`(9e7)=>`((g2 (deepP eqD)))
|`(9e8)=>`((List Key))
|`(9e9)=>`((hu64 hr))
|`(10e0)=>`((∀b u,s.heap.get? b=some u->h'.get? b=some u))
|`(10e1)=>`(#[.lst (so.map Lt.P)])
|`(10e2)=>`(#[.lst (sn.map .str)])
|`(10e3)=>`((Zag 6e3 (Zab 0) Zac))
|`(10e4)=>`((k'==Xc&&env.scope.kind==.function&&env.kindOf n==some .cell))
|`(10e5)=>`((aCons (mC (.int 9)) aNil))
|`(10e6)=>`((mFn F_l_pick (aCons 2e0 (aCons 2e5 aNil))))
|`(10e7)=>`((.int (i:Nat)))
|`(10e8)=>`([.lst [.int x,.int y]])
|`(10e9)=>`(PSt->M PF)
local macro_rules
|`(11e0)=>`((.ListComp elt [⟨tg,iter,ifs,0⟩] scope pos))
|`(11e1)=>`((mTest (mOp (g2 (inDP true)) (mVar 12) (mVar 10))))
|`(11e2)=>`((.Call (.Name x p) 6e5 [] pos))
|`(11e3)=>`(X.calm=true)
|`(11e4)=>`(CR K ι H C)
|`(11e5)=>`((@Zaa _ _ _ _ _ (Zab 3) Zad 1e0))
|`(11e6)=>`((ZaL I q 5e2))
|`(11e7)=>`(CSc X scope vs fs fr)
|`(11e8)=>`(#[.tup (dl.hs.map .str)])
|`(11e9)=>`(#[.int c])
|`(12e0)=>`((by simpa using h))
|`(12e1)=>`((by simp;lia))
|`(12e2)=>`((apos.endLine==cpos.line)=true)
|`(12e3)=>`(["_law_script","_law_k"])
|`(12e4)=>`(List Nat)
|`(12e5)=>`((.lst (ns.map .int)))
|`(12e6)=>`((mC (.int 5)))
|`(12e7)=>`((mC (.int 4)))
|`(12e8)=>`(#[.int many])
|`(12e9)=>`(HRep s.heap 8e1 u)
|`(13e0)=>`(HRep s.heap 9e0 u)
|`(13e1)=>`([.str R[i].h,.str R[i].d,.int R[i].n])
|`(13e2)=>`(#[.int now])
|`(13e3)=>`((@Zaa _ _ _ _ _ (Zab 0) Zad 1e0))
|`(13e4)=>`((@Zaa _ _ _ _ _ (Zab 4) Zad 1e0))
local macro_rules
|`(13e5)=>`((.v .non,C'.take C.length))
|`(13e6)=>`((R.map Lt.P))
|`(13e7)=>`(PSt->M 7e5)
|`(13e8)=>`(V->List V->Hp->VK->Prop)
local macro_rules
|`(tactic|sleep 1)=>`(tactic|obtain ⟨ι,ρ,C,fl,C',sr,e,d⟩:=h_)
|`(tactic|sleep 2)=>`(tactic|generalize ls.map Lt.P=LS at *)
|`(tactic|sleep 3)=>`(tactic|(obtain ⟨ι,ρ,C,z,C',sr,e,q⟩:=h;obtain ⟨x,C1,e1,e⟩:=Zah e))
|`(tactic|sleep 4)=>`(tactic|intro pins s σ H x y v u Q I rx ry h)
|`(tactic|sleep 5)=>`(tactic|(intro X hP hw hK hc i pins s σ H E I hf st hg;subst hP hw hK))
|`(tactic|sleep 6)=>`(tactic|(have a0:=a;have b0:=b;unfold HRep at a b;obtain ⟨l,us,rfl,h1,r1⟩:=a;obtain ⟨l',vs,rfl,h2,r2⟩:=b;unfold dep at hu))
|`(tactic|sleep 7)=>`(tactic|obtain ⟨ι,ρ,C,z,C',sr,e,q⟩:=h_)
|`(tactic|sleep 8)=>`(tactic|intro pins s σ H Q I h)
|`(tactic|sleep 9)=>`(tactic|intro ι H C p q vx vy z Q cr lx ly e k)
|`(tactic|sleep 10)=>`(tactic|obtain ⟨t,rfl⟩:=rx)
set_option hygiene true
open Array renaming length_toList → YX, getElem?_eq_getElem → Y1, getD_eq_getD_getElem? → Y4, getElem?_eq_none → Xl, getElem?_toList → XA, perm_iff_toList_perm → Wv, getElem?_append_left → Vq
open Array.Perm renaming refl → Vj
open Bool renaming false_ne_true → Yl, and_eq_true → Yt, false_eq_true → YT, eq_iff_iff → Vg, or_eq_true → VZ
open False renaming elim → We
open ForInStep renaming yield → Wq
open Int renaming emod_lt_of_pos → YW, emod_nonneg → Y6, toNat_natCast → XY
open List renaming getElem?_eq_getElem → Yc, getElem?_append_left → Yd, getElem?_eq_none_iff → Ye, size_toArray → Yf, append_assoc → Yj, range → Yk, getElem?_set_ne → Ym, mem_cons → Ys, map_cons → Yu, length_map → Yv, mem_singleton → Yw, mem_map → Yy, mem_append_right → YA, mem_append → YB, append_nil → YF, length_cons → YG, mem_of_getElem? → YH, getElem?_map → YI, getElem?_eq_some_iff → YK, mem_cons_of_mem → YL, all_eq_true → YM, nodup_iff_pairwise_ne → YN, lookup_cons → YO, replicate → YR, mem_cons_self → YS, zip_cons_cons → YU, getElem_mem → YV, getElem?_append_right → YY, ext_getElem? → YZ, length_append → Y0, map_map → Y2, nodup_cons → Y9, mem_append_left → Xa, getElem?_take_of_lt → Xd, map_append → Xf, nil_append → Xg, length_take → Xh, getElem?_set_self → Xk, length_set → Xm, not_mem_nil → Xn, getElem?_eq_none → Xq, set_set → Xr, any_cons → Xs, getD_eq_getElem?_getD → Xv, getElem_of_mem → Xx, mem_range → Xy, getElem_inj → XD, map_reverse → XE, mem_filter → XG, replicate_succ → XJ, length_filter_le → XR, reverse_cons → XX, filterMap_cons → X2, mem_map_of_mem → X8, find?_cons → Wo, length_nil → Wp, toArray → Wr, flatten_cons → Wt, pairwise_map → Wu, mem_of_mem_take → Ww, drop_eq_getElem_cons → Wy, map_fst_zip → Wz, length_pos_iff → WB, length_zip → WR, filter_map → WU, nodup_append → W0, length_range → W1, map_nil → W5, eq_nil_of_length_eq_zero → W9, getElem?_range → Vk, all_map → Vt, set_cons_succ → Vu, set_cons_zero → Vv, all_cons → VC, length_drop → VI, drop_length → VL, of_mem_zip → VQ
open List.Pairwise renaming imp → Vz
open List.cons renaming inj → Vd
open Nat renaming le_refl → Yh, ne_of_lt → Yn, lt_of_lt_of_le → Yr, le_trans → Yz, lt_or_ge → YJ, zero_le → Xe, ne_of_gt → XZ, lt_irrefl → X1, lt_succ_self → VJ, le_add_right → VM, le_of_lt → VO, lt_trans → VU, zero_add → V0
open Ne renaming symm → Xi
open Option renaming isSome_iff_exists → WD, map_some → Vi, isSome_map → Vy
open Option.some renaming inj → YC
open Prod renaming fst → V3
open PyProof.Rows renaming slot_tuple_getitem → Y3, callWith_type1 → XH, get?_update_seq → WO, listUpdate_at → Vc, mirror_perm → VD, SortKind → VE, AllBare → VN, listItems_at → VY, mirror_size → V6, seqEpoch_at → V7
open PySem renaming wpAny_bind → Yb, wpAny_pure → Yg, starEach → Yi, sizeLine → Yo, Program → Yx, sizeLine_eq → YE, Spec → YQ, bootBuiltins → Y8, wpAny_holding → Xb, wpAny_mono → Xj, foldedSetIterable → Xo, wpAny_newObj_type → Xp, wpAny_call_entry → Xu, compareOp → Xz, sysModules → XB, attributeBase → XF, FuncData → XM, assignEach → XU, wpAny_passesOwn → XV, mem_of_lookup → X3, wpAny_callSpecial?_slot → X4, swapsWith → X9, wpAny_typeNameOfWhole_keyiter → Wc, wpAny_typeNameOfWhole_valiter → Wd, binaryOp → Wi, tupleKind_room_in1 → Wj, letOwnedTupleGo → Wn, codeAny_builtin → Ws, wpAny_comprehension_free → WF, tupleKind → WI, behindInMarks → WJ, NameKind → WK, DictEntry → WN, wpAny_newList → WP, sliceBounds → WX, keywordEach → WY, Keyword → WZ, wpAny_dictEntries → W2, wpAny_typeOf → W3, wpAny_notOrdered_dict → W7, wpAny_standAt → Vb, call_meets → Ve, wpAny_execs_nil → Vf, codeAny → Vh, wpAny_dictEpoch → Vl, wpAny_Call_Name_kw → Vr, wpAny_setField → Vw, wpAny_truthy_bool → Vx, mainGlobals → VA, noFill_tuple_add → VH, holding → VP, concat_meets → VR, storedH → VT, wpAny_loadPart' → VV, Builtin → VW, size_of_entries → V1, backToKw → V2, wpAny_field → V4, getItem → V5, PassesOwn → V9, callerA → Uc, valueAt → Ud
open PySem.Around renaming in1_units → YD, under_plainId → Va
open PySem.Builtin.Dict renaming showsAll → XQ
open PySem.Builtin.Dict_items renaming ownsTuple → Wm, newIterator → W8
open PySem.Builtin.List renaming listExtendWith → Vm
open PySem.Builtin.Slice renaming slicePlaces → XT, sliceAdjust → Wx, sliceApplied → Vo
open PySem.Builtin.Tuple renaming tupleExact → XW, tupleItemsOf → Vp
open PySem.Calls renaming callWith_builtin → Wg, Name_function_global → Vn
open PySem.F renaming slot_dict_valueiterator_next → X0, slot_dict_keyiterator_next → Wl, args_tuple_add_2 → WE, slot_list_getattribute → WG, entry_tuple_add → WL, plainAttrs_list → WT, slot_tuple_add → WV, slot_dict_get → W6
open PySem.Heap renaming get?_push_of_some → Ya, lt_size → Yp, get?_push_size → Yq, get?_update_ne → XI, SameBut → WC, get?_update_self → W4, ExtBut → V8
open PySem.Heap.SameBut renaming update → X7
open PySem.NameKind renaming free → Xc, cell → X5
open PySem.Obj renaming mapSeq → XC, data_mapFields → WQ, mapFields → VG
open PySem.Paired renaming length → XO
open PySem.PassesOwn renaming never → Y5
open PySem.Str renaming ofString → Vs
open PySem.Value renaming ref → Y7, none → Xw, type → WW
open PySem.W renaming kas_desc → XN, kas_sort → X6, kia_one → Wa, kas_place → Wb, kas_rev → Wh, kas_asc → WA, keepIn → VB, kas_descPart → VX
open PySem.W.KasT renaming ret → Ua
open PySem.W.Looks renaming of_pure → VF
open Sum renaming inr → WH, inl → Ub
open True renaming intro → Wf
set_option backward.eqns.nonrecursive false
set_option genSizeOf false
set_option compiler.extract_closed false
set_option bootstrap.genMatcherCode false
set_option Elab.async false
set_option linter.all false
set_option maxRecDepth 100000
namespace L2
open PySem PySem.Spec PyProof.Rows
abbrev Key:=Sum Int Str
noncomputable def keyIs:Key->Value->Bool
 | .inl k,v=>Value.isInt k v
 | .inr x,v=>Value.isStrOf x v
noncomputable def keyH (w:World):Key->Int
 | .inl k=>hashInt k
 | .inr x=>hashStr w x
theorem ZaP:∀{k:Key} {v:Value},keyIs k v=true->(∃i t,k=Ub i/\v=Value.int i t)\/(∃x t,k=WH x/\v=Value.str x t)
 | .inl i,v,h=>by
  obtain ⟨t,e⟩:=Value.isInt_shape (k:=i) (v:=v) h
  exact .inl ⟨i,t,rfl,e⟩
 | .inr x,v,h=>by
  obtain ⟨t,e⟩:=Value.isStrOf_shape (x:=x) (v:=v) h
  exact .inr ⟨x,t,rfl,e⟩
theorem keyIs_int (i:Int)(t:Tok):keyIs (.inl i) (.int i t)=true:=by simp[keyIs,Value.isInt]
theorem keyIs_str (x:Str)(t:Tok):keyIs (.inr x) (.str x t)=true:=by simp[keyIs,Value.isStrOf]
theorem key_ll (a b:Int):decide ((Ub a:Key)=Ub b)=(a==b):=by
 by_cases e:a=b
 ·subst e;simp
 ·have h:¬(Ub a:Key)=Ub b:=fun q=>e (Sum.inl.inj q)
  rw[decide_eq_false h]
  exact (beq_eq_false_iff_ne.mpr e).symm
theorem key_rr (a b:Str):decide ((WH a:Key)=WH b)=decide (a=b):=by
 by_cases e:a=b
 ·subst e;simp
 ·have h:¬(WH a:Key)=WH b:=fun q=>e (Sum.inr.inj q)
  rw[decide_eq_false h,decide_eq_false e]
theorem key_lr (a:Int)(b:Str):decide ((Ub a:Key)=WH b)=false:=decide_eq_false (fun q=>nomatch q)
theorem key_rl (a:Str)(b:Int):decide ((WH a:Key)=Ub b)=false:=decide_eq_false (fun q=>nomatch q)
def mixKind (prog:Yx)(w:World):PySem.KeyKind prog w Key where
 is:=keyIs
 hash:=keyH w
 inj:=fun v a b ha hb=>by
  rcases ZaP ha with ⟨i,t,rfl,rfl⟩ | ⟨x,t,rfl,rfl⟩
  ·rcases ZaP hb with ⟨j,u,rfl,e⟩ | ⟨y,u,rfl,e⟩
   ·injection e with e1 _;rw[e1]
   ·exact nomatch e
  ·rcases ZaP hb with ⟨j,u,rfl,e⟩ | ⟨y,u,rfl,e⟩
   ·exact nomatch e
   ·injection e with e1 _;rw[e1]
 byValue:=fun k v h=>by
  rcases ZaP h with ⟨i,t,rfl,rfl⟩ | ⟨x,t,rfl,rfl⟩<;>rfl
 pyHash:=fun hv h=>by
  rcases ZaP hv with ⟨i,t,rfl,rfl⟩ | ⟨x,t,rfl,rfl⟩
  ·exact wpAny_pyHash_int h
  ·exact wpAny_pyHash_str h
 eqBool:=fun hu hv h=>by
  rcases ZaP hu with ⟨i,t,rfl,rfl⟩ | ⟨x,t,rfl,rfl⟩
  ·rcases ZaP hv with ⟨j,u,rfl,rfl⟩ | ⟨y,u,rfl,rfl⟩
   ·rw[key_ll] at h;exact wpAny_eqBool_int h
   ·rw[key_lr] at h;exact SeqAt.EqAt.int_str i t y u _ _ _ _ h
  ·rcases ZaP hv with ⟨j,u,rfl,rfl⟩ | ⟨y,u,rfl,rfl⟩
   ·rw[key_rl] at h;exact SeqAt.EqAt.str_int x t j u _ _ _ _ h
   ·rw[key_rr] at h;exact wpAny_eqBool_str h
 «strs»:=fun k x t v h=>by
  rcases ZaP h with ⟨i,u,rfl,e⟩ | ⟨y,u,rfl,e⟩
  ·exact nomatch e
  ·injection e with e1 _
   subst e1
   cases v<;>rfl
theorem mixKind_int (prog:Yx)(w:World)(i:Int)(t:Tok):(mixKind prog w).is (.inl i) (.int i t)=true:=keyIs_int i t
theorem mixKind_str (prog:Yx)(w:World)(x:Str)(t:Tok):(mixKind prog w).is (.inr x) (.str x t)=true:=keyIs_str x t
inductive V where
 | non | bl (b:Bool) | int (i:Int) | str (x:Str) | byt (b:Array UInt8) | flt (b:UInt64) | ref (a:Addr) | ty (n:String)
 deriving DecidableEq
def RelV:V->Value->Prop
 | .non,u=>u=Xw
 | .bl b,u=>u=Value.bool b
 | .int i,u=>∃t,u=Value.int i t
 | .str x,u=>∃t,u=Value.str x t
 | .byt b,u=>∃t,u=Value.bytes b t
 | .flt b,u=>∃t,u=Value.float b t
 | .ref a,u=>u=Y7 a
 | .ty n,u=>u=WW n
abbrev Vals:List V->List Value->Prop:=Paired RelV
theorem Vals.length {xs:List V}{us:3e9}(r:Vals xs us):xs.length=us.length:=XO r
theorem Vals.get:∀{xs:List V} {us:3e9} {i:Nat} {x:V},Vals xs us->xs[i]? = some x->∃u,us[i]? = some u/\RelV x u
 | _,_,_,_,.nil,e=>by simp at e
 | _,_,0,_,.cons r _,e=>by simp at e;subst e;exact ⟨_,rfl,r⟩
 | _,_,i + 1,x,.cons _ t,e=>by
  obtain ⟨u,h1,h2⟩:=Vals.get (i:=i) (x:=x) t (by simpa using e)
  exact ⟨u,by simpa using h1,h2⟩
theorem Vals.set {x:V}{u:Value}(r:RelV x u):∀{xs:List V} {us:3e9} (i:Nat),Vals xs us->Vals (xs.set i x) (us.set i u)
 | _,_,_,.nil=>.nil
 | _,_,0,.cons _ t=>.cons r t
 | _,_,i + 1,.cons q t=>.cons q (Vals.set r i t)
theorem Vals.append:∀{xs ys:List V} {us ws:3e9},Vals xs us->Vals ys ws->Vals (xs++ys) (us++ws)
 | _,_,_,_,.nil,s=>s
 | _,_,_,_,.cons r t,s=>.cons r (Vals.append t s)
theorem Vals.take:∀{xs:List V} {us:3e9} (n:Nat),Vals xs us->Vals (xs.take n) (us.take n)
 | _,_,0,_=>.nil
 | _,_,_ + 1,.nil=>.nil
 | _,_,n + 1,.cons r t=>.cons r (Vals.take n t)
theorem Vals.drop:∀{xs:List V} {us:3e9} (n:Nat),Vals xs us->Vals (xs.drop n) (us.drop n)
 | _,_,0,r=>r
 | _,_,_ + 1,.nil=>.nil
 | _,_,n + 1,.cons _ t=>Vals.drop n t
def RelO:Option V->Option Value->Prop
 | some v,some u=>RelV v u
 | none,none=>True
 | _,_=>False
def KV {κ:Type}:List (κ×V)->List (κ×Value)->Prop:=Paired fun (p:κ×V) (q:κ×Value)=>p.1=q.1/\RelV p.2 q.2
noncomputable def kV:Key->V
 | .inl i=>.int i
 | .inr x=>.str x
inductive HO where
  | lst (xs:List V)
  | tup (xs:List V)
  | dK (kvs:List (Key×V)) | dT (kvs:List (List Key×V))
  | set (S:Int->Bool) (n:Nat)
  | ins (C dx:Addr) (fs:List (Str×V))
  | own (x:Addr)
  | xd (fs:List (Str×V))
  | met (f x:Addr)
  | rng (lo hi:Int)
  | frz (o:Obj) (u:HO)
  | tbl (ps:Array Value)
  | ext (φ:Heap->Prop)
abbrev Hp:=Addr->Option HO
noncomputable def upd (H:Hp)(a:Addr)(o:HO):Hp:=fun b=>if b=a then some o else H b
theorem ZaM {H:Hp}{a:Addr}{o:HO}:upd H a o a=some o:=by unfold upd;rw[if_pos rfl]
theorem Zaw {H:Hp}{a b:Addr}{o:HO}(h:b≠a):upd H a o b=H b:=by unfold upd;rw[if_neg h]
theorem ne_of {H:Hp}{a b:Addr}{o u:HO}(h:H a=some o)(h':H b=some u)(d:o≠u):a≠b:=by
 intro e;subst e;rw[h] at h';exact d (YC h')
theorem Zap {H:Hp}{a b:Addr}{o:HO}(h:H a=some o)(h':H b=none):a≠b:=by
 intro e;subst e;rw[h] at h';cases h'
section
variable (P:Yx)(w:World)
def ObjOk (H:Hp)(h:Heap)(a:Addr):HO->Prop
 | .lst xs=>xs.length<=Yo/\∃(its:3e9) (n:Nat),Vals xs its/\h.get? a=some { cls:=.type "list",data:=.seq its.toArray n }
 | .tup xs=>xs.length<=Yo/\∃its:List Value,Vals xs its/\IsTup h a its.toArray
 | .dK kvs=>kvs.length<=Yo/\(a==XB)=false/\∃vs,KV kvs vs/\h.DictOf (mixKind P w) a vs
 | .dT kvs=>kvs.length<=Yo/\(a==XB)=false/\∃xs:List 7e2,
   Paired (fun (p:List Key×V) (q:List Key×Addr×Value)=>p.1=q.1/\H q.2.1=some (.tup (p.1.map kV))/\RelV p.2 q.2.2) kvs xs/\
   ∃o es ep,h.get? a=some o/\o.ExactDict/\o.data=.dict es ep/\es.toList=xs.map (entryOfKey (WI (mixKind P w)))/\(xs.map (·.1)).Nodup
 | .set S n=>h.SetOf (intKind P w) a S n
 | .ins C dx fs=>H dx=some (.own a)/\fs.length<=1000/\dx≠a/\h.get? a=some (W.instObj C dx)/\
   ∃mA,h.Ns1 dx mA/\(∀f,RelO (fs.lookup f) (mA f))/\PySem.Within mA (fs.map (·.1))
 | .own _=>∃o,h.get? a=some o
 | .xd fs=>∃mA,h.Ns1 a mA/\∀f,RelO (fs.lookup f) (mA f)
 | .rng lo hi=>∃t u v,h.get? a=some { cls:=.type "range",data:=.fields #[.int lo t,.int hi u,.int 1 v] }
 | .frz o u=>h.get? a=some o/\ObjOk H h a u
 | .tbl ps=>h.get? a=some { cls:=.none,data:=.fields ps }
 | .met f x=>h.get? a=some (W.methodObj (.ref f) (.ref x))
 | .ext φ=>φ h/\(∃o,h.get? a=some o)/\∀h1 h2:Heap,φ h1->(∀o,h1.get? a=some o->h2.get? a=some o)->φ h2
def HOk (H:Hp)(h:Heap):Prop:=∀a o,H a=some o->ObjOk P w H h a o
end
section
variable {P:Yx}{w:World}{H H':Hp}{h h':Heap}{a:Addr}{o:HO}
theorem ObjOk.lt (x:ObjOk P w H h a o):a < h.objs.size:=by
 cases o with
 | lst xs=>obtain ⟨_,_,_,_,e⟩:=x;exact Yp e
 | tup xs=>obtain ⟨_,_,_,p⟩:=x;exact p.lt
 | dK kvs=>obtain ⟨_,_,_,_,o,_,_,e,_⟩:=x;exact Yp e
 | dT kvs=>obtain ⟨_,_,_,_,o,_,_,e,_⟩:=x;exact Yp e
 | set S n=>obtain ⟨o,_,_,_,e,_⟩:=x;exact Yp e
 | ins C dx fs=>obtain ⟨_,_,_,e,_⟩:=x;exact Yp e
 | own y=>obtain ⟨_,e⟩:=x;exact Yp e
 | xd fs=>obtain ⟨_,⟨_,_,_,e,_⟩,_⟩:=x;exact Yp e
 | rng lo hi=>obtain ⟨_,_,_,e⟩:=x;exact Yp e
 | frz ob u=>obtain ⟨e,_⟩:=x;exact Yp e
 | tbl ps=>exact Yp (show h.get? a=some _ from x)
 | met f y=>exact Yp (show h.get? a=some _ from x)
 | ext φ=>obtain ⟨_,⟨_,e⟩,_⟩:=x;exact Yp e
theorem Paired.mapP {α β:Type}{F G:α->β->Prop}:∀{l₁:List α} {l₂:List β},Paired F l₁ l₂->(∀a b,F a b->G a b)->Paired G l₁ l₂
 | _,_,.nil,_=>.nil
 | _,_,.cons r t,f=>.cons (f _ _ r) (Paired.mapP t f)
theorem ObjOk.stay (x:ObjOk P w H h a o)(k:∀b u,(b=a\/H b=some (.own a))->h.get? b=some u->h'.get? b=some u)
  (ho:∀b,H b=some (.own a)->H' b=some (.own a)) (ht:∀b xs,H b=some (.tup xs)->H' b=some (.tup xs)):ObjOk P w H' h' a o:=by
 induction o with
 | lst xs=>obtain ⟨z,its,n,r,e⟩:=x;exact ⟨z,its,n,r,k _ _ (.inl rfl) e⟩
 | tup xs=>obtain ⟨z,its,r,ob,e,c⟩:=x;exact ⟨z,its,r,ob,k _ _ (.inl rfl) e,c⟩
 | dK kvs=>obtain ⟨z,y,vs,r,ob,es,ep,e,c⟩:=x;exact ⟨z,y,vs,r,ob,es,ep,k _ _ (.inl rfl) e,c⟩
 | dT kvs=>
  obtain ⟨z,y,xs,r,ob,es,ep,e,c⟩:=x
  exact ⟨z,y,xs,Paired.mapP r fun p q z=>⟨z.1,ht _ _ z.2.1,z.2.2⟩,ob,es,ep,k _ _ (.inl rfl) e,c⟩
 | set S n=>obtain ⟨ob,es,ep,t,e,c⟩:=x;exact ⟨ob,es,ep,t,k _ _ (.inl rfl) e,c⟩
 | ins C dx fs=>
  obtain ⟨d,z,ne,e,mA,⟨od,es,ep,e2,c⟩,r⟩:=x
  exact ⟨ho _ d,z,ne,k _ _ (.inl rfl) e,mA,⟨od,es,ep,k _ _ (.inr d) e2,c⟩,r⟩
 | own y=>obtain ⟨ob,e⟩:=x;exact ⟨ob,k _ _ (.inl rfl) e⟩
 | xd fs=>obtain ⟨mA,⟨od,es,ep,e,c⟩,r⟩:=x;exact ⟨mA,⟨od,es,ep,k _ _ (.inl rfl) e,c⟩,r⟩
 | rng lo hi=>obtain ⟨t,u,v,e⟩:=x;exact ⟨t,u,v,k _ _ (.inl rfl) e⟩
 | frz ob u ih=>obtain ⟨e,q⟩:=x;exact ⟨k _ _ (.inl rfl) e,ih q⟩
 | tbl ps=>
  have e:h.get? a=some { cls:=.none,data:=.fields ps }:=x
  show h'.get? a=some { cls:=.none,data:=.fields ps }
  exact k a _ (.inl rfl) e
 | met f y=>
  have e:h.get? a=some (W.methodObj (.ref f) (.ref y)):=x
  show h'.get? a=some (W.methodObj (.ref f) (.ref y))
  exact k a _ (.inl rfl) e
 | ext φ=>obtain ⟨p,⟨o,e⟩,st⟩:=x;exact ⟨st _ _ p fun o q=>k _ _ (.inl rfl) q,⟨o,k _ _ (.inl rfl) e⟩,st⟩
theorem HOk.lt (x:HOk P w H h)(e:H a=some o):a < h.objs.size:=(x a o e).lt
theorem HOk.fresh (x:HOk P w H h)(e:h.objs.size<=a):H a=none:=by
 cases q:H a with
 | none=>rfl
 | some u=>exact absurd (Yr (x.lt q) e) (X1 _)
theorem HOk.kept (x:HOk P w H h)(k:∀b u,h.get? b=some u->h'.get? b=some u):HOk P w H h':=fun a o e=>
 (x a o e).stay (fun b u _ q=>k b u q) (fun _ q=>q) fun _ _ q=>q
theorem HOk.laid (x:HOk P w H h)(k:∀b u,h.get? b=some u->h'.get? b=some u)(hp:h.objs.size<=a)(new:ObjOk P w (upd H a o) h' a o):HOk P w (upd H a o) h':=fun b u e=>by
 have hn:=x.fresh hp
 by_cases hb:b=a
 ·subst hb;rw[ZaM] at e;cases e;exact new
 ·rw[Zaw hb] at e
  exact (x b u e).stay (fun c v _ q=>k c v q) (fun c q=>by rw[Zaw (Zap q hn)];exact q) fun c xs q=>by rw[Zaw (Zap q hn)];exact q
end
def Rd (H:Hp)(a:Addr)(u:HO):Prop:=H a=some u\/∃o,H a=some (.frz o u)
theorem Rd.ok {P:Yx}{w:World}{H:Hp}{h:Heap}{a:Addr}{u:HO}(r:Rd H a u)(x:HOk P w H h):ObjOk P w H h a u:=by
 rcases r with r | ⟨o,r⟩
 ·exact x a u r
 ·obtain ⟨_,q⟩:=x a _ r
  exact q
def Mut:Option HO->Prop
 | some (.lst _)=>True
 | some (.dK _)=>True
 | some (.dT _)=>True
 | some (.set _ _)=>True
 | some (.ins _ _ _)=>True
 | some (.ext _)=>True
 | _=>False
section
variable {P:Yx}{w:World}{H:Hp}{h h':Heap}{x e:Addr}{o':HO}
theorem HOk.write (ok:HOk P w H h)(mu:Mut (H x))(he:e=x\/H e=some (.own x))(k:∀b u,b≠e->h.get? b=some u->h'.get? b=some u)(heo:∃u,h'.get? e=some u)
  (new:ObjOk P w (upd H x o') h' x o'):HOk P w (upd H x o') h':=fun b u q=>by
 have nown:∀c y,H c=some (.own y)->c≠x:=fun c y r z=>by subst z;rw[r] at mu;exact mu
 have ntup:∀c xs,H c=some (.tup xs)->c≠x:=fun c xs r z=>by subst z;rw[r] at mu;exact mu
 by_cases hb:b=x
 ·subst hb;rw[ZaM] at q;cases q;exact new
 ·rw[Zaw hb] at q
  by_cases hbe:b=e
  ·have q':H b=some (.own x):=by
    rcases he with z | z
    ·exact absurd (hbe.trans z) hb
    ·rw[hbe];exact z
   rw[q] at q';cases q'
   obtain ⟨v,hv⟩:=heo
   exact ⟨v,by rw[hbe];exact hv⟩
  ·refine (ok b u q).stay (fun c v hc r=>k c v ?_ r) (fun c r=>by rw[Zaw (nown c b r)];exact r) fun c xs r=>by rw[Zaw (ntup c xs r)];exact r
   rcases hc with rfl | hc
   ·exact hbe
   ·rintro rfl
    rcases he with z | z
    ·exact nown c b hc z
    ·rw[hc] at z;cases z;exact hb rfl
end
structure Un (fs ex:List Addr)(H H':Hp)(h h':Heap):Prop where
 keep:∀b o,h.get? b=some o->H b=none->b∉fs->b∉ex->h'.get? b=some o
 slot:∀b o,h.get? b=some o->H b=none->b∈fs->b∉ex->∃sl,h'.get? b=some { o with slots:=sl }
 free:∀b o,h.get? b=some o->H b=none->b∉ex->H' b=none
 there:∀b o,h.get? b=some o->b∉ex->∃o',h'.get? b=some o'
 tups:∀b xs,H b=some (.tup xs)->H' b=some (.tup xs)
 frzs:∀b o u,H b=some (.frz o u)->H' b=some (.frz o u)
 tbls:∀b ps,H b=some (.tbl ps)->∃more,H' b=some (.tbl (ps++more))
section
variable {fs fs' ex ex':3e8}{H H1 H2:Hp}{h h1 h2 h':Heap}{a x e:Addr}{o:HO}
theorem Un.any (u:Un fs ex H H1 h h1){b:Addr}{ob:Obj}(q:h.get? b=some ob)(n:H b=none)(hx:b∉ex):∃sl,h1.get? b=some { ob with slots:=sl }:=by
 by_cases hb:b∈fs
 ·exact u.slot b ob q n hb hx
 ·exact ⟨ob.slots,u.keep b ob q n hb hx⟩
theorem Un.kept (k:∀b u,h.get? b=some u->h'.get? b=some u):Un fs ex H H h h':=
 ⟨fun b ob q _ _ _=>k b ob q,fun b ob q _ _ _=>⟨ob.slots,k b ob q⟩,fun _ _ _ n _=>n,fun b ob q _=>⟨ob,k b ob q⟩,fun _ _ q=>q,fun _ _ _ q=>q,fun _ ps q=>⟨#[],by rw[q];simp⟩⟩
theorem Un.refl:Un fs ex H H h h:=Un.kept fun _ _ q=>q
theorem Un.laid (k:∀b u,h.get? b=some u->h'.get? b=some u)(hp:h.objs.size<=a)(hn:H a=none):Un fs ex H (upd H a o) h h' where
 keep:=fun b u q _ _ _=>k b u q
 slot:=fun b u q _ _ _=>⟨u.slots,k b u q⟩
 free:=fun b u q n _=>by rw[Zaw (Yn (Yr (Yp q) hp))];exact n
 there:=fun b u q _=>⟨u,k b u q⟩
 tups:=fun b xs q=>by rw[Zaw (Zap q hn)];exact q
 frzs:=fun b u xs q=>by rw[Zaw (Zap q hn)];exact q
 tbls:=fun b ps q=>⟨#[],by rw[Zaw (Zap q hn),q];simp⟩
theorem Un.write (mu:Mut (H x))(he:e=x\/H e=some (.own x))(k:∀b u,b≠e->h.get? b=some u->h'.get? b=some u)(heo:∃u,h'.get? e=some u):Un fs ex H (upd H x o) h h':=by
 have hx:∀b,H b=none->b≠x:=fun b n z=>by subst z;rw[n] at mu;exact mu
 have hb:∀b,H b=none->b≠e:=fun b n z=>by
  subst z
  rcases he with r | r
  ·exact hx b n r
  ·rw[n] at r;cases r
 have hm:∀b u,H b=some u->¬Mut (some u)->b≠x:=fun b u q nm z=>by subst z;rw[q] at mu;exact nm mu
 refine ⟨fun b u q n _ _=>k b u (hb b n) q,fun b u q n _ _=>⟨u.slots,k b u (hb b n) q⟩,fun b u q n _=>by rw[Zaw (hx b n)];exact n,fun b u q _=>?_,
  fun b xs q=>by rw[Zaw (hm b _ q fun z=>z)];exact q,fun b u xs q=>by rw[Zaw (hm b _ q fun z=>z)];exact q,fun b ps q=>⟨#[],by rw[Zaw (hm b _ q fun z=>z),q];simp⟩⟩
 by_cases hbe:b=e
 ·subst hbe;exact heo
 ·exact ⟨u,k b u hbe q⟩
end
noncomputable def trk (h:Heap)(H:Hp):List Addr:=(Yk h.objs.size).filter fun a=>(H a).isSome
def hidT (h:Heap)(H:Hp):Heap:=W.hideAll h (trk h H)
theorem hidT_size (h:Heap)(H:Hp):(hidT h H).objs.size=h.objs.size:=W.hideAll_size _ _
theorem hidT_get {h:Heap}{H:Hp}{b:Addr}{o:Obj}(e:h.get? b=some o)(n:H b=none):(hidT h H).get? b=some o:=
 W.hideAll_get _ e fun hm=>by
  have q:(H b).isSome=true:=(XG.mp hm).2
  rw[n] at q;simp at q
theorem of_hidT {h:Heap}{H:Hp}{b:Addr}{o:Obj}(e:(hidT h H).get? b=some o):h.get? b=some o/\H b=none:=by
 have e':h.get? b=some o:=W.of_hideAll (trk h H) e
 refine ⟨e',?_⟩
 cases q:H b with
 | none=>rfl
 | some x=>
  have hm:b∈trk h H:=XG.mpr ⟨Xy.mpr (Yp e'),by simp[q]⟩
  have z:(hidT h H).get? b=none:=W.hideAll_none (trk h H) hm
  rw[z] at e;cases e
noncomputable def allNews (g h:Heap)(L:Addr):List (Addr×Obj):=(Yk h.objs.size).filterMap fun a=>if a=L\/(g.get? a).isSome=true then none else (h.get? a).map fun o=>(a,o)
def rest (g h:Heap)(L d:Addr):List (Addr×Obj):=(allNews g h L).filter fun p=>decide (p.1≠d)
structure Mod (K:W.Frag)(mg:Str->Option Value)(base:Heap):Prop where
 kin:K.In base
 glob:base.Ns VA mg
 blt:∃mb,base.Ns builtinsNs mb/\∀x:Str,x≠"__name__"->mb x=Y8 x
 nolimit:base.NoLimit
structure Cx where
 prog:Yx
 w:World
 K:W.Frag
 mg:Str->Option Value
 base:Heap
 A:Around
 N:List Str
 s₀:Shared
 H₀:Hp
 env:Env
 outer:List Env
 stack:List Env
 ex:List Addr
 fn:Str->Bool
 calm:Bool
 pn:List (Addr×Obj)
 xe:Value->Shared->Prop
noncomputable def frs (l:List Env):List Addr:=l.filterMap (·.frame)
abbrev Cx.fs (X:Cx):List Addr:=frs X.outer
def Vis (sc:Scope)(x:Str):Prop:=sc.names.lookup x=some .local\/sc.names.lookup x=some .cell\/sc.names.lookup x=some .free
def Loc (sc:Scope)(x:Str):Prop:=sc.names.lookup x=some .local\/sc.names.lookup x=some .cell
def Look (env:Env)(h:Heap)(m:3e0)(x:Str)(u:Value):Prop:=
 (env.kindOf x=some .local/\m x=some u)\/((env.kindOf x=some .cell\/env.kindOf x=some .free)/\∃c,env.cells.lookup x=some c/\h.IsCell c (some u))
structure Cx.Ok (X:Cx):Prop where
 mod:Mod X.K X.mg X.base
 kind:X.env.scope.kind=.function
 glob:X.env.globals=VA
 blt:X.env.builtins=builtinsNs
 above:X.s₀.heap.objs.size<=X.env.locals
 inj:∀x y c,X.env.cells.lookup x=some c->X.env.cells.lookup y=some c->x=y
 has:∀x,(X.env.kindOf x=some .cell\/X.env.kindOf x=some .free)->∃c,X.env.cells.lookup x=some c
 cab:∀x c,X.fn x=true->X.env.cells.lookup x=some c->X.s₀.heap.objs.size<=c
 hd:X.calm=true->X.A.handled=none
 frames:X.A.frames=some X.stack
 stk:X.stack=X.outer\/(X.stack=X.env::X.outer/\X.env.frame=some X.env.locals)
 exf:∀b∈X.ex,b≠X.env.locals/\∀x c,X.env.cells.lookup x=some c->c≠b
 bs:∀b o,X.base.get? b=some o->X.s₀.heap.get? b=some o/\X.H₀ b=none
 bsz:X.base.objs.size<=X.s₀.heap.objs.size
 noex:∀b o,X.base.get? b=some o->b∉X.ex
 exfs:∀b∈X.ex,b∉X.fs
 funs:X.s₀.heap.FunFrames X.base X.outer
 frf:∀b∈X.fs,X.H₀ b=none
structure Inv (X:Cx)(pins:List (Addr×Obj))(σ:List (Option V))(H:Hp)(s:Shared):Prop where
 ok:X.Ok
 os:s.os=X.s₀.os
 bare:VN s.gens
 base:Un X.fs X.ex X.H₀ H X.s₀.heap s.heap
 loc:∃m,s.heap.Ns X.env.locals m/\∀(i:Nat) (x:Str) (v:V),X.N[i]? = some x->σ[i]? = some (some v)->Vis X.env.scope x->∃u,RelV v u/\Look X.env s.heap m x u
 cell:∀x c,X.env.cells.lookup x=some c->∃v,s.heap.IsCell c v
 free:H X.env.locals=none
 freeC:∀x c,X.env.cells.lookup x=some c->H c=none
 pin:∀p∈X.pn++pins,s.heap.get? p.1=some p.2/\H p.1=none/\p.1≠X.env.locals/\p.1∉X.fs/\∀v,p.2.data≠.cell v
 hok:HOk X.prog X.w H s.heap
 len:σ.length=X.N.length
section
variable {X:Cx}{pins:2e1}{σ:List (Option V)}{H H':Hp}{s:Shared}{h':Heap}
theorem Cx.Ok.nofr (ok:X.Ok){b:Addr}{o:Obj}(e:X.base.get? b=some o):b∉X.fs:=fun hb=>by
 have:=(ok.funs.mem hb).1
 rw[e] at this;cases this
theorem Inv.bs (I:2e4):∀b o,X.base.get? b=some o->s.heap.get? b=some o/\H b=none:=fun b o e=>
 ⟨I.base.keep b o (I.ok.bs b o e).1 (I.ok.bs b o e).2 (I.ok.nofr e) (I.ok.noex b o e),I.base.free b o (I.ok.bs b o e).1 (I.ok.bs b o e).2 (I.ok.noex b o e)⟩
theorem Inv.bk (I:2e4):∀b o,X.base.get? b=some o->s.heap.get? b=some o:=fun b o e=>(I.bs b o e).1
theorem Inv.mod (I:2e4):Mod X.K X.mg X.base:=I.ok.mod
theorem Inv.kIn (I:2e4):X.K.In s.heap:=I.ok.mod.kin.keeps I.bk
theorem Inv.lt (I:2e4):X.env.locals < s.heap.objs.size:=let ⟨_,hn,_⟩:=I.loc;hn.lt
theorem Inv.sz (I:2e4):X.s₀.heap.objs.size<=s.heap.objs.size:=Yz I.ok.above (VO I.lt)
theorem Inv.nofs (I:2e4){a:Addr}(h:s.heap.objs.size<=a):a∉X.fs:=fun hb=>by
 obtain ⟨_,o,ho,_⟩:=I.ok.funs.mem hb
 exact absurd (Yr (Yp ho) (Yz I.sz h)) (X1 _)
theorem Inv.cne (I:2e4):∀x c,X.env.cells.lookup x=some c->c≠X.env.locals:=fun x c e z=>by
 obtain ⟨v,o,ho,hd⟩:=I.cell x c e
 obtain ⟨m,⟨o',es,ep,ho',hd',_⟩,_⟩:=I.loc
 rw[z,ho'] at ho;cases ho;rw[hd'] at hd;cases hd
theorem Inv.funs (I:2e4):s.heap.FunFrames X.base X.outer:=by
 have all:∀(l:List Env),(∀b∈frs l,b∈X.fs)->X.s₀.heap.FunFrames X.base l->s.heap.FunFrames X.base l:=by
  intro l
  induction l with
  | nil=>intro _ _;trivial
  | cons env r ih=>
   intro hs hl
   obtain ⟨hk,⟨L,o,hf,hn,ho,hd⟩,hr⟩:=hl
   have hL:L∈X.fs:=hs L (by unfold frs;rw[X2,hf];exact YS)
   obtain ⟨sl,e⟩:=I.base.slot L o ho (I.ok.frf L hL) hL fun z=>I.ok.exfs L z hL
   exact ⟨hk,⟨L,_,hf,hn,e,hd⟩,ih (fun b hb=>hs b (by unfold frs;rw[X2,hf];exact YL _ hb)) hr⟩
 exact all X.outer (fun _ hb=>hb) I.ok.funs
theorem Inv.stack (I:2e4):s.heap.FunFrames X.base X.stack:=by
 rcases I.ok.stk with e | ⟨e,hf⟩
 ·rw[e];exact I.funs
 ·rw[e]
  obtain ⟨m,hn,_⟩:=I.loc
  refine .cons (by rw[I.ok.kind];decide) hf hn ?_ I.funs
  exact Heap.get?_none_of_le (Yz I.ok.bsz I.ok.above)
theorem Inv.stkSub (I:2e4):∀b∈frs X.stack,b∈X.env.locals::X.fs:=fun b hb=>by
 rcases I.ok.stk with e | ⟨e,hf⟩
 ·rw[e] at hb;exact YL _ hb
 ·rw[e] at hb
  unfold frs at hb
  rw[X2,hf] at hb
  exact hb
theorem Inv.stkFree (I:2e4):∀b∈frs X.stack,H b=none:=fun b hb=>by
 rcases Ys.mp (I.stkSub b hb) with e | hb
 ·rw[e];exact I.free
 ·obtain ⟨_,o,ho,_⟩:=I.ok.funs.mem hb
  exact I.base.free b o ho (I.ok.frf b hb) fun z=>I.ok.exfs b z hb
theorem Inv.step {g':Array GenState}{t':Nat}{d':Drawn}{ch:3e8}(I:2e4)
  (hch:∀b∈ch,(b∈X.ex\/X.s₀.heap.objs.size<=b)/\b≠X.env.locals/\(∀x c,X.env.cells.lookup x=some c->c≠b)/\∀p∈X.pn++pins,p.1≠b)
  (keep:∀b o,b≠X.env.locals->b∉X.fs->b∉ch->s.heap.get? b=some o->H b=none->h'.get? b=some o)
  (slot:∀b o,b≠X.env.locals->b∈X.fs->b∉ch->s.heap.get? b=some o->H b=none->∃sl,h'.get? b=some { o with slots:=sl }) (free:∀b o,b∉ch->s.heap.get? b=some o->H b=none->H' b=none)
  (there:∀b o,b∉ch->s.heap.get? b=some o->∃o',h'.get? b=some o')
  (tups:∀b xs,H b=some (.tup xs)->H' b=some (.tup xs)) (frzs:∀b o u,H b=some (.frz o u)->H' b=some (.frz o u)) (tbls:∀b ps,H b=some (.tbl ps)->∃more,H' b=some (.tbl (ps++more)))
  (ns:∀m,s.heap.Ns X.env.locals m->h'.Ns X.env.locals m) (hok:HOk X.prog X.w H' h') (hg:VN g'):
  Inv X pins σ H' { s with heap:=h',gens:=g',drawn:=d',toks:=t' }:=by
 have neL:∀b o,X.s₀.heap.get? b=some o->b≠X.env.locals:=fun b o e=>Yn (Yr (Yp e) I.ok.above)
 have neC:∀b o,X.s₀.heap.get? b=some o->b∉X.ex->b∉ch:=fun b o e hx hb=>by
  rcases (hch b hb).1 with z | z
  ·exact hx z
  ·exact absurd (Yr (Yp e) z) (X1 _)
 have cellK:∀x c,X.env.cells.lookup x=some c->∀v,s.heap.IsCell c v->h'.IsCell c v:=fun x c e v h_=>by
  obtain ⟨o,ho,hd⟩:=h_
  have nch:c∉ch:=fun z=>(hch c z).2.2.1 x c e rfl
  by_cases hc:c∈X.fs
  ·obtain ⟨sl,q⟩:=slot c o (I.cne x c e) hc nch ho (I.freeC x c e)
   exact ⟨_,q,hd⟩
  ·exact ⟨o,keep c o (I.cne x c e) hc nch ho (I.freeC x c e),hd⟩
 refine ⟨I.ok,I.os,hg,⟨fun b o e n hb hx=>?_,fun b o e n hb hx=>?_,fun b o e n hx=>?_,fun b o e hx=>?_,fun b xs e=>tups b xs (I.base.tups b xs e),fun b o xs e=>frzs b o xs (I.base.frzs b o xs e),fun b ps e=>?_⟩,?_,fun x c e=>?_,?_,fun x c e=>?_,fun p hp=>?_,hok,I.len⟩
 ·exact keep b o (neL b o e) hb (neC b o e hx) (I.base.keep b o e n hb hx) (I.base.free b o e n hx)
 ·obtain ⟨sl,e1⟩:=I.base.slot b o e n hb hx
  obtain ⟨sl',e2⟩:=slot b _ (neL b o e) hb (neC b o e hx) e1 (I.base.free b o e n hx)
  exact ⟨sl',e2⟩
 ·obtain ⟨o',e1⟩:=I.base.there b o e hx
  exact free b o' (neC b o e hx) e1 (I.base.free b o e n hx)
 ·obtain ⟨o',e1⟩:=I.base.there b o e hx
  exact there b o' (neC b o e hx) e1
 ·obtain ⟨m1,e1⟩:=I.base.tbls b ps e
  obtain ⟨m2,e2⟩:=tbls b _ e1
  exact ⟨m1++m2,by rw[e2,Array.append_assoc]⟩
 ·obtain ⟨m,hn,hl⟩:=I.loc
  refine ⟨m,ns m hn,fun i x v e1 e2 e3=>?_⟩
  obtain ⟨u,r,l⟩:=hl i x v e1 e2 e3
  refine ⟨u,r,?_⟩
  rcases l with l | ⟨k,c,e,z⟩
  ·exact .inl l
  ·exact .inr ⟨k,c,e,cellK x c e _ z⟩
 ·obtain ⟨v,z⟩:=I.cell x c e
  exact ⟨v,cellK x c e v z⟩
 ·obtain ⟨m,⟨o,_,_,ho,_⟩,_⟩:=I.loc
  exact free _ o (fun z=>(hch _ z).2.1 rfl) ho I.free
 ·obtain ⟨v,o,ho,hd⟩:=I.cell x c e
  exact free c o (fun z=>(hch c z).2.2.1 x c e rfl) ho (I.freeC x c e)
 ·obtain ⟨e,n,ne,nf,d⟩:=I.pin p hp
  have nch:p.1∉ch:=fun z=>(hch p.1 z).2.2.2 p hp rfl
  exact ⟨keep p.1 p.2 ne nf nch e n,free p.1 p.2 nch e n,ne,nf,d⟩
theorem Inv.un {t':Nat}(I:2e4)(u:Un X.fs [] H H' s.heap h')(hok:HOk X.prog X.w H' h'):Inv X pins σ H' { s with heap:=h',toks:=t' }:=by
 obtain ⟨m,⟨o,es,ep,ho,r⟩,_⟩:=id I.loc
 obtain ⟨sl,hL⟩:=u.any ho I.free 5e2
 exact I.step (g':=s.gens) (d':=s.drawn) (ch:=[]) (fun _ z=>nomatch z) (fun b o _ hb _ e n=>u.keep b o e n hb 5e2) (fun b o _ hb _ e n=>u.slot b o e n hb 5e2) (fun b o _ e n=>u.free b o e n 5e2) (fun b o _ e=>u.there b o e 5e2) u.tups u.frzs u.tbls (fun m' hm=>by
  obtain ⟨o',es',ep',ho',r'⟩:=hm
  rw[ho] at ho';cases ho'
  exact ⟨_,es',ep',hL,r'⟩) hok I.bare
theorem Inv.call {g':Array GenState}{t':Nat}{d':Drawn}{ch:3e8}(I:2e4)(u:Un (frs X.stack) ch H H' s.heap h')(hok:HOk X.prog X.w H' h')(hg:VN g')
  (hch:∀b∈ch,(b∈X.ex\/X.s₀.heap.objs.size<=b)/\b≠X.env.locals/\(∀x c,X.env.cells.lookup x=some c->c≠b)/\∀p∈X.pn++pins,p.1≠b):
  Inv X pins σ H' { s with heap:=h',gens:=g',drawn:=d',toks:=t' }:=by
 obtain ⟨m,⟨o,es,ep,ho,r⟩,_⟩:=id I.loc
 obtain ⟨sl,hL⟩:=u.any ho I.free fun z=>(hch _ z).2.1 rfl
 exact I.step (ch:=ch) hch (fun b o hL hb hc e n=>u.keep b o e n (fun z=>(Ys.mp (I.stkSub b z)).elim hL hb) hc) (fun b o _ _ hc e n=>u.any e n hc) (fun b o hc e n=>u.free b o e n hc) (fun b o hc e=>u.there b o e hc) u.tups u.frzs u.tbls (fun m' hm=>by
  obtain ⟨o',es',ep',ho',r'⟩:=hm
  rw[ho] at ho';cases ho'
  exact ⟨_,es',ep',hL,r'⟩) hok hg
theorem Inv.turned {t':Nat}{it:Addr}(I:2e4)(k:∀b o,b≠it->s.heap.get? b=some o->h'.get? b=some o)(hn:H it=none)(hL:it≠X.env.locals)
  (h1:it∈X.ex\/X.s₀.heap.objs.size<=it) (h2:∀x c,X.env.cells.lookup x=some c->c≠it) (h3:∀p∈X.pn++pins,p.1≠it):Inv X pins σ H { s with heap:=h',toks:=t' }:=by
 have nit:∀b u,H b=some u->b≠it:=fun b u e z=>by rw[z,hn] at e;cases e
 refine I.step (g':=s.gens) (d':=s.drawn) (ch:=[it]) (fun b hb=>?_) (fun b o _ _ hc e _=>k b o (fun z=>hc (by simp[z])) e) (fun b o _ _ hc e _=>⟨o.slots,k b o (fun z=>hc (by simp[z])) e⟩) (fun _ _ _ _ n=>n)
  (fun b o hc e=>⟨o,k b o (fun z=>hc (by simp[z])) e⟩) (fun _ _ e=>e) (fun _ _ _ e=>e) (fun b ps e=>⟨#[],by rw[e];simp⟩) (fun m hm=>?_) (fun b u e=>?_) I.bare
 ·have e:b=it:=by simpa using hb
  subst e
  exact ⟨h1,hL,h2,h3⟩
 ·obtain ⟨o,es,ep,ho,r⟩:=hm
  exact ⟨o,es,ep,k _ o (Xi hL) ho,r⟩
 ·refine (I.hok b u e).stay (fun c v hc q=>k c v ?_ q) (fun _ q=>q) fun _ _ q=>q
  rcases hc with z | z
  ·rw[z];exact nit b u e
  ·exact nit c _ z
theorem Inv.tok (I:2e4)(t:Nat):Inv X pins σ H { s with toks:=t }:=I.un (h':=s.heap) (t':=t) Un.refl I.hok
theorem Inv.kept {t':Nat}(I:2e4)(k:∀b u,s.heap.get? b=some u->h'.get? b=some u):Inv X pins σ H { s with heap:=h',toks:=t' }:=I.un (Un.kept k) (I.hok.kept k)
theorem Inv.laid {a:Addr}{o:HO}{t':Nat}(I:2e4)(k:∀b u,s.heap.get? b=some u->h'.get? b=some u)(hp:s.heap.objs.size<=a)(new:ObjOk X.prog X.w (upd H a o) h' a o):
  Inv X pins σ (upd H a o) { s with heap:=h',toks:=t' }:=I.un (Un.laid k hp (I.hok.fresh hp)) (I.hok.laid k hp new)
theorem Inv.write {x e:Addr}{o:HO}{t':Nat}(I:2e4)(mu:Mut (H x))(he:e=x\/H e=some (.own x))(k:∀b u,b≠e->s.heap.get? b=some u->h'.get? b=some u)(heo:∃u,h'.get? e=some u)
  (new:ObjOk X.prog X.w (upd H x o) h' x o):Inv X pins σ (upd H x o) { s with heap:=h',toks:=t' }:=I.un (Un.write mu he k heo) (I.hok.write mu he k heo new)
theorem Inv.pins_of {pins':2e1}(I:2e4)(h:∀p∈pins',s.heap.get? p.1=some p.2/\H p.1=none/\p.1≠X.env.locals/\p.1∉X.fs/\∀v,p.2.data≠.cell v):Inv X pins' σ H s:=
 ⟨I.ok,I.os,I.bare,I.base,I.loc,I.cell,I.free,I.freeC,fun p hp=>(YB.mp hp).elim (fun z=>I.pin p (Xa _ z)) (h p),I.hok,I.len⟩
theorem nodup_ix {N:6e2}(hN:N.Nodup){i j:Nat}{x:Str}(a:N[i]? = some x)(b:N[j]? = some x):i=j:=by
 obtain ⟨h1,e1⟩:=YK.mp a
 obtain ⟨h2,e2⟩:=YK.mp b
 exact (XD hN).mp (e1.trans e2.symm)
theorem store_ok2 {M:Model}{A:Around}{E:1e7}{i:Nat}{x:Str}{v:V}{u:Value}{Q:Unit->Shared->Prop}(I:2e4)(hN:X.N.Nodup)(hi:X.N[i]? = some x)(hx:Loc X.env.scope x)(r:RelV v u)
  (h:∀s',Inv X pins (σ.set i (some v)) H s'->(∃a,WC a s.heap s'.heap/\(a=X.env.locals\/X.env.cells.lookup x=some a))->Q () s') (hf:8e0:=by first | exact .inl rfl | exact .inr rfl | assumption):wpAny M A (storeName X.env x u) Q E s:=by
 obtain ⟨m,hn,hl⟩:=id I.loc
 have hcls:(X.env.scope.kind==.class||(X.env.scope.kind==.module&&X.env.locals != X.env.globals))=false:=by rw[I.ok.kind];rfl
 have hiσ:i < σ.length:=by rw[I.len];exact (YK.mp hi).1
 have cne:=I.cne
 have tracked:∀{a:Addr} {h':Heap},(∃o,s.heap.get? a=some o/\H a=none)->WC a s.heap h'->HOk X.prog X.w H h':=fun {a h'} ha hs b ob e=>by
  obtain ⟨_,_,hfree⟩:=ha
  refine (I.hok b ob e).stay (fun c w' hc q=>(hs.2 c ?_).trans q) (fun _ q=>q) fun _ _ q=>q
  rintro rfl
  rcases hc with rfl | hc
  ·rw[hfree] at e;cases e
  ·rw[hfree] at hc;cases hc
 rcases hx with hk | hk
 ·refine wpAny_storeName_local hk hn (fun h' hn' hs=>?_) hcls
  obtain ⟨oL,_,_,hoL,_⟩:=id hn
  refine h _ ⟨I.ok,I.os,I.bare,⟨fun b o e n hb hx=>?_,fun b o e n hb hx=>?_,I.base.free,fun b o e hx=>?_,I.base.tups,I.base.frzs,I.base.tbls⟩,⟨_,hn',fun j y v' e1 e2 e3=>?_⟩,fun y c e=>?_,I.free,I.freeC,fun p hp=>?_,tracked ⟨oL,hoL,I.free⟩ hs,by simpa using I.len⟩ ⟨_,hs,.inl rfl⟩
  ·exact (hs.2 b (Yn (Yr (Yp e) I.ok.above))).trans (I.base.keep b o e n hb hx)
  ·obtain ⟨sl,e1⟩:=I.base.slot b o e n hb hx
   exact ⟨sl,(hs.2 b (Yn (Yr (Yp e) I.ok.above))).trans e1⟩
  ·obtain ⟨o',e1⟩:=I.base.there b o e hx
   exact ⟨o',(hs.2 b (Yn (Yr (Yp e) I.ok.above))).trans e1⟩
  ·by_cases hj:j=i
   ·subst hj
    rw[hi] at e1;cases e1
    rw[Xk hiσ] at e2
    cases e2
    exact ⟨u,r,.inl ⟨hk,by simp⟩⟩
   ·rw[Ym (Xi hj)] at e2
    obtain ⟨u',r',q⟩:=hl j y v' e1 e2 e3
    refine ⟨u',r',?_⟩
    rcases q with ⟨k,e⟩ | ⟨k,c,e,z⟩
    ·refine .inl ⟨k,?_⟩
     have:y≠x:=fun e=>hj (nodup_ix hN e1 (e ▸ hi))
     simp[this,e]
    ·exact .inr ⟨k,c,e,z.sameBut hs (cne y c e)⟩
  ·obtain ⟨w',z⟩:=I.cell y c e
   exact ⟨w',z.sameBut hs (cne y c e)⟩
  ·obtain ⟨e,n,ne,nf,d⟩:=I.pin p hp
   exact ⟨(hs.2 p.1 ne).trans e,n,ne,nf,d⟩
 ·have hfn:X.fn x=true:=by
   rcases hf with z | z
   ·exact z
   ·rw[z] at hk;cases hk
  obtain ⟨c,hc⟩:=I.ok.has x (.inl hk)
  obtain ⟨w',z⟩:=I.cell x c hc
  refine wpAny_storeName_cell I.ok.kind hk hc z (fun h' hc' hs=>?_)
  obtain ⟨oc,hoc,hocd⟩:=id z
  refine h { s with heap:=h' } ⟨I.ok,I.os,I.bare,⟨fun b o e n hb hx=>?_,fun b o e n hb hx=>?_,I.base.free,fun b o e hx=>?_,I.base.tups,I.base.frzs,I.base.tbls⟩,⟨m,hn.sameBut hs (Xi (cne x c hc)),fun j y v' e1 e2 e3=>?_⟩,fun y c' e=>?_,I.free,I.freeC,fun p hp=>?_,tracked ⟨oc,hoc,I.freeC x c hc⟩ hs,by simpa using I.len⟩ ⟨c,hs,.inr hc⟩
  ·exact (hs.2 b (Yn (Yr (Yp e) (I.ok.cab x c hfn hc)))).trans (I.base.keep b o e n hb hx)
  ·obtain ⟨sl,e1⟩:=I.base.slot b o e n hb hx
   exact ⟨sl,(hs.2 b (Yn (Yr (Yp e) (I.ok.cab x c hfn hc)))).trans e1⟩
  ·obtain ⟨o',e1⟩:=I.base.there b o e hx
   exact ⟨o',(hs.2 b (Yn (Yr (Yp e) (I.ok.cab x c hfn hc)))).trans e1⟩
  ·by_cases hj:j=i
   ·subst hj
    rw[hi] at e1;cases e1
    rw[Xk hiσ] at e2
    cases e2
    exact ⟨u,r,.inr ⟨.inl hk,c,hc,hc'⟩⟩
   ·rw[Ym (Xi hj)] at e2
    obtain ⟨u',r',q⟩:=hl j y v' e1 e2 e3
    refine ⟨u',r',?_⟩
    rcases q with q | ⟨k,c',e,z'⟩
    ·exact .inl q
    ·refine .inr ⟨k,c',e,z'.sameBut hs ?_⟩
     rintro rfl
     exact hj (nodup_ix hN e1 (I.ok.inj _ _ _ e hc ▸ hi))
  ·by_cases hcc:c'=c
   ·subst hcc;exact ⟨_,hc'⟩
   ·obtain ⟨w2,z2⟩:=I.cell y c' e
    exact ⟨w2,z2.sameBut hs hcc⟩
  ·obtain ⟨e,n,ne,nf,d⟩:=I.pin p hp
   refine ⟨(hs.2 p.1 ?_).trans e,n,ne,nf,d⟩
   intro q
   rw[q,hoc] at e
   have q':oc=p.2:=YC e
   exact d w' (by rw[←q'];exact hocd)
theorem store_ok {M:Model}{A:Around}{E:1e7}{i:Nat}{x:Str}{v:V}{u:Value}{Q:Unit->Shared->Prop}(I:2e4)(hN:X.N.Nodup)(hi:X.N[i]? = some x)(hx:Loc X.env.scope x)(r:RelV v u)
  (h:∀s',Inv X pins (σ.set i (some v)) H s'->Q () s') (hf:8e0:=by first | exact .inl rfl | exact .inr rfl | assumption):wpAny M A (storeName X.env x u) Q E s:=
 store_ok2 I hN hi hx r (fun s' I' _=>h s' I') hf
theorem Inv.call' {s':Shared}{ch:3e8}(I:2e4)(ho:s'.os=s.os)(u:Un (frs X.stack) ch H H' s.heap s'.heap)(hok:HOk X.prog X.w H' s'.heap)(hg:VN s'.gens)
  (hch:∀b∈ch,(b∈X.ex\/X.s₀.heap.objs.size<=b)/\b≠X.env.locals/\(∀x c,X.env.cells.lookup x=some c->c≠b)/\∀p∈X.pn++pins,p.1≠b):Inv X pins σ H' s':=by
 obtain ⟨h',g',d',t',o'⟩:=s'
 have e:o'=s.os:=ho
 subst e
 exact I.call (g':=g') (t':=t') (d':=d') u hok hg hch
end
abbrev XK:=Value->Option Addr->Hp->Prop
abbrev St:=List (Option V)
abbrev VK:=V->Hp->Prop
abbrev TE:=St->Hp->VK->Prop
abbrev TT:=St->Hp->(Bool->Hp->Prop)->Prop
abbrev TA:=St->Hp->(List V->Hp->Prop)->Prop
structure Ends where
 nx:St->Hp->Prop
 rt:VK
 bk:St->Hp->Prop:=fun _ _=>False
 ct:St->Hp->Prop:=fun _ _=>False
abbrev TS:=Ends->St->Hp->Prop
def EP (X:Cx)(pins:2e1)(σ:St)(Q:VK)(u:Value)(s':Shared):Prop:=∃v H',Inv X pins σ H' s'/\RelV v u/\Q v H'
def TP (X:Cx)(pins:2e1)(σ:St)(Q:Bool->Hp->Prop)(b:Bool)(s':Shared):Prop:=∃H',Inv X pins σ H' s'/\Q b H'
def AP (X:Cx)(pins:2e1)(σ:St)(Q:List V->Hp->Prop)(us:3e9)(s':Shared):Prop:=∃vs H',Inv X pins σ H' s'/\Vals vs us/\Q vs H'
def SP (X:Cx)(pins:2e1)(D:Ends)(f:Flow)(s':Shared):Prop:=
 match f with
 | .next=>∃σ' H',Inv X pins σ' H' s'/\D.nx σ' H'
 | .brk=>∃σ' H',Inv X pins σ' H' s'/\D.bk σ' H'
 | .cont=>∃σ' H',Inv X pins σ' H' s'/\D.ct σ' H'
 | .ret u=>∃v σ' H',Inv X pins σ' H' s'/\RelV v u/\D.rt v H'
def PE (X:Cx)(e:Expr)(t:TE):Prop:=
 ∀(pins:2e1) (s:Shared) (σ:St) (H:Hp) (Q:VK),Inv X pins σ H s->t σ H Q->wpAny 2e8 X.A (eval e X.env) (EP X pins σ Q) X.xe s
def PT (X:Cx)(e:Expr)(t:TT):Prop:=
 ∀(pins:2e1) (s:Shared) (σ:St) (H:Hp) (Q:Bool->Hp->Prop),Inv X pins σ H s->t σ H Q->wpAny 2e8 X.A (isTrue e X.env (eval e X.env)) (TP X pins σ Q) X.xe s
def PW (X:Cx)(e:Expr)(t:TT):Prop:=
 ∀(whole:Sem Value) (pins:2e1) (s:Shared) (σ:St) (H:Hp) (Q:Bool->Hp->Prop),Inv X pins σ H s->t σ H Q->wpAny 2e8 X.A (isTrue e X.env whole) (TP X pins σ Q) X.xe s
def PA (X:Cx)(es:6e4)(t:TA):Prop:=
 ∀(pos:Pos) (pins:2e1) (s:Shared) (σ:St) (H:Hp) (Q:List V->Hp->Prop),Inv X pins σ H s->t σ H Q->wpAny 2e8 X.A (spliced (backTo pos (Yi es X.env))) (AP X pins σ Q) X.xe s
def PS (X:Cx)(st:Stmt)(t:TS):Prop:=
 ∀(pins:2e1) (s:Shared) (σ:St) (H:Hp) (D:Ends),Inv X pins σ H s->t D σ H->wpAny 2e8 X.A (exec st X.env) (SP X pins D) X.xe s
def PSs (X:Cx)(st:List Stmt)(t:TS):Prop:=
 ∀(pins:2e1) (s:Shared) (σ:St) (H:Hp) (D:Ends),Inv X pins σ H s->t D σ H->wpAny 2e8 X.A (execs st X.env) (SP X pins D) X.xe s
theorem thn {α:Type}{t:Sem α}{Q Q':α->Shared->Prop}{M:Model}{A:Around}{E:1e7}{s:Shared}(h:wpAny M A t Q E s)(hQ:∀a s,Q a s->Q' a s):wpAny M A t Q' E s:=Xj h hQ fun _ _ x=>x
section
variable {X:Cx}
theorem bin {a b:Expr}{ta tb:TE}(ha:PE X a ta)(hb:PE X b tb){pins:2e1}{s:Shared}{σ:St}{H:Hp}{R:V->V->Hp->Prop}(I:2e4)(h:ta σ H fun x H1=>tb σ H1 fun y H2=>R x y H2)
  {α:Type} {Q:α->Shared->Prop} {f:Value->Value->Sem α}
  (hf:∀v u s2 x y H2,Inv X pins σ H2 s2->RelV x v->RelV y u->R x y H2->wpAny 2e8 X.A (f v u) Q X.xe s2):
  wpAny 2e8 X.A (eval a X.env) (fun v s₁=>wpAny 2e8 X.A (eval b X.env) (fun u s₂=>wpAny 2e8 X.A (f v u) Q X.xe s₂) X.xe s₁) X.xe s:=by
 refine thn (ha pins s σ H _ I h) fun v s1 h_=>?_
 obtain ⟨x,H1,I1,r1,q1⟩:=h_
 refine thn (hb pins s1 σ H1 _ I1 q1) fun u s2 h_=>?_
 obtain ⟨y,H2,I2,r2,q2⟩:=h_
 exact hf v u s2 x y H2 I2 r1 r2 q2
noncomputable def tVar (i:Nat):TE:=fun σ H Q=>∃v,σ[i]? = some (some v)/\Q v H
noncomputable def tC (v:V):TE:=fun _ H Q=>Q v H
theorem pe_var {i:Nat}{x:Str}{pos:Pos}(hN:X.N[i]? = some x)(hv:Vis X.env.scope x)(hd:5e6:=by decide)(hcd:(x==("__classdict__":Str))=false:=by decide):PE X (.Name x pos) (tVar i):=by
 sleep 8
 obtain ⟨v,e,h⟩:=h
 obtain ⟨m,hn,hl⟩:=I.loc
 obtain ⟨u,r,l⟩:=hl i x v hN e hv
 have fin:EP X pins σ Q u s:=⟨v,H,I,r,h⟩
 rcases l with ⟨hk,hm⟩ | ⟨hk,c,hc,hcell⟩
 ·exact wpAny_Name (wpAny_loadName_local I.ok.kind hk hn hm fin) hd
 ·rcases hk with hk | hk
  ·exact wpAny_Name (wpAny_loadName_cell I.ok.kind hk hc hcell fin) hd
  ·exact wpAny_Name (wpAny_loadName_free I.ok.kind hk hc hcell fin hcd) hd
theorem pe_int {i j pos}:PE X (.Constant (.int i) j pos) (tC (.int i)):=fun _ _ _ H _ I h=>wpAny_Constant_int ⟨.int i,H,I.tok _,8e4,h⟩
theorem pe_bl {b j pos}:PE X (.Constant (.bool b) j pos) (tC (.bl b)):=fun _ _ _ H _ I h=>Constant_bool ⟨.bl b,H,I,rfl,h⟩
theorem pe_str {x j pos}:PE X (.Constant (.str x) j pos) (tC (.str x)):=fun _ _ _ H _ I h=>Calls.Constant_str ⟨.str x,H,I.tok _,8e4,h⟩
def Gl (X:Cx)(x:Str):Prop:=X.env.kindOf x=some .globalImplicit
theorem ld_glob {E:1e7}{pins:2e1}{s:Shared}{σ:St}{H:Hp}{x:Str}{u:Value}{pos:Pos}{Q:1e7}(I:2e4)(hg:Gl X x)(hm:X.mg x=some u)(h:Q u s)
  (hd:5e6:=by decide):wpAny 2e8 X.A (eval (.Name x pos) X.env) Q E s:=
 Vn I.ok.kind hg (Calls.loadGlobal_global (by rw[I.ok.glob];exact I.mod.glob.keeps I.bk) hm h) hd
theorem Zdq {E:1e7}{pins:2e1}{s:Shared}{σ:St}{H:Hp}{x:Str}{u:Value}{pos:Pos}{Q:1e7}(I:2e4)(hg:Gl X x)(hm:X.mg x=none)(hv:Y8 x=some u)(h:Q u s)
  (hn:x≠"__name__":=by decide) (hd:5e6:=by decide):wpAny 2e8 X.A (eval (.Name x pos) X.env) Q E s:=by
 obtain ⟨mb,h1,h2⟩:=I.mod.blt
 exact Vn I.ok.kind hg (Calls.loadGlobal_builtin (by rw[I.ok.glob];exact I.mod.glob.keeps I.bk) hm (by rw[I.ok.blt];exact h1.keeps I.bk) ((h2 x hn).trans hv) h) hd
theorem pe_bltn {x:Str}{v:V}{u:Value}{pos:Pos}(hg:Gl X x)(hm:X.mg x=none)(hv:Y8 x=some u)(r:RelV v u)(hn:x≠"__name__":=by decide)(hd:5e6:=by decide):PE X (.Name x pos) (tC v):=
 fun _ _ _ H _ I h=>Zdq I hg hm hv ⟨v,H,I,r,h⟩ hn hd
variable {a b:Expr}{ta tb:TE}{pos:Pos}
variable {tA tB':TT}{rest:6e4}
noncomputable def tAnd (t u:TT):TT:=fun σ H Q=>t σ H fun c H1=>if c=true then u σ H1 Q else Q false H1
noncomputable def tOr (t u:TT):TT:=fun σ H Q=>t σ H fun c H1=>if c=true then Q true H1 else u σ H1 Q
noncomputable def tNot (t:TT):TT:=fun σ H Q=>t σ H fun c H1=>Q (!c) H1
theorem pw_and1 (ha:PT X a tA):PW X (.BoolOp .And [a] pos) tA:=by
 intro wh pins s σ H Q I h
 refine isTrue_and (thn (ha pins s σ H Q I h) fun c s1 e=>?_)
 cases c with
 | true=>exact isTrue_and_nil e
 | false=>exact e
theorem pw_or1 (ha:PT X a tA):PW X (.BoolOp .Or [a] pos) tA:=by
 intro wh pins s σ H Q I h
 refine isTrue_or (thn (ha pins s σ H Q I h) fun c s1 e=>?_)
 cases c with
 | false=>exact isTrue_or_nil e
 | true=>exact e
theorem pw_and (ha:PT X a tA)(hb:PW X (.BoolOp .And (b::rest) pos) tB'):PW X (.BoolOp .And (a::b::rest) pos) (tAnd tA tB'):=by
 intro wh pins s σ H Q I h
 refine isTrue_and (thn (ha pins s σ H _ I h) fun c s1 h_=>?_)
 obtain ⟨H1,I1,q1⟩:=h_
 cases c with
 | true=>exact hb wh pins s1 σ H1 Q I1 q1
 | false=>exact ⟨H1,I1,q1⟩
theorem pw_or (ha:PT X a tA)(hb:PW X (.BoolOp .Or (b::rest) pos) tB'):PW X (.BoolOp .Or (a::b::rest) pos) (tOr tA tB'):=by
 intro wh pins s σ H Q I h
 refine isTrue_or (thn (ha pins s σ H _ I h) fun c s1 h_=>?_)
 obtain ⟨H1,I1,q1⟩:=h_
 cases c with
 | true=>exact ⟨H1,I1,q1⟩
 | false=>exact hb wh pins s1 σ H1 Q I1 q1
theorem pt_not (ha:PT X a tA):PT X (.UnaryOp .Not a pos) (tNot tA):=by
 sleep 8
 exact isTrue_not (ha pins s σ H (fun c H1=>Q (!c) H1) I h)
noncomputable def tOrV (ta tb:TE):TE:=fun σ H Q=>ta σ H fun x H1=>∃c,x=.bl c/\if c=true then Q (.bl true) H1 else tb σ H1 Q
theorem pe_one {op}{t:TE}(h:PE X a t):PE X (.BoolOp op [a] pos) t:=fun pins s σ H Q I hw=>BoolOp_one (h pins s σ H Q I hw)
theorem pe_or (ha:PE X a ta)(hb:PE X (.BoolOp .Or (b::rest) pos) tb):PE X (.BoolOp .Or (a::b::rest) pos) (tOrV ta tb):=by
 sleep 8
 refine BoolOp_or (thn (ha pins s σ H _ I h) fun v s1 h_=>?_)
 obtain ⟨x,H1,I1,r1,q1⟩:=h_
 obtain ⟨c,rfl,q1⟩:=q1
 cases r1
 refine Vx ?_
 cases c with
 | false=>exact hb pins s1 σ H1 Q I1 q1
 | true=>exact ⟨.bl true,H1,I1,rfl,q1⟩
noncomputable def tIf (t:TT)(ta tb:TE):TE:=fun σ H Q=>t σ H fun c H1=>if c=true then ta σ H1 Q else tb σ H1 Q
theorem pe_ifExp {c:Expr}(hc:PT X c tA)(ha:PE X a ta)(hb:PE X b tb):PE X (.IfExp c a b pos) (tIf tA ta tb):=by
 sleep 8
 refine wpAny_IfExp (thn (hc pins s σ H _ I h) fun d s1 h_=>?_)
 obtain ⟨H1,I1,q1⟩:=h_
 cases d with
 | true=>exact ha pins s1 σ H1 Q I1 q1
 | false=>exact hb pins s1 σ H1 Q I1 q1
end
def SqL (K:W.Frag)(H:Hp)(a:Addr)(xs:List V):Prop:=
 Rd H a (.lst xs)\/
  ∃(o:Obj) (its:Array Value) (n:Nat),K.lookup a=some o/\o.cls=.type "list"/\o.dict=none/\o.data=.seq its n/\its.size<=Yo/\Vals xs its.toList
def SqT (K:W.Frag)(H:Hp)(a:Addr)(xs:List V):Prop:=
 Rd H a (.tup xs)\/
  ∃(o:Obj) (its:Array Value) (n:Nat),K.lookup a=some o/\o.cls=.type "tuple"/\o.data=.seq its n/\its.size<=Yo/\Vals xs its.toList
noncomputable def absV:Value->Option V
 | .none=>some .non
 | .bool b=>some (.bl b)
 | .int i _=>some (.int i)
 | .str x _=>some (.str x)
 | .bytes b _=>some (.byt b)
 | .float b _=>some (.flt b)
 | .ref a=>some (.ref a)
 | .type n=>some (.ty n)
 | _=>none
theorem RelV.abs {x:V}{u:Value}(r:RelV x u):absV u=some x:=by
 cases x with
 | non=>cases r;rfl
 | bl _=>cases r;rfl
 | int _=>obtain ⟨t,rfl⟩:=r;rfl
 | str _=>obtain ⟨t,rfl⟩:=r;rfl
 | byt _=>obtain ⟨t,rfl⟩:=r;rfl
 | flt _=>obtain ⟨t,rfl⟩:=r;rfl
 | ref _=>cases r;rfl
 | ty _=>cases r;rfl
theorem RelV.inj {x y:V}{u:Value}(r:RelV x u)(q:RelV y u):x=y:=YC (r.abs.symm.trans q.abs)
theorem Vals.inj:∀{xs ys:List V} {us:3e9},Vals xs us->Vals ys us->xs=ys
 | _,_,_,.nil,.nil=>rfl
 | _,_,_,.cons r t,.cons r' t'=>by rw[r.inj r',Vals.inj t t']
section
variable {X:Cx}{pins:2e1}{σ:St}{H:Hp}{s:Shared}{a:Addr}{xs ys:List V}
theorem SqL.of {K:W.Frag}(h:H a=some (.lst xs)):SqL K H a xs:=.inl (.inl h)
theorem Inv.list (I:2e4)(h:SqL X.K H a xs):∃its:List Value,Vals xs its/\PlainL s.heap a its.toArray/\xs.length<=sizeLine:=by
 rcases h with h | ⟨o,its,n,hk,hc,hd,hs,hz,r⟩
 ·obtain ⟨z,its,n,r,e⟩:=h.ok I.hok
  exact ⟨its,r,⟨_,n,e,rfl,rfl,rfl⟩,z⟩
 ·refine ⟨its.toList,r,⟨o,n,I.kIn a o hk,hc,hd,by simpa using hs⟩,?_⟩
  have e:=r.length
  simp only[YX] at e
  lia
theorem Inv.tuple (I:2e4)(h:SqT X.K H a xs):∃its:List Value,Vals xs its/\IsTup s.heap a its.toArray/\xs.length<=sizeLine:=by
 rcases h with h | ⟨o,its,n,hk,hc,hs,hz,r⟩
 ·obtain ⟨z,its,r,p⟩:=h.ok I.hok
  exact ⟨its,r,p,z⟩
 ·refine ⟨its.toList,r,⟨o,I.kIn a o hk,hc,n,by simpa using hs⟩,?_⟩
  have e:=r.length
  simp only[YX] at e
  lia
theorem Inv.list_inj (I:2e4)(h:SqL X.K H a xs)(h':SqL X.K H a ys):xs=ys:=by
 obtain ⟨its,r,⟨o,n,e,_,_,d⟩,_⟩:=I.list h
 obtain ⟨its',r',⟨o',n',e',_,_,d'⟩,_⟩:=I.list h'
 rw[e] at e';cases e'
 rw[d] at d'
 injection d' with d1 _
 have:its=its':=by simpa using congrArg Array.toList d1
 subst this
 exact r.inj r'
theorem Inv.tuple_inj (I:2e4)(h:SqT X.K H a xs)(h':SqT X.K H a ys):xs=ys:=by
 obtain ⟨its,r,⟨o,e,_,n,d⟩,_⟩:=I.tuple h
 obtain ⟨its',r',⟨o',e',_,n',d'⟩,_⟩:=I.tuple h'
 rw[e] at e';cases e'
 rw[d] at d'
 injection d' with d1 _
 have:its=its':=by simpa using congrArg Array.toList d1
 subst this
 exact r.inj r'
end
noncomputable abbrev Cx.wish (X:Cx)(E:1e7):Cx:={ X with xe:=E }
abbrev Cx.nox (X:Cx):Cx:=X.wish fun _ _=>False
theorem Cx.Ok.wish {X:Cx}(ok:X.Ok)(E:1e7):(X.wish E).Ok:=
 ⟨ok.mod,ok.kind,ok.glob,ok.blt,ok.above,ok.inj,ok.has,ok.cab,ok.hd,ok.frames,ok.stk,ok.exf,ok.bs,ok.bsz,ok.noex,ok.exfs,ok.funs,ok.frf⟩
theorem Cx.Ok.unwish {X:Cx}{E:1e7}(ok:(X.wish E).Ok):X.Ok:=
 ⟨ok.mod,ok.kind,ok.glob,ok.blt,ok.above,ok.inj,ok.has,ok.cab,ok.hd,ok.frames,ok.stk,ok.exf,ok.bs,ok.bsz,ok.noex,ok.exfs,ok.funs,ok.frf⟩
section
variable {X:Cx}{pins:2e1}{σ:St}{H:Hp}{s:Shared}{E:1e7}
theorem Inv.wish (I:2e4)(E:1e7):Inv (X.wish E) pins σ H s:=⟨I.ok.wish E,I.os,I.bare,I.base,I.loc,I.cell,I.free,I.freeC,I.pin,I.hok,I.len⟩
theorem Inv.unwish (I:Inv (X.wish E) pins σ H s):Inv X pins σ H s:=⟨I.ok.unwish,I.os,I.bare,I.base,I.loc,I.cell,I.free,I.freeC,I.pin,I.hok,I.len⟩
theorem SP.unwish {D:Ends}{f:Flow}{s':Shared}(h:SP (X.wish E) pins D f s'):SP X pins D f s':=by
 cases f with
 | next=>obtain ⟨σ',H',I,q⟩:=h;exact ⟨σ',H',I.unwish,q⟩
 | brk=>obtain ⟨σ',H',I,q⟩:=h;exact ⟨σ',H',I.unwish,q⟩
 | cont=>obtain ⟨σ',H',I,q⟩:=h;exact ⟨σ',H',I.unwish,q⟩
 | ret u=>obtain ⟨v,σ',H',I,r,q⟩:=h;exact ⟨v,σ',H',I.unwish,r,q⟩
theorem PSs.nox {st:List Stmt}{t:TS}(h:PSs X.nox st t):PSs X st t:=fun pins s σ H D I hw=>
 Xj (h pins s σ H D (I.wish _) hw) (fun _ _ q=>q.unwish) fun _ _ z=>We z
end
section
variable {X:Cx}{st:Stmt}{rest:List Stmt}{t u:TS}{e:Expr}{te:TE}{pos:Pos}
noncomputable def tNext:TS:=fun D σ H=>D.nx σ H
noncomputable def tSeq (t u:TS):TS:=fun D σ H=>t { D with nx:=u D } σ H
theorem pss_nil:PSs X [] tNext:=fun _ _ σ H _ I h=>Vf ⟨σ,H,I,h⟩
theorem pss_cons (h1:PS X st t)(h2:PSs X rest u):PSs X (st::rest) (tSeq t u):=by
 intro pins s σ H D I h
 refine wpAny_execs_cons (thn (h1 pins s σ H { D with nx:=u D } I h) fun f s1 q=>?_)
 cases f with
 | next=>
  obtain ⟨σ',H',I',q⟩:=q
  exact h2 pins s1 σ' H' D I' q
 | ret v=>exact q
 | brk=>exact q
 | cont=>exact q
theorem pss_one (h1:PS X st t):PSs X [st] t:=by
 intro pins s σ H D I h
 refine wpAny_execs_cons (thn (h1 pins s σ H D I h) fun f s1 q=>?_)
 cases f with
 | next=>exact Vf q
 | ret v=>exact q
 | brk=>exact q
 | cont=>exact q
theorem Inv.quiet {pins:2e1}{σ:St}{H:Hp}{s:Shared}(I:2e4):interactive X.env=false:=by simp[interactive,I.ok.kind]
noncomputable def tDrop (te:TE):TS:=fun D σ H=>te σ H fun _ H1=>D.nx σ H1
theorem ps_expr (he:PE X e te)(hs:X9 e none pos.line X.env=pure false:=by rfl):PS X (.Expr e pos) (tDrop te):=by
 intro pins s σ H D I h
 exact wpAny_Expr_any (thn (he pins s σ H _ I h) fun v s1 ⟨x,H1,I1,r1,q1⟩=>⟨σ,H1,I1,q1⟩) I.quiet hs
noncomputable def tRet (te:TE):TS:=fun D σ H=>te σ H D.rt
theorem ps_ret (he:PE X e te):PS X (.Return (some e) pos) (tRet te):=by
 intro pins s σ H D I h
 exact wpAny_Return_some (thn (he pins s σ H _ I h) fun v s1 ⟨x,H1,I1,r1,q1⟩=>⟨x,σ,H1,I1,r1,q1⟩)
noncomputable def tIfS (c:TT)(t u:TS):TS:=fun D σ H=>c σ H fun b H1=>if b=true then t D σ H1 else u D σ H1
theorem ps_if {c:Expr}{a b:List Stmt}{tc:TT}(hc:PT X c tc)(ha:PSs X a t)(hb:PSs X b u):PS X (.If c a b pos) (tIfS tc t u):=by
 intro pins s σ H D I h
 refine wpAny_If (thn (hc pins s σ H _ I h) fun d s1 h_=>?_)
 obtain ⟨H1,I1,q1⟩:=h_
 cases d with
 | true=>exact ha pins s1 σ H1 D I1 q1
 | false=>exact hb pins s1 σ H1 D I1 q1
end
abbrev TG:=V->St->Hp->(St->Hp->Prop)->Prop
abbrev TGs:=List V->St->Hp->(St->Hp->Prop)->Prop
def PG (X:Cx)(target:Expr)(t:TG):Prop:=
 ∀(pins:2e1) (s:Shared) (σ:St) (H:Hp) (v:V) (u:Value) (Q:St->Hp->Prop),Inv X pins σ H s->RelV v u->t v σ H Q->
  wpAny 2e8 X.A (assign target X.env u) (fun _ s'=>∃σ' H',Inv X pins σ' H' s'/\Q σ' H') X.xe s
def PGs (X:Cx)(ts:6e4)(t:TGs):Prop:=
 ∀(pins:2e1) (s:Shared) (σ:St) (H:Hp) (vs:List V) (us:3e9) (Q:St->Hp->Prop),Inv X pins σ H s->Vals vs us->t vs σ H Q->
  wpAny 2e8 X.A (assignInOrder ((XU ts X.env).map (·.2)) us) (fun _ s'=>∃σ' H',Inv X pins σ' H' s'/\Q σ' H') X.xe s
abbrev TSet:=V->V->V->Hp->(Hp->Prop)->Prop
def PSet (X:Cx)(t:TSet):Prop:=
 ∀(pins:2e1) (s:Shared) (σ:St) (H:Hp) (o i v:V) (ov iv u:Value) (Q:Hp->Prop),Inv X pins σ H s->RelV o ov->RelV i iv->RelV v u->t o i v H Q->
  wpAny 2e8 X.A (setItem ov iv u) (fun _ s'=>∃H',Inv X pins σ H' s'/\Q H') X.xe s
section
variable {X:Cx}{pos:Pos}
noncomputable def gName (i:Nat):TG:=fun v σ H Q=>Q (σ.set i (some v)) H
theorem pg_name {i:Nat}{x:Str}(hN:X.N.Nodup)(hi:X.N[i]? = some x)(hx:Loc X.env.scope x)(hf:8e0:=by first | exact .inl rfl | exact .inr rfl | assumption):PG X (.Name x pos) (gName i):=by
 intro pins s σ H v u Q I r h
 exact wpAny_assign_Name (store_ok I hN hi hx r (fun s' I'=>⟨_,H,I',h⟩) hf)
noncomputable def gNil:TGs:=fun vs σ H Q=>vs=[]/\Q σ H
noncomputable def gCons (t:TG)(u:TGs):TGs:=fun vs σ H Q=>∃v r,vs=v::r/\t v σ H fun σ' H'=>u r σ' H' Q
theorem pgs_nil:PGs X [] gNil:=by
 intro pins s σ H vs us Q I r h
 obtain ⟨e,h⟩:=h
 subst e
 cases r
 exact assignInOrder_nil ⟨σ,H,I,h⟩
theorem pgs_cons {e:Expr}{es:6e4}{t:TG}{u:TGs}(h1:PG X e t)(h2:PGs X es u)
  (hs:(XU 6e5 X.env).map (·.2)=assign e X.env::(XU es X.env).map (·.2):=by rfl):PGs X 6e5 (gCons t u):=by
 intro pins s σ H vs us Q I r h
 obtain ⟨v,vr,e1,h⟩:=h
 subst e1
 cases r with
 | cons r rr=>
  rw[hs]
  refine assignInOrder_cons (thn (h1 pins s σ H _ _ _ I r h) fun _ s1 h_=>?_)
  obtain ⟨σ1,H1,I1,q1⟩:=h_
  exact h2 pins s1 σ1 H1 _ _ Q I1 rr q1
noncomputable def gTup (K:W.Frag)(n:Nat)(t:TGs):TG:=fun v σ H Q=>∃a xs,v=.ref a/\SqT K H a xs/\xs.length=n/\t xs σ H Q
theorem pg_tup {es:6e4}{k:Nat}{t:TGs}{n:Nat}(hc:11e3)(h:PGs X es t)
  (hn:(XU es X.env).length=n:=by rfl) (hst:(XU es X.env).findIdx? (·.1)=none:=by rfl):PG X (.Tuple es k pos) (gTup X.K n t):=by
 intro pins s σ H v u Q I r hw
 obtain ⟨a,xs,e1,hq,hl,hw⟩:=hw
 subst e1
 cases r
 obtain ⟨its,rv,ht,hz⟩:=I.tuple hq
 refine assign_Tuple_tuple (I.ok.hd hc) ht (by simp[hn,←hl,rv.length]) hst fun h' hx=>?_
 have I1:Inv X pins σ H { s with heap:=h' }:=I.kept (t':=s.toks) fun b o e=>hx b o (Yn (Yp e)) e
 exact h pins _ σ H xs _ Q I1 (by simpa using rv) hw
noncomputable def gSub (to ti:TE)(t:TSet):TG:=fun v σ H Q=>to σ H fun o H1=>ti σ H1 fun i H2=>t o i v H2 fun H3=>Q σ H3
theorem pg_sub {o i:Expr}{to ti:TE}{t:TSet}(ho:PE X o to)(hi:PE X i ti)(hs:PSet X t)
  (ha:∀v,assign (.Subscript o i pos) X.env v=(do
   let ov ←VP [v] (eval o X.env)
   let iv ←VP [v,ov] (eval i X.env)
   standAt pos
   VP [v,ov,iv] (setItem ov iv v)
   release [v,ov,iv] []):=by intro _;rfl):PG X (.Subscript o i pos) (gSub to ti t):=by
 intro pins s σ H v u Q I r h
 rw[ha]
 refine Yb (Xb (thn (ho pins s σ H _ I h) fun ov s1 h_=>?_))
 obtain ⟨x,H1,I1,r1,q1⟩:=h_
 refine Yb (Xb (thn (hi pins s1 σ H1 _ I1 q1) fun iv s2 h_=>?_))
 obtain ⟨y,H2,I2,r2,q2⟩:=h_
 refine Yb (Vb (Yb (Xb (thn (hs pins s2 σ H2 x y v ov iv u _ I2 r1 r2 r q2) fun _ s3 h_=>?_))))
 obtain ⟨H3,I3,q3⟩:=h_
 exact wpAny_release ⟨σ,H3,I3,q3⟩
noncomputable def tAsg (te:TE)(g:TG):TS:=fun D σ H=>te σ H fun x H1=>g x σ H1 D.nx
theorem ps_asg {tg e:Expr}{te:TE}{g:TG}(he:PE X e te)(hg:PG X tg g)(hs:swapsWithSole [tg] e pos.line X.env=pure false:=by rfl)(hw:swappedStores [tg] e X.env=pure none:=by rfl)
  (h1:(XU [tg] X.env).map (·.2)=[assign tg X.env]:=by rfl):PS X (.Assign [tg] e pos) (tAsg te g):=by
 intro pins s σ H D I h
 refine wpAny_Assign_stores (thn (he pins s σ H _ I h) fun v s1 ⟨x,H1,I1,r1,q1⟩=>?_) hs hw
 rw[h1]
 exact thn (hg pins s1 σ H1 x v _ I1 r1 q1) fun _ s2 q=>q
theorem ps_set {i:Nat}{x:Str}{e:Expr}{te:TE}{pos':Pos}(hN:X.N.Nodup)(hi:X.N[i]? = some x)(hx:Loc X.env.scope x)(he:PE X e te)(hs:X9 e (some (.Name x pos')) pos.line X.env=pure false:=by rfl)(hf:8e0:=by first | exact .inl rfl | exact .inr rfl | assumption):
  PS X (.Assign [.Name x pos'] e pos) (tAsg te (gName i)):=by
 intro pins s σ H D I h
 refine wpAny_Assign_Name (thn (he pins s σ H _ I h) fun v s1 ⟨y,H1,I1,r1,q1⟩=>?_) hs
 exact store_ok I1 hN hi hx r1 (fun s2 I2=>⟨_,H1,I2,q1⟩) hf
noncomputable def tWhile (c:TT)(tb:TS):TS:=fun D σ H=>∃W:Nat->St->Hp->Prop,(∃m,W m σ H)/\∀m σ H,W m σ H->
 c σ H fun b H1=>if b=true then ∃N:St->Hp->Prop,(∀σ' H',N σ' H'->∃m',m' < m/\W m' σ' H')/\tb { D with nx:=N,ct:=N,bk:=D.nx } σ H1 else D.nx σ H1
theorem ps_while {c:Expr}{body:List Stmt}{tc:TT}{tb:TS}(hp:V9 2e8 X.A X.env X.xe)(hc:PT X c tc)(hb:PSs X body tb):PS X (.While c body [] pos) (tWhile tc tb):=by
 intro pins s σ H D I h
 obtain ⟨W,⟨m0,w0⟩,turn⟩:=h
 refine wpAny_While (codeAny_whileLoop (fun n s'=>∃σ' H',Inv X pins σ' H' s'/\W n σ' H') ?_ m0 ⟨σ,H,I,w0⟩)
 rintro n s1 ⟨σ1,H1,I1,w1⟩
 refine XV hp (thn (hc pins s1 σ1 H1 _ I1 (turn n σ1 H1 w1)) fun b s2 h_=>?_)
 obtain ⟨H2,I2,q2⟩:=h_
 cases b with
 | true=>
  obtain ⟨N,hN,q2⟩:=q2
  rw[if_pos rfl]
  refine XV hp (thn (hb pins s2 σ1 H2 _ I2 q2) fun f s3 q3=>?_)
  cases f with
  | next=>
   obtain ⟨σ3,H3,I3,n3⟩:=q3
   obtain ⟨m',hm,w3⟩:=hN σ3 H3 n3
   exact ⟨m',hm,σ3,H3,I3,w3⟩
  | cont=>
   obtain ⟨σ3,H3,I3,n3⟩:=q3
   obtain ⟨m',hm,w3⟩:=hN σ3 H3 n3
   exact ⟨m',hm,σ3,H3,I3,w3⟩
  | brk=>exact q3
  | ret v=>exact q3
 | false=>
  rw[if_neg Yl]
  exact Vf ⟨σ1,H2,I2,q2⟩
end
structure It where
 go:Nat->Hp->Prop
 yld:Nat->Hp->V->Hp->Prop
 stop:Nat->Hp->Prop
def FpOk (X:Cx)(pins:2e1)(H:Hp)(b:Addr):Prop:=
 H b=none/\b≠X.env.locals/\b∉X.fs/\(b∈X.ex\/X.s₀.heap.objs.size<=b)/\(∀x c,X.env.cells.lookup x=some c->c≠b)/\∀p∈X.pn++pins,p.1≠b
theorem Inv.fpOk {X:Cx}{pins:2e1}{σ:St}{H H':Hp}{s:Shared}{b:Addr}(I:2e4)(hb:s.heap.objs.size<=b)(hn:H' b=none):FpOk X pins H' b:=by
 refine ⟨hn,XZ (Yr I.lt hb),I.nofs hb,.inr (Yz I.sz hb),fun x c e z=>?_,fun p hp z=>?_⟩
 ·obtain ⟨v,q⟩:=I.cell x c e
  exact absurd (Yr q.lt (by rw[z];exact hb)) (X1 _)
 ·exact absurd (Yr (Yp (I.pin p hp).1) (by rw[z];exact hb)) (X1 _)
structure Turn (P:Yx)(w:World)(K:W.Frag)(tg:Expr)(J:It)(fp:List Addr)(it:Addr)(tn:Nat->Heap->Prop):Prop where
 mem:it∈fp
 obj:∀i h,tn i h->∀b∈fp,∃o,h.get? b=some o/\∀v,o.data≠.cell v
 keep:∀i h h',tn i h->(∀b∈fp,∀o,h.get? b=some o->h'.get? b=some o)->tn i h'
 item:∀(X:Cx),X.prog=P->X.w=w->X.K=K->X.calm=true->∀(i:Nat) (pins:2e1) (s:Shared) (σ:St) (H:Hp) (E:1e7),Inv X pins σ H s->(∀b∈fp,FpOk X pins H b)->tn i s.heap->J.go i H->
  wpAny (model P w) X.A (pyNext (.ref it)) (fun r s1=>∃u,r=some u/\
   wpAny (model P w) X.A (Wn tg (.ref it) u) (fun _ s2=>∃x H',Inv X pins σ H' s2/\RelV x u/\J.yld i H x H'/\tn (i + 1) s2.heap/\∀b∈fp,H' b=none) E s1) E s
 done:∀(X:Cx),X.prog=P->X.w=w->X.K=K->X.calm=true->∀(i:Nat) (pins:2e1) (s:Shared) (σ:St) (H:Hp) (E:1e7),Inv X pins σ H s->(∀b∈fp,FpOk X pins H b)->tn i s.heap->J.stop i H->
  wpAny (model P w) X.A (pyNext (.ref it)) (fun r s1=>r=none/\Inv X pins σ H s1) E s
 self:∀(A:Around) (i:Nat) (s:Shared) (Q:1e7) (E:1e7),tn i s.heap->Q (.ref it) s->wpAny (model P w) A (pyIter (.ref it)) Q E s
abbrev TI:=St->Hp->(It->Hp->Prop)->Prop
def PIE (X:Cx)(pins:2e1)(σ:St)(tg:Expr)(R:It->Hp->Prop)(itv:Value)(s2:Shared):Prop:=
 ∃(it:Addr) (fp:3e8) (tn:Nat->Heap->Prop) (J:It) (H':Hp),itv=.ref it/\Inv X pins σ H' s2/\Turn X.prog X.w X.K tg J fp it tn/\tn 0 s2.heap/\(∀b∈fp,FpOk X pins H' b)/\R J H'
def PI (X:Cx)(tg iter:Expr)(wi:TI):Prop:=
 ∀(pins:2e1) (s:Shared) (σ:St) (H:Hp) (R:It->Hp->Prop),Inv X pins σ H s->wi σ H R->
  wpAny 2e8 X.A (eval iter X.env) (fun v s1=>wpAny 2e8 X.A (pyIter v) (PIE X pins σ tg R) X.xe s1) X.xe s
theorem go_of {M:Model}{A:Around}{E:1e7}{s:Shared}{tg:Expr}{it:Addr}{u:Value}{o:Obj}{n:String}{vs:Array Value}{Q:Unit->Shared->Prop}(ho:s.heap.get? it=some o)(hc:o.cls=.type n)(hd:o.data=.fields vs)
    (hn:["enumerate","zip","dict_itemiterator","dict_reverseitemiterator","odict_iterator","itertools.zip_longest","itertools.pairwise"].contains n=false) (hQ:Q () s):wpAny M A (Wn tg (.ref it) u) Q E s:=by
  unfold Wn
  cases tg<;>first
    | exact Yg hQ
    | (cases u<;>first
        | exact Yg hQ
        | (refine Yb (wpAny_load ho ?_)
           rw[hc,hd]
           show wpAny M A (if (["enumerate","zip","dict_itemiterator","dict_reverseitemiterator","odict_iterator","itertools.zip_longest","itertools.pairwise"].contains n&&vs[0]?==some (rawInt _))=true then _ else _) Q E s
           rw[if_neg (by intro h;rw[hn,Bool.false_and] at h;cases h)]
           exact Yg hQ))
noncomputable def Itl (K:W.Frag)(a:Addr):It:=
 ⟨fun i H=>∃xs x,SqL K H a xs/\xs[i]? = some x,fun i H x H'=>H'=H/\∀xs,SqL K H a xs->xs[i]? = some x,fun i H=>∃xs,SqL K H a xs/\xs.length<=i⟩
noncomputable def Itt (K:W.Frag)(a:Addr):It:=
 ⟨fun i H=>∃xs x,SqT K H a xs/\xs[i]? = some x,fun i H x H'=>H'=H/\∀xs,SqT K H a xs->xs[i]? = some x,fun i H=>∃xs,SqT K H a xs/\xs.length<=i⟩
noncomputable def Itr (lo:Int)(n:Nat):It:=⟨fun i _=>i < n,fun i H x H'=>H'=H/\x=.int (lo + i),fun i _=>n<=i⟩
theorem turn_list {P:Yx}{w:World}{K:W.Frag}{tg:Expr}(a it:Addr):Turn P w K tg (Itl K a) [it] it (fun i h=>h.IsListIter it a i) where
 mem:=by simp
 obj:=fun i h st b hb=>by
  have e:b=it:=by simpa using hb
  subst e
  obtain ⟨o,e,c,d⟩:=st
  exact ⟨o,e,fun v z=>by rw[d] at z;cases z⟩
 keep:=fun i h h' st k=>st.at fun o e=>k it 5e2 o e
 item:=by
  sleep 5
  obtain ⟨xs,x,hq,hx⟩:=hg
  obtain ⟨its,rv,p,hz⟩:=I.list hq
  obtain ⟨u,hu,ru⟩:=rv.get hx
  obtain ⟨f0,f1,f2,f3,f4,f5⟩:=hf it 5e2
  refine wpAny_pyNext_list_item st p.isList (x:=u) (by simpa using hu) fun h' st' sb=>?_
  have I1:Inv X pins σ H { s with heap:=h' }:=I.turned (t':=s.toks) (fun b o hb e=>(sb.2 b hb).trans e) f0 f1 f3 f4 f5
  obtain ⟨o,e,c,d⟩:=id st'
  exact ⟨u,rfl,go_of (s:={ s with heap:=h' }) e c d (by decide) ⟨x,H,I1,ru,⟨rfl,fun ys hy=>by rw[I.list_inj hy hq];exact hx⟩,st',fun b hb=>(hf b hb).1⟩⟩
 done:=by
  sleep 5
  obtain ⟨xs,hq,hx⟩:=hg
  obtain ⟨its,rv,p,hz⟩:=I.list hq
  obtain ⟨f0,f1,f2,f3,f4,f5⟩:=hf it 5e2
  have hl:=rv.length
  exact wpAny_pyNext_list_end (I.ok.hd hc) st p.isList 12e1 fun h' eb=>⟨rfl,I.turned (t':=s.toks) (fun b o hb e=>eb b o hb e) f0 f1 f3 f4 f5⟩
 self:=fun _ _ _ _ _ st h=>wpAny_pyIter_listiter st h
theorem turn_tuple {P:Yx}{w:World}{K:W.Frag}{tg:Expr}(a it:Addr):Turn P w K tg (Itt K a) [it] it (fun i h=>h.IsTupleIter it a i) where
 mem:=by simp
 obj:=fun i h st b hb=>by
  have e:b=it:=by simpa using hb
  subst e
  obtain ⟨o,e,c,d⟩:=st
  exact ⟨o,e,fun v z=>by rw[d] at z;cases z⟩
 keep:=fun i h h' st k=>st.at fun o e=>k it 5e2 o e
 item:=by
  sleep 5
  obtain ⟨xs,x,hq,hx⟩:=hg
  obtain ⟨its,rv,p,hz⟩:=I.tuple hq
  obtain ⟨u,hu,ru⟩:=rv.get hx
  obtain ⟨f0,f1,f2,f3,f4,f5⟩:=hf it 5e2
  refine wpAny_pyNext_tuple_item st (show s.heap.IsTuple a its.toArray from p) (x:=u) (by simpa using hu) fun h' st' sb=>?_
  have I1:Inv X pins σ H { s with heap:=h' }:=I.turned (t':=s.toks) (fun b o hb e=>(sb.2 b hb).trans e) f0 f1 f3 f4 f5
  obtain ⟨o,e,c,d⟩:=id st'
  exact ⟨u,rfl,go_of (s:={ s with heap:=h' }) e c d (by decide) ⟨x,H,I1,ru,⟨rfl,fun ys hy=>by rw[I.tuple_inj hy hq];exact hx⟩,st',fun b hb=>(hf b hb).1⟩⟩
 done:=by
  sleep 5
  obtain ⟨xs,hq,hx⟩:=hg
  obtain ⟨its,rv,p,hz⟩:=I.tuple hq
  obtain ⟨f0,f1,f2,f3,f4,f5⟩:=hf it 5e2
  have hl:=rv.length
  exact wpAny_pyNext_tuple_end (I.ok.hd hc) st (show s.heap.IsTuple a its.toArray from p) 12e1 fun h' eb=>⟨rfl,I.turned (t':=s.toks) (fun b o hb e=>eb b o hb e) f0 f1 f3 f4 f5⟩
 self:=fun _ _ _ _ _ st h=>wpAny_pyIter_tupleiter st h
theorem turn_range {P:Yx}{w:World}{K:W.Frag}{tg:Expr}(it:Addr)(lo:Int)(n:Nat):Turn P w K tg (Itr lo n) [it] it (fun i h=>IsRangeIter h it (lo + (i:Nat) * 1) ((n:Int) - (i:Nat)) 1) where
 mem:=by simp
 obj:=fun i h st b hb=>by
  have e:b=it:=by simpa using hb
  subst e
  exact ⟨_,st,fun v z=>by
   have z':Data.fields _=Data.cell v:=z
   cases z'⟩
 keep:=fun i h h' st k=>k it 5e2 _ st
 item:=by
  sleep 5
  obtain ⟨f0,f1,f2,f3,f4,f5⟩:=hf it 5e2
  have W:=Walks.range (prog:=X.prog) (w:=X.w) (I.ok.hd hc) it lo 1 n
  refine W.item i s _ _ hg st fun v h' tk hv st' kk=>?_
  obtain ⟨t,rfl⟩:=hv
  have I1:Inv X pins σ H { s with heap:=h',toks:=tk }:=I.turned (fun b o hb e=>kk b o (by simpa using hb) e) f0 f1 f3 f4 f5
  refine ⟨_,rfl,go_of (s:={ s with heap:=h',toks:=tk }) (n:="range_iterator") st' rfl rfl (by decide) ⟨.int (lo + i),H,I1,⟨t,?_⟩,⟨rfl,rfl⟩,st',fun b hb=>(hf b hb).1⟩⟩
  rw[Int.mul_one]
 done:=by
  sleep 5
  obtain ⟨f0,f1,f2,f3,f4,f5⟩:=hf it 5e2
  exact wpAny_pyNext_range_end (I.ok.hd hc) st (by have:n<=i:=hg;lia) fun h' eb=>⟨rfl,I.turned (t':=s.toks) (fun b o hb e=>eb b o hb e) f0 f1 f3 f4 f5⟩
 self:=fun _ _ _ _ _ st h=>wpAny_pyIter_rangeiter st h
section
variable {X:Cx}{tg:Expr}
theorem range_it {pins:2e1}{σ:St}{H:Hp}{s:Shared}{R:It->Hp->Prop}{E:1e7}{lo hi:Int}{t u v:Tok}{tk:Nat}(I:2e4)(h1:-(2 ^ 62)<=lo)(h2:lo < 2 ^ 62)(h3:-(2 ^ 62)<=hi)(h4:hi < 2 ^ 62)
  (q:R (Itr lo (hi - lo).toNat) H):wpAny 2e8 X.A (pyIter 9e1) (PIE X pins σ tg R) E { s with heap:=s.heap.push { cls:=.type "range",data:=.fields #[.int lo t,.int hi u,.int 1 v] },toks:=tk }:=by
 refine wpAny_pyIter_range (IsRange.new ..) (small_one h1 h2 h3 h4) ?_
 have I1:Inv X pins σ H { s with heap:=s.heap.push { cls:=.type "range",data:=.fields #[.int lo t,.int hi u,.int 1 v] },toks:=tk }:=I.kept fun b o e=>Ya _ e
 refine ⟨(s.heap.push { cls:=.type "range",data:=.fields #[.int lo t,.int hi u,.int 1 v] }).objs.size,[(s.heap.push { cls:=.type "range",data:=.fields #[.int lo t,.int hi u,.int 1 v] }).objs.size],_,_,H,rfl,
  I1.kept (t':=tk) fun b o e=>Ya _ e,turn_range _ lo (hi - lo).toNat,?_,fun b hb=>?_,q⟩
 ·have e1:lo + ((0:Nat):Int) * 1=lo:=by simp
  have e2:(((hi - lo).toNat:Nat):Int) - ((0:Nat):Int)=Builtin.Range.rangeSize lo hi 1:=by rw[rangeSize_one];split<;>lia
  show IsRangeIter _ _ (lo + ((0:Nat):Int) * 1) ((((hi - lo).toNat:Nat):Int) - ((0:Nat):Int)) 1
  rw[e1,e2]
  exact Yq _ rfl
 ·have e:b=(s.heap.push { cls:=.type "range",data:=.fields #[.int lo t,.int hi u,.int 1 v] }).objs.size:=by simpa using hb
  subst e
  exact I1.fpOk (Yh _) (I1.hok.fresh (Yh _))
def iRng1 (ta:TA):TI:=fun σ H R=>ta σ H fun vs H1=>∃j:Int,vs=[.int j]/\-(2 ^ 62)<=j/\j < 2 ^ 62/\R (Itr 0 j.toNat) H1
theorem pi_range1 {a:Expr}{ta:TA}{p pos:Pos}(hg:Gl X "range")(hm:X.mg "range"=none)(ha:PA X [a] ta)(hs:Yi [a] X.env=[(false,eval a X.env)]:=by rfl):PI X tg (.Call (.Name "range" p) [a] [] pos) (iRng1 ta):=by
 intro pins s σ H R I h
 refine Call_ (Zdq I hg hm boot_range (XH (thn (ha pos pins s σ H _ I h) fun us s1 ⟨vs,H1,I1,r1,q1⟩=>?_) hs rfl))
 obtain ⟨j,e,q1,q2,q⟩:=q1
 subst e
 cases r1 with
 | cons r rr=>
  cases rr
  obtain ⟨t,rfl⟩:=r
  exact call_range_1 (range_it I1 1e3 1e3 q1 q2 (by simpa using q))
noncomputable def tFor (wi:TI)(g:TG)(tb:TS):TS:=fun D σ H=>wi σ H fun J H1=>∃W:Nat->Nat->St->Hp->Prop,(∃m,W 0 m σ H1)/\∀i m σ H,W i m σ H->
 (J.stop i H/\D.nx σ H)\/(J.go i H/\∃N:St->Hp->Prop,(∀σ' H',N σ' H'->∃m',m' < m/\W (i + 1) m' σ' H')/\∀x H',J.yld i H x H'->g x σ H' fun σ2 H2=>tb { D with nx:=N,ct:=N,bk:=D.nx } σ2 H2)
noncomputable def pinsAt (fp:3e8)(h:Heap):List (Addr×Obj):=fp.filterMap fun b=>(h.get? b).map fun o=>(b,o)
theorem Zbc {fp:3e8}{h:Heap}{b:Addr}{o:Obj}(hb:b∈fp)(e:h.get? b=some o):(b,o)∈pinsAt fp h:=List.mem_filterMap.mpr ⟨b,hb,by rw[e];rfl⟩
theorem of_pinsAt {fp:3e8}{h:Heap}{p:Addr×Obj}(hp:p∈pinsAt fp h):p.1∈fp/\h.get? p.1=some p.2:=by
 obtain ⟨b,hb,e⟩:=List.mem_filterMap.mp hp
 cases q:h.get? b with
 | none=>rw[q] at e;cases e
 | some o=>
  rw[q] at e
  have e':(b,o)=p:=YC e
  subst e'
  exact ⟨hb,q⟩
theorem Inv.pinned {pins:2e1}{σ:St}{H:Hp}{s:Shared}{fp:3e8}(I:2e4)(hf:∀b∈fp,FpOk X pins H b)(ho:∀b∈fp,∃o,s.heap.get? b=some o/\∀v,o.data≠.cell v):Inv X (pins++pinsAt fp s.heap) σ H s:=
 I.pins_of fun p hp=>(YB.mp hp).elim (fun z=>I.pin p (YA _ z)) fun z=>by
  obtain ⟨hb,e⟩:=of_pinsAt z
  obtain ⟨f0,f1,f2,_⟩:=hf p.1 hb
  obtain ⟨o,e',d⟩:=ho p.1 hb
  rw[e] at e';cases e'
  exact ⟨e,f0,f1,f2,d⟩
theorem Inv.unpinned {pins pl:2e1}{σ:St}{H:Hp}{s:Shared}(I:Inv X (pins++pl) σ H s):Inv X pins σ H s:=I.pins_of fun p hp=>I.pin p (YA _ (Xa _ hp))
theorem ps_for {iter:Expr}{body:List Stmt}{wi:TI}{g:TG}{tb:TS}{pos:Pos}(hp:V9 2e8 X.A X.env X.xe)(hc:11e3)(hi:PI X tg iter wi)(hg:PG X tg g)(hb:PSs X body tb)
  (hs:∀x,Xo iter X.env x=pure x:=by intro _;rfl):PS X (.For tg iter body [] pos) (tFor wi g tb):=by
 intro pins s σ H D I h
 refine wpAny_For (thn (hi pins s σ H _ I h) fun v s1 h1=>thn h1 fun itv s2 h2=>?_) hs
 obtain ⟨it,fp,tn,J,H2,e,I2,T,st2,f2,W,⟨m0,w0⟩,turn⟩:=h2
 subst e
 have stat:∀{H':Hp},(∀b∈fp,H' b=none)->∀b∈fp,FpOk X pins H' b:=fun hn b hb=>⟨hn b hb,(f2 b hb).2⟩
 refine codeAny_forLoop_any (fun n s'=>∃i σ' H',Inv X pins σ' H' s'/\tn i s'.heap/\(∀b∈fp,H' b=none)/\W i n σ' H') ?_ m0 ⟨0,σ,H2,I2,st2,fun b hb=>(f2 b hb).1,w0⟩
 rintro n s3 ⟨i,σ3,H3,I3,st3,fr3,w3⟩
 rcases turn i n σ3 H3 w3 with ⟨stop,qn⟩ | ⟨go,N,hN,step⟩
 ·refine XV hp (thn (T.done X rfl rfl rfl hc i pins s3 σ3 H3 X.xe I3 (stat fr3) st3 stop) fun r s4 h_=>?_)
  obtain ⟨hr,I4⟩:=h_
  subst hr
  exact Vf ⟨σ3,H3,I4,qn⟩
 ·refine XV hp (thn (T.item X rfl rfl rfl hc i pins s3 σ3 H3 X.xe I3 (stat fr3) st3 go) fun r s4 h_=>?_)
  obtain ⟨u,hr,h4⟩:=h_
  subst hr
  refine XV hp (thn h4 fun _ s5 h_=>?_)
  obtain ⟨x,H5,I5,r5,y5,st5,fr5⟩:=h_
  have I5':=I5.pinned (stat fr5) (T.obj _ _ st5)
  refine XV hp (thn (hg _ s5 σ3 H5 x u _ I5' r5 (step x H5 y5)) fun _ s6 h_=>?_)
  obtain ⟨σ6,H6,I6,q6⟩:=h_
  refine XV hp (thn (hb _ s6 σ6 H6 _ I6 q6) fun f s7 q7=>?_)
  have again:∀{σ7:St} {H7:Hp},Inv X (pins++pinsAt fp s5.heap) σ7 H7 s7->N σ7 H7->∃m,m < n/\∃i σ' H',Inv X pins σ' H' s7/\tn i s7.heap/\(∀b∈fp,H' b=none)/\W i m σ' H':=fun {σ7 H7} I7 n7=>by
   obtain ⟨m',hm,w7⟩:=hN σ7 H7 n7
   refine ⟨m',hm,i + 1,σ7,H7,I7.unpinned,T.keep _ _ _ st5 fun b hb o e=>(I7.pin (b,o) (YA _ (YA _ (Zbc hb e)))).1,fun b hb=>?_,w7⟩
   obtain ⟨o,e,d⟩:=T.obj _ _ st5 b hb
   exact (I7.pin (b,o) (YA _ (YA _ (Zbc hb e)))).2.1
  cases f with
  | next=>obtain ⟨σ7,H7,I7,n7⟩:=q7;exact again I7 n7
  | cont=>obtain ⟨σ7,H7,I7,n7⟩:=q7;exact again I7 n7
  | brk=>obtain ⟨σ7,H7,I7,q7⟩:=q7;exact ⟨σ7,H7,I7.unpinned,q7⟩
  | ret v=>obtain ⟨x7,σ7,H7,I7,r7,q7⟩:=q7;exact ⟨x7,σ7,H7,I7.unpinned,r7,q7⟩
end
abbrev R2:=V->V->Hp->VK->Prop
def OpR (X:Cx)(f:Value->Value->Sem Value)(r:R2):Prop:=
 ∀(pins:2e1) (s:Shared) (σ:St) (H:Hp) (x y:V) (v u:Value) (Q:VK),Inv X pins σ H s->RelV x v->RelV y u->r x y H Q->
  wpAny 2e8 X.A (f v u) (EP X pins σ Q) X.xe s
def UnR (X:Cx)(f:Value->Sem Value)(r:V->Hp->VK->Prop):Prop:=
 ∀(pins:2e1) (s:Shared) (σ:St) (H:Hp) (x:V) (v:Value) (Q:VK),Inv X pins σ H s->RelV x v->r x H Q->
  wpAny 2e8 X.A (f v) (EP X pins σ Q) X.xe s
def CallR (X:Cx)(f:Value)(r:List V->Hp->VK->Prop):Prop:=
 ∀(pins:2e1) (s:Shared) (σ:St) (H:Hp) (xs:List V) (us:3e9) (Q:VK),Inv X pins σ H s->Vals xs us->r xs H Q->
  wpAny 2e8 X.A (call f us) (EP X pins σ Q) X.xe s
def TruR (X:Cx)(r:V->Hp->(Bool->Hp->Prop)->Prop):Prop:=
 ∀(pins:2e1) (s:Shared) (σ:St) (H:Hp) (x:V) (v:Value) (Q:Bool->Hp->Prop),Inv X pins σ H s->RelV x v->r x H Q->
  wpAny 2e8 X.A (truthy v) (TP X pins σ Q) X.xe s
noncomputable def tOp (r:R2)(ta tb:TE):TE:=fun σ H Q=>ta σ H fun x H1=>tb σ H1 fun y H2=>r x y H2 Q
noncomputable def tUn (r:V->Hp->VK->Prop)(ta:TE):TE:=fun σ H Q=>ta σ H fun x H1=>r x H1 Q
noncomputable def rI (C:Int->Int->Prop)(g:Int->Int->V):R2:=fun x y H Q=>∃i j,x=.int i/\y=.int j/\C i j/\Q (g i j) H
noncomputable def rI0 (g:Int->Int->V):R2:=fun x y H Q=>∃i j,x=.int i/\y=.int j/\Q (g i j) H
def rU (g:Int->V):V->Hp->VK->Prop:=fun x H Q=>∃i,x=.int i/\Q (g i) H
section
variable {X:Cx}{a b c:Expr}{ta tb tc:TE}{pos:Pos}
theorem binT (ha:PE X a ta)(hb:PE X b tb){pins:2e1}{s:Shared}{σ:St}{H:Hp}{R:V->V->Hp->Prop}(I:2e4)
  (h:ta σ H fun x H1=>tb σ H1 fun y H2=>R x y H2) {Q:1e7} {f:Value->Value->Sem Value}
  (hf:∀v u s2 x y H2,Inv X pins σ H2 s2->RelV x v->RelV y u->R x y H2->wpAny 2e8 X.A (f v u) Q X.xe s2):
  wpAny 2e8 X.A (eval a X.env) (fun v s₁=>wpAny 2e8 X.A (eval b X.env) (fun u s₂=>wpAny 2e8 X.A (f v u) Q X.xe s₂) X.xe s₁) X.xe s:=by
 refine thn (ha pins s σ H _ I h) fun v s1 h_=>?_
 obtain ⟨x,H1,I1,r1,q1⟩:=h_
 refine thn (hb pins s1 σ H1 _ I1 q1) fun u s2 h_=>?_
 obtain ⟨y,H2,I2,r2,q2⟩:=h_
 exact hf v u s2 x y H2 I2 r1 r2 q2
theorem pe_op {op:Operator}{r:R2}(ho:OpR X (Wi op) r)(ha:PE X a ta)(hb:PE X b tb):PE X (.BinOp a op b pos) (tOp r ta tb):=by
 sleep 8
 exact wpAny_BinOp (binT ha hb I h fun v u s2 x y H2 I2 rx ry q=>ho pins s2 σ H2 x y v u Q I2 rx ry q)
theorem pe_un {op:UnaryOp}{r:V->Hp->VK->Prop}(ho:UnR X (unaryOp op) r)(ha:PE X a ta):PE X (.UnaryOp op a pos) (tUn r ta):=by
 sleep 8
 exact UnaryOp_ (thn (ha pins s σ H _ I h) fun v s1 ⟨x,H1,I1,r1,q1⟩=>ho pins s1 σ H1 x v Q I1 r1 q1)
theorem opI {f:Value->Value->Sem Value}{C:Int->Int->Prop}{g:Int->Int->Int}
  (rule:∀(i j:Int) (t u:Tok) (s:Shared) (Q:1e7) (E:1e7),C i j->Q (.int (g i j) s.toks) { s with toks:=s.toks + 1 }->wpAny (model X.prog X.w) X.A (f (.int i t) (.int j u)) Q E s):
  OpR X f (rI C fun i j=>.int (g i j)):=by
 sleep 4
 obtain ⟨i,j,rfl,rfl,hc,q⟩:=h
 sleep 10
 obtain ⟨t',rfl⟩:=ry
 exact rule i j t t' s _ _ hc ⟨.int (g i j),H,I.tok _,8e4,q⟩
theorem opI0 {f:Value->Value->Sem Value}{g:Int->Int->Int}
  (rule:∀(i j:Int) (t u:Tok) (s:Shared) (Q:1e7) (E:1e7),Q (.int (g i j) s.toks) { s with toks:=s.toks + 1 }->wpAny (model X.prog X.w) X.A (f (.int i t) (.int j u)) Q E s):
  OpR X f (rI0 fun i j=>.int (g i j)):=by
 sleep 4
 obtain ⟨i,j,rfl,rfl,q⟩:=h
 sleep 10
 obtain ⟨t',rfl⟩:=ry
 exact rule i j t t' s _ _ ⟨.int (g i j),H,I.tok _,8e4,q⟩
theorem opB0 {f:Value->Value->Sem Value}{g:Int->Int->Bool}
  (rule:∀(i j:Int) (t u:Tok) (s:Shared) (Q:1e7) (E:1e7),Q (.bool (g i j)) s->wpAny 2e8 X.A (f (.int i t) (.int j u)) Q E s):
  OpR X f (rI0 fun i j=>.bl (g i j)):=by
 sleep 4
 obtain ⟨i,j,rfl,rfl,q⟩:=h
 sleep 10
 obtain ⟨t',rfl⟩:=ry
 exact rule i j t t' s _ _ ⟨.bl (g i j),H,I,rfl,q⟩
def CDiv (i j:Int):Prop:=0 < j/\j < 1073741824
def CPow (i j:Int):Prop:=0<=j/\j<=1000000/\i.natAbs < 2 ^ 64
def CMul (i j:Int):Prop:=(-(2 ^ 64) < i/\i < 2 ^ 64)\/(-(2 ^ 64) < j/\j < 2 ^ 64)
theorem CMul.ok {i j:Int}(h:CMul i j):IntMulOk i j:=by
 rcases h with ⟨h1,h2⟩ | ⟨h1,h2⟩
 ·exact .of_left (intBits_le_64 h1 h2)
 ·exact .of_right (intBits_le_64 h1 h2)
theorem op_add:OpR X (Wi .Add) (rI0 fun i j=>.int (i + j)):=opI0 fun _ _ _ _ _ _ _ q=>add_int q
theorem op_sub:OpR X (Wi .Sub) (rI0 fun i j=>.int (i - j)):=opI0 fun _ _ _ _ _ _ _ q=>sub_int q
theorem op_mul:OpR X (Wi .Mult) (rI CMul fun i j=>.int (i * j)):=opI fun _ _ _ _ _ _ _ hc q=>mul_int q hc.ok
theorem op_fdiv:OpR X (Wi .FloorDiv) (rI CDiv fun i j=>.int (i / j)):=opI fun i j _ _ _ _ _ hc q=>by
 have h1:(0:Int) < j:=hc.1
 have h2:j < 1073741824:=hc.2
 exact floordiv_int 1e3 (by rw[Int.fdiv_eq_ediv_of_nonneg i 1e3];exact q) (.inl (PyProof.noPylong_small 1e3))
theorem op_mod:OpR X (Wi .Mod) (rI (fun _ j=>0 < j) fun i j=>.int (i % j)):=opI fun i j _ _ _ _ _ hc q=>by
 have h1:(0:Int) < j:=hc
 exact mod_int' 1e3 (by rw[Int.fmod_eq_emod_of_nonneg i 1e3];exact q)
theorem op_pow:OpR X (Wi .Pow) (rI CPow fun i j=>.int (i ^ j.toNat)):=opI fun _ _ _ _ _ _ _ hc q=>pow_int_small hc.1 hc.2.1 hc.2.2 q
theorem unI {f:Value->Sem Value}{g:Int->Int}
  (rule:∀(i:Int) (t:Tok) (s:Shared) (Q:1e7) (E:1e7),Q (.int (g i) s.toks) { s with toks:=s.toks + 1 }->wpAny (model X.prog X.w) X.A (f (.int i t)) Q E s):
  UnR X f (rU fun i=>.int (g i)):=by
 intro pins s σ H x v Q I rx h
 obtain ⟨i,rfl,q⟩:=h
 sleep 10
 exact rule i t s _ _ ⟨.int (g i),H,I.tok _,8e4,q⟩
theorem un_neg:UnR X (unaryOp .USub) (rU fun i=>.int (-i)):=unI fun _ _ _ _ _ q=>neg_int q
end
noncomputable def scal:V->V->Bool
 | .non,.non=>true | .non,.int _=>true | .int _,.non=>true | .non,.bl _=>true | .bl _,.non=>true | .non,.str _=>true | .str _,.non=>true
 | .int _,.int _=>true | .bl _,.bl _=>true | .str _,.str _=>true | .byt _,.byt _=>true
 | .int _,.str _=>true | .str _,.int _=>true | .bl _,.str _=>true | .str _,.bl _=>true
 | _,_=>false
def rEq:R2:=fun x y H Q=>scal x y=true/\Q (.bl (decide (x=y))) H
def rNe:R2:=fun x y H Q=>scal x y=true/\Q (.bl (!decide (x=y))) H
theorem dec_int {i j:Int}:decide (V.int i=V.int j)=(i==j):=by
 rw[Vg]
 simp
theorem dec_bl {i j:Bool}:decide (V.bl i=V.bl j)=(i==j):=by
 rw[Vg]
 simp
theorem dec_str {i j:Str}:decide (V.str i=V.str j)=(i==j):=by
 rw[Vg]
 simp
theorem dec_byt {i j:Array UInt8}:decide (V.byt i=V.byt j)=(i.toList==j.toList):=by
 rw[Vg]
 cases i
 cases j
 simp
section
variable {X:Cx}{a b c:Expr}{ta tb tc:TE}{pos:Pos}
theorem ZaL {pins:2e1}{σ:St}{H:Hp}{s:Shared}{Q:VK}{k k':Bool}(I:2e4)(q:Q (.bl k) H)(e:k=k'):EP X pins σ Q (.bool k') s:=by
 subst e
 exact ⟨.bl k,H,I,rfl,q⟩
theorem op_eq:OpR X (Xz .Eq) rEq:=by
 sleep 4
 obtain ⟨hs,q⟩:=h
 cases x with
 | non=>
  cases rx
  cases y with
  | non=>cases ry;exact PySem.EqNone.eq_none_none 11e6
  | bl j=>cases ry;exact PySem.EqNone.eq_none_bool 11e6
  | int j=>obtain ⟨t',rfl⟩:=ry;exact PySem.EqNone.eq_none_int 11e6
  | str j=>obtain ⟨t',rfl⟩:=ry;exact PySem.EqNone.eq_none_str 11e6
  | _=>exact absurd (show false=true from hs) Yl
 | bl i=>
  cases rx
  cases y with
  | non=>cases ry;exact PySem.EqNone.eq_bool_none 11e6
  | bl j=>cases ry;exact eq_bool (ZaL I q dec_bl)
  | str j=>obtain ⟨t',rfl⟩:=ry;exact PySem.EqMixed.eq_bool_str 11e6
  | _=>exact absurd (show false=true from hs) Yl
 | int i=>
  sleep 10
  cases y with
  | non=>cases ry;exact PySem.EqNone.eq_int_none 11e6
  | int j=>obtain ⟨t',rfl⟩:=ry;exact eq_int (ZaL I q dec_int)
  | str j=>obtain ⟨t',rfl⟩:=ry;exact PySem.EqMixed.eq_int_str 11e6
  | _=>exact absurd (show false=true from hs) Yl
 | str i=>
  sleep 10
  cases y with
  | non=>cases ry;exact PySem.EqNone.eq_str_none 11e6
  | bl j=>cases ry;exact PySem.EqMixed.eq_str_bool 11e6
  | int j=>obtain ⟨t',rfl⟩:=ry;exact PySem.EqMixed.eq_str_int 11e6
  | str j=>obtain ⟨t',rfl⟩:=ry;exact eq_str (ZaL I q dec_str)
  | _=>exact absurd (show false=true from hs) Yl
 | byt i=>
  sleep 10
  cases y with
  | byt j=>obtain ⟨t',rfl⟩:=ry;exact W.eq_bytes (ZaL I q dec_byt)
  | _=>exact absurd (show false=true from hs) Yl
 | _=>cases y<;>exact absurd (show false=true from hs) Yl
theorem op_ne:OpR X (Xz .NotEq) rNe:=by
 sleep 4
 obtain ⟨hs,q⟩:=h
 cases x with
 | non=>
  cases rx
  cases y with
  | non=>cases ry;exact PySem.EqNone.ne_none_none 11e6
  | bl j=>cases ry;exact PySem.EqNone.ne_none_bool 11e6
  | int j=>obtain ⟨t',rfl⟩:=ry;exact PySem.EqNone.ne_none_int 11e6
  | str j=>obtain ⟨t',rfl⟩:=ry;exact PySem.EqNone.ne_none_str 11e6
  | _=>exact absurd (show false=true from hs) Yl
 | bl i=>
  cases rx
  cases y with
  | non=>cases ry;exact PySem.EqNone.ne_bool_none 11e6
  | bl j=>cases ry;exact ne_bool (ZaL I q (congrArg not dec_bl))
  | str j=>obtain ⟨t',rfl⟩:=ry;exact PySem.EqMixed.ne_bool_str 11e6
  | _=>exact absurd (show false=true from hs) Yl
 | int i=>
  sleep 10
  cases y with
  | non=>cases ry;exact PySem.EqNone.ne_int_none 11e6
  | int j=>obtain ⟨t',rfl⟩:=ry;exact ne_int (ZaL I q (congrArg not dec_int))
  | str j=>obtain ⟨t',rfl⟩:=ry;exact PySem.EqMixed.ne_int_str 11e6
  | _=>exact absurd (show false=true from hs) Yl
 | str i=>
  sleep 10
  cases y with
  | non=>cases ry;exact PySem.EqNone.ne_str_none 11e6
  | bl j=>cases ry;exact PySem.EqMixed.ne_str_bool 11e6
  | int j=>obtain ⟨t',rfl⟩:=ry;exact PySem.EqMixed.ne_str_int 11e6
  | str j=>obtain ⟨t',rfl⟩:=ry;exact ne_str (ZaL I q (congrArg not dec_str))
  | _=>exact absurd (show false=true from hs) Yl
 | byt i=>
  sleep 10
  cases y with
  | byt j=>obtain ⟨t',rfl⟩:=ry;exact W.ne_bytes (ZaL I q (congrArg not dec_byt))
  | _=>exact absurd (show false=true from hs) Yl
 | _=>cases y<;>exact absurd (show false=true from hs) Yl
theorem Zcv:OpR X (Xz .Lt) (rI0 fun i j=>.bl (decide (i < j))):=opB0 fun _ _ _ _ _ _ _ q=>lt_int q
theorem op_gt:OpR X (Xz .Gt) (rI0 fun i j=>.bl (decide (j < i))):=opB0 fun _ _ _ _ _ _ _ q=>gt_int q
theorem nomark (b:Expr){op:CmpOp}(h:op≠.In:=by decide)(h2:op≠.NotIn:=by decide):WJ op b=false:=by
 have e1:(op==CmpOp.In)=false:=by cases op<;>first | rfl | exact absurd rfl h
 have e2:(op==CmpOp.NotIn)=false:=by cases op<;>first | rfl | exact absurd rfl h2
 cases b<;>simp[WJ,e1,e2]
theorem pe_cmpR {op:CmpOp}{r:R2}(ho:OpR X (Xz op) r)(ha:PE X a ta)(hb:PE X b tb)(hm:WJ op b=false):PE X (.Compare a [op] [b] pos) (tOp r ta tb):=by
 sleep 8
 exact wpAny_Compare1 (binT ha hb I h fun v u s2 x y H2 I2 rx ry q=>ho pins s2 σ H2 x y v u Q I2 rx ry q) hm
noncomputable def tTest (t:TE):TT:=fun σ H Q=>t σ H fun x H'=>∃k,x=.bl k/\Q k H'
theorem pt_cmpR {op:CmpOp}{r:R2}(ho:OpR X (Xz op) r)(ha:PE X a ta)(hb:PE X b tb)(hm:WJ op b=false):PT X (.Compare a [op] [b] pos) (tTest (tOp r ta tb)):=by
 sleep 8
 refine wpAny_isTrue_Compare1 (thn (ha pins s σ H _ I h) fun v s1 ⟨x,H1,I1,r1,q1⟩=>thn (hb pins s1 σ H1 _ I1 q1) fun u s2 ⟨y,H2,I2,r2,q2⟩=>
  thn (ho pins s2 σ H2 x y v u _ I2 r1 r2 q2) fun c s3 ⟨z,H3,I3,r3,k,e,q3⟩=>?_) hm
 subst e
 cases r3
 exact Vx ⟨H3,I3,q3⟩
def TruV (K:W.Frag)(x:V)(H:Hp)(k:Bool):Prop:=
 match x with
 | .non=>k=false
 | .bl b=>k=b
 | .int i=>k=(i != 0)
 | .str y=>y.length<=Yo/\k=((y.length:Int) != 0)
 | .byt y=>y.size<=Yo/\k=((y.size:Int) != 0)
 | .ref p=>(∃xs,SqL K H p xs/\k=!xs.isEmpty)\/(∃xs,SqT K H p xs/\k=!xs.isEmpty)\/∃kvs,H p=some (.dK kvs)/\k=!kvs.isEmpty
 | _=>False
theorem isEmpty_kv {κ:Type}{kvs:List (κ×V)}{vs:List (κ×Value)}(r:KV kvs vs):(!vs.isEmpty)=!kvs.isEmpty:=by
 cases r<;>rfl
theorem Zds {xs:List V}{its:3e9}(r:Vals xs its):(!its.toArray.isEmpty)=!xs.isEmpty:=by
 cases r<;>simp
theorem line63:(Yo:Nat) < 2 ^ 63:=by rw[YE];decide
theorem tru_ok:TruR X (fun x H Q=>∃k,TruV X.K x H k/\Q k H):=by
 intro pins s σ H x v Q I rx h
 obtain ⟨k,e,q⟩:=h
 have hl:=line63
 have hs:Yo=16777216:=YE
 cases x with
 | non=>
  cases rx
  have e':k=false:=e
  subst e'
  exact truthy_none ⟨H,I,q⟩
 | bl b=>
  cases rx
  have e':k=b:=e
  subst e'
  exact Vx ⟨H,I,q⟩
 | int i=>
  sleep 10
  have e':k=(i != 0):=e
  subst e'
  exact PySem.P.truthy_int ⟨H,I,q⟩
 | str y=>
  sleep 10
  obtain ⟨hy,e'⟩:y.length<=Yo/\k=((y.length:Int) != 0):=e
  subst e'
  exact PySem.P.truthy_str 1e3 ⟨H,I.tok _,q⟩
 | byt y=>
  sleep 10
  obtain ⟨hy,e'⟩:y.size<=Yo/\k=((y.size:Int) != 0):=e
  subst e'
  exact W.truthy_bytes 1e3 ⟨H,I.tok _,q⟩
 | ref p=>
  cases rx
  have e':(∃xs,SqL X.K H p xs/\k=!xs.isEmpty)\/(∃xs,SqT X.K H p xs/\k=!xs.isEmpty)\/∃kvs,H p=some (.dK kvs)/\k=!kvs.isEmpty:=e
  rcases e' with ⟨xs,hx,e'⟩ | ⟨xs,hx,e'⟩ | ⟨kvs,hx,e'⟩
  ·subst e'
   obtain ⟨its,r,pl,hz⟩:=I.list hx
   have hlen:=r.length
   exact wpAny_truthy_list pl.isList (by simp only[Yf];lia) ⟨H,I.tok _,by rw[Zds r];exact q⟩
  ·subst e'
   obtain ⟨its,r,pl,hz⟩:=I.tuple hx
   have hlen:=r.length
   exact truthy_tuple pl (by simp only[Yf];lia) ⟨H,I.tok _,by rw[Zds r];exact q⟩
  ·subst e'
   obtain ⟨hz,hS,vs,r,m⟩:kvs.length<=Yo/\(p==XB)=false/\∃vs,KV kvs vs/\s.heap.DictOf (mixKind X.prog X.w) p vs:=I.hok p _ hx
   have hlen:kvs.length=vs.length:=XO r
   exact wpAny_truthy_dict hS m 1e3 ⟨H,I.tok _,by rw[isEmpty_kv r];exact q⟩
 | _=>exact (show False from e).elim
theorem pt_truth (ha:PE X a ta)(he:∀whole,isTrue a X.env whole=(do let v ←whole;standAt a.pos;VP [v] (truthy v))):
  PT X a (fun σ H Q=>ta σ H fun x H'=>∃k,TruV X.K x H' k/\Q k H'):=by
 sleep 8
 exact isTrue_plain (thn (ha pins s σ H _ I h) fun v s1 ⟨x,H1,I1,r1,q1⟩=>tru_ok pins s1 σ H1 x v Q I1 r1 q1) (he _)
theorem op_add_str:OpR X (Wi .Add) (fun x y H Q=>∃i j,x=.str i/\y=.str j/\i.length + j.length<=Yo/\Q (.str (i++j)) H):=by
 sleep 4
 obtain ⟨i,j,rfl,rfl,hz,q⟩:=h
 sleep 10
 obtain ⟨t',rfl⟩:=ry
 exact add_str (fun t' tk=>⟨.str (i++j),H,I.tok _,8e4,q⟩) hz
theorem vals1 {x:V}{us:3e9}(r:Vals [x] us):∃u,us=[u]/\RelV x u:=by
 cases r with
 | cons r1 r2=>cases r2;exact ⟨_,rfl,r1⟩
theorem vals2 {x y:V}{us:3e9}(r:Vals [x,y] us):∃u w',us=[u,w']/\RelV x u/\RelV y w':=by
 cases r with
 | cons r1 r2=>
  cases r2 with
  | cons r3 r4=>cases r4;exact ⟨_,_,rfl,r1,r3⟩
theorem call_max2 (hc:11e3):CallR X (.builtin "max") (fun xs H Q=>∃i j,xs=[.int i,.int j]/\Q (.int (if j > i then j else i)) H):=by
 intro pins s σ H xs us Q I r h
 obtain ⟨i,j,rfl,q⟩:=h
 obtain ⟨u,w',rfl,⟨t,rfl⟩,⟨t',rfl⟩⟩:=vals2 r
 refine max_two_ints (I.ok.hd hc) fun h' tk k=>⟨_,H,I.kept k,?_,q⟩
 by_cases hj:j > i
 ·rw[if_pos hj,if_pos hj];exact 8e4
 ·rw[if_neg hj,if_neg hj];exact 8e4
theorem call_min2 (hc:11e3):CallR X (.builtin "min") (fun xs H Q=>∃i j,xs=[.int i,.int j]/\Q (.int (if j < i then j else i)) H):=by
 intro pins s σ H xs us Q I r h
 obtain ⟨i,j,rfl,q⟩:=h
 obtain ⟨u,w',rfl,⟨t,rfl⟩,⟨t',rfl⟩⟩:=vals2 r
 refine min_two_ints (I.ok.hd hc) fun h' tk k=>⟨_,H,I.kept k,?_,q⟩
 by_cases hj:j < i
 ·rw[if_pos hj,if_pos hj];exact 8e4
 ·rw[if_neg hj,if_neg hj];exact 8e4
theorem call_int1:CallR X (.type "int") (fun xs H Q=>(∃i,xs=[.int i]/\Q (.int i) H)\/∃k,xs=[.bl k]/\Q (.int (if k then 1 else 0)) H):=by
 intro pins s σ H xs us Q I r h
 rcases h with ⟨i,rfl,q⟩ | ⟨k,rfl,q⟩
 ·obtain ⟨u,rfl,t,rfl⟩:=vals1 r
  exact call_int_int ⟨.int i,H,I,8e4,q⟩
 ·obtain ⟨u,rfl,r1⟩:=vals1 r
  cases r1
  exact call_int_bool ⟨.int (if k then 1 else 0),H,I.tok _,8e4,q⟩
def LenV (K:W.Frag)(x:V)(H:Hp)(n:Nat):Prop:=
 match x with
 | .str y=>y.length<=Yo/\n=y.length
 | .byt y=>y.size<=Yo/\n=y.size
 | .ref p=>(∃xs,SqL K H p xs/\n=xs.length)\/∃xs,SqT K H p xs/\n=xs.length
 | _=>False
theorem call_len:CallR X (.builtin "len") (fun xs H Q=>∃x n,xs=[x]/\LenV X.K x H n/\Q (.int n) H):=by
 intro pins s σ H xs us Q I r h
 obtain ⟨x,n,rfl,e,q⟩:=h
 obtain ⟨u,rfl,rx⟩:=vals1 r
 have hl:=line63
 have hs:Yo=16777216:=YE
 cases x with
 | str y=>
  sleep 10
  obtain ⟨hy,e'⟩:y.length<=Yo/\n=y.length:=e
  subst e'
  exact len_str 1e3 ⟨.int _,H,I.tok _,8e4,q⟩
 | byt y=>
  sleep 10
  obtain ⟨hy,e'⟩:y.size<=Yo/\n=y.size:=e
  subst e'
  exact W.len_bytes 1e3 ⟨.int _,H,I.tok _,8e4,q⟩
 | ref p=>
  cases rx
  have e':(∃xs,SqL X.K H p xs/\n=xs.length)\/∃xs,SqT X.K H p xs/\n=xs.length:=e
  rcases e' with ⟨xs,hx,e'⟩ | ⟨xs,hx,e'⟩
  ·subst e'
   obtain ⟨its,r',pl,hz⟩:=I.list hx
   have hlen:=r'.length
   exact Calls.call_len_list pl.isList (by simp only[Yf];lia) ⟨.int xs.length,H,I.tok _,⟨_,by simp only[Yf];rw[hlen]⟩,q⟩
  ·subst e'
   obtain ⟨its,r',pl,hz⟩:=I.tuple hx
   have hlen:=r'.length
   exact len_tuple pl (by simp only[Yf];lia) ⟨.int xs.length,H,I.tok _,⟨_,by simp only[Yf];rw[hlen]⟩,q⟩
 | _=>exact (show False from e).elim
end
structure ObjM (h:Heap)(x dx C:Addr)(mA:Str->Option Value):Prop where
 obj:h.get? x=some (W.instObj C dx)
 ns:h.Ns1 dx mA
 ne:dx≠x
theorem lookIn_ns {h:Heap}{dx:Addr}{mA:3e0}(n:h.Ns1 dx mA):∃od,h.get? dx=some od/\∀name,W.lookIn name od=some (mA name):=by
 obtain ⟨o,es,ep,ho,hd,hk,_,hm⟩:=n
 refine ⟨o,ho,fun name=>?_⟩
 have e:=hm name
 unfold nsFind findBy at e
 rw[←Array.find?_toList] at e
 unfold W.lookIn
 rw[hd]
 dsimp only
 split
 ·rename_i y q
  rw[q] at e
  exact congrArg some e
 ·rename_i q
  rw[q] at e
  have a:es.toList.any (·.refKey)=false:=by
   rw[List.any_eq_false]
   intro y hy
   obtain ⟨z,t,hkey⟩:=hk y (Array.mem_toList_iff.mp hy)
   simp[DictEntry.refKey,hkey]
  have a':¬es.toList.any (·.refKey)=true:=by rw[a];exact Yl
  rw[if_neg a']
  exact congrArg some e
theorem ObjM.look {h:Heap}{x dx C:Addr}{mA:3e0}(I:ObjM h x dx C mA):∃od,W.InstAt h x (W.instObj C dx) C (some od)/\∀name,W.lookIn name od=some (mA name):=
 let ⟨od,ho,hl⟩:=lookIn_ns I.ns
 ⟨od,⟨I.obj,rfl,rfl,ho⟩,hl⟩
theorem RelO.some_of {v:V}{o:Option Value}(r:RelO (some v) o):∃u,o=some u/\RelV v u:=by
 cases o with
 | none=>exact (show False from r).elim
 | some u=>exact ⟨u,rfl,r⟩
section
variable {P:Yx}{w:World}{H H':Hp}{h h':Heap}{a C dx:Addr}{fs fs':List (Str×V)}
theorem ins_get (hok:HOk P w H h)(e:H a=some (.ins C dx fs)):∃mA,ObjM h a dx C mA/\(∀f,RelO (fs.lookup f) (mA f))/\PySem.Within mA (fs.map (·.1))/\fs.length<=1000/\H dx=some (.own a):=by
 obtain ⟨d,z,ne,ob,mA,n,r,q⟩:=(show ObjOk P w H h a (.ins C dx fs) from hok a _ e)
 exact ⟨mA,⟨ob,n,ne⟩,r,q,z,d⟩
end
structure Cls (K:W.Frag)(C:Addr):Prop where
 pg:W.plainGet K C Str.empty=true
 hd:W.hasDictIn K C=true
 po:W.plainOver K C=true
 sa:W.findIn K (.ref C) "__setattr__"=some (some (.builtin "object.__setattr__"))
theorem Cls.get {K:W.Frag}{C:Addr}(c:Cls K C)(f:Str):W.plainGet K C f=true:=c.pg
section
variable {X:Cx}{pins:2e1}{σ:St}{H:Hp}{s:Shared}{A:Around}{E:1e7}{Q:1e7}{c:Value}{b:Bool}
inductive TyOf (K:W.Frag)(H:Hp):V->Value->Prop where
 | non:TyOf K H .non (.type "NoneType")
 | bl (x:Bool):TyOf K H (.bl x) (.type "bool")
 | int (i:Int):TyOf K H (.int i) (.type "int")
 | str (x:Str):TyOf K H (.str x) (.type "str")
 | flt (x:UInt64):TyOf K H (.flt x) (.type "float")
 | lst {a:Addr} {xs:List V} (e:H a=some (.lst xs)):TyOf K H (.ref a) (.type "list")
 | frz {a:Addr} {o:Obj} {xs:List V} (e:H a=some (.frz o (.lst xs))):TyOf K H (.ref a) (.type "list")
 | tup {a:Addr} {xs:List V} (e:H a=some (.tup xs)):TyOf K H (.ref a) (.type "tuple")
 | dK {a:Addr} {kvs:List (Key×V)} (e:H a=some (.dK kvs)):TyOf K H (.ref a) (.type "dict")
 | dT {a:Addr} {kvs:List (List Key×V)} (e:H a=some (.dT kvs)):TyOf K H (.ref a) (.type "dict")
 | ins {a C dx:Addr} {fs:List (Str×V)} (e:H a=some (.ins C dx fs)) (cl:Cls K C) (ha:W.findIn K (.ref C) "__class__"=some (some (.builtin "object.__class__")))
   (hn:W.specialIn K (.builtin "object.__class__") "__get__"=some (some (.builtin "getset_descriptor.__get__"))) (htk:W.takesIn K (.builtin "object.__class__")=some true)
   (hm:W.mroIn K C (.type "object")=some true):TyOf K H (.ref a) (.ref C)
theorem ZbF {x:V}{u t:Value}(I:2e4)(rx:RelV x u)(ty:TyOf X.K H x t)(e:W.kitOne X.K t c=some b)(h:∀tk,Q (.bool b) { s with toks:=tk }):
  wpAny 2e8 A (call (.builtin "isinstance") [u,c]) Q E s:=by
 cases ty with
 | non=>cases (show u=Xw from rx);exact Wa W.kitx_none I.kIn Wf e (fun z=>nomatch z) h
 | bl y=>cases (show u=Value.bool y from rx);exact Wa W.kitx_bool I.kIn Wf e (fun z=>nomatch z) h
 | int i=>obtain ⟨t,q⟩:=(show ∃t,u=Value.int i t from rx);cases q;exact Wa W.kitx_int I.kIn Wf e (fun z=>nomatch z) h
 | str y=>obtain ⟨t,q⟩:=(show ∃t,u=Value.str y t from rx);cases q;exact Wa W.kitx_str I.kIn Wf e (fun z=>nomatch z) h
 | flt y=>obtain ⟨t,q⟩:=(show ∃t,u=Value.float y t from rx);cases q;exact Wa W.kitx_float I.kIn Wf e (fun z=>nomatch z) h
 | @lst a xs ea=>
  cases (show u=Y7 a from rx)
  obtain ⟨_,_,n,_,h1⟩:=(show ObjOk X.prog X.w H s.heap a (.lst xs) from I.hok a _ ea)
  exact Wa W.kitx_list I.kIn ⟨_,h1,rfl⟩ e (fun z=>nomatch z) h
 | @frz a ob xs ea=>
  cases (show u=Y7 a from rx)
  obtain ⟨_,_,_,n,_,h1⟩:=(show ObjOk X.prog X.w H s.heap a (.frz ob (.lst xs)) from I.hok a _ ea)
  exact Wa W.kitx_list I.kIn ⟨_,h1,rfl⟩ e (fun z=>nomatch z) h
 | @tup a xs ea=>
  cases (show u=Y7 a from rx)
  obtain ⟨_,_,_,p⟩:=(show ObjOk X.prog X.w H s.heap a (.tup xs) from I.hok a _ ea)
  obtain ⟨o,h1,h2,_⟩:=p
  exact Wa W.kitx_tuple I.kIn ⟨o,h1,h2⟩ e (fun z=>nomatch z) h
 | @dK a kvs ea=>
  cases (show u=Y7 a from rx)
  obtain ⟨_,_,vs,_,p⟩:=(show ObjOk X.prog X.w H s.heap a (.dK kvs) from I.hok a _ ea)
  obtain ⟨o,es,ep,h1,h2,_⟩:=p
  exact Wa W.kitx_dict I.kIn ⟨o,h1,h2.1⟩ e (fun z=>nomatch z) h
 | @dT a kvs ea=>
  cases (show u=Y7 a from rx)
  obtain ⟨_,_,xs,_,o,es,ep,h1,h2,_⟩:=(show ObjOk X.prog X.w H s.heap a (.dT kvs) from I.hok a _ ea)
  exact Wa W.kitx_dict I.kIn ⟨o,h1,h2.1⟩ e (fun z=>nomatch z) h
 | @ins a C dx fs ea cl ha hn htk hm=>
  cases (show u=Y7 a from rx)
  obtain ⟨mA,O,_⟩:=ins_get I.hok ea
  obtain ⟨od,J,_⟩:=O.look
  exact Wa (W.kitx_own (cl.get _) cl.hd ha hn htk hm) I.kIn J e (fun z=>nomatch z) h
end
structure Room (k:Nat)(A:Around):Prop where
 hd:A.handled=none
 dp:A.depth + 3 * k + 5 < recursionLimit
 un:A.units + 16 * k + 200 < cLine
theorem Room.mono {j k:Nat}{A:Around}(r:Room k A)(h:j<=k):Room j A:=⟨r.hd,by have:=r.dp;lia,by have:=r.un;lia⟩
theorem Room.deeper {k:Nat}{A:Around}(r:Room (k + 1) A)(env:Env):Room k (A.deeper env):=
 ⟨r.hd,by have:=r.dp;show A.depth + 1 + 3 * k + 5 < _;lia,by have:=r.un;show A.units + 3 + 16 * k + 200 < _;lia⟩
theorem Room.depth {k:Nat}{A:Around}(r:Room k A):A.depth < recursionLimit:=by have:=r.dp;lia
theorem Room.units {k:Nat}{A:Around}(r:Room k A):A.units + 64 < cLine:=by have:=r.un;lia
noncomputable def tNil:TA:=fun _ H Q=>Q [] H
noncomputable def tCons (ta:TE)(tr:TA):TA:=fun σ H Q=>ta σ H fun x H1=>tr σ H1 fun xs H2=>Q (x::xs) H2
section
variable {X:Cx}{e:Expr}{es:6e4}{te:TE}{t:TA}{pos:Pos}
theorem pa_nil:PA X [] tNil:=fun _ _ _ _ H Q I h=>Calls.spliced_nil ⟨[],H,I,.nil,h⟩
theorem pa_cons (ha:PE X e te)(hr:PA X es t)(hs:1e5:=by rfl):PA X 6e5 (tCons te t):=by
 intro pos pins s σ H Q I h
 rw[hs]
 show wpAny _ _ (spliced ((false,eval e X.env)::backTo pos (Yi es X.env))) _ _ s
 refine Calls.spliced_cons (thn (ha pins s σ H _ I h) fun u s1 h_=>?_)
 obtain ⟨x,H1,I1,r1,q1⟩:=h_
 exact thn (hr pos pins s1 σ H1 _ I1 q1) fun us s2 ⟨xs,H2,I2,r2,q2⟩=>⟨x::xs,H2,I2,.cons r1 r2,q2⟩
def tTup (t:TA):TE:=fun σ H Q=>t σ H fun xs H1=>xs.length<=Yo/\∀p,H1 p=none->Q (.ref p) (upd H1 p (.tup xs))
def tLst (t:TA):TE:=fun σ H Q=>t σ H fun xs H1=>xs.length<=Yo/\∀p,H1 p=none->Q (.ref p) (upd H1 p (.lst xs))
theorem pe_tup {x1}(h:PA X es t):PE X (.Tuple es x1 pos) (tTup t):=by
 intro pins s σ H Q I hq
 refine wpAny_Tuple_spliced (thn (h pos pins s σ H _ I hq) fun us s1 ⟨xs,H1,I1,r,z,q⟩=>⟨by rw[←r.length];exact z,?_⟩)
 have hf:H1 s1.heap.objs.size=none:=I1.hok.fresh (Yh _)
 refine ⟨.ref s1.heap.objs.size,upd H1 s1.heap.objs.size (.tup xs),I1.laid (t':=s1.toks) (fun b u e=>Ya _ e) (Yh _) ?_,rfl,q _ hf⟩
 exact ⟨z,us,r,⟨_,Yq _ rfl,rfl,_,rfl⟩⟩
theorem pe_lst (h:PA X es t):PE X (.List es pos) (tLst t):=by
 intro pins s σ H Q I hq
 refine wpAny_List_spliced (thn (h pos pins s σ H _ I hq) fun us s1 ⟨xs,H1,I1,r,z,q⟩=>⟨by rw[←r.length];exact z,?_⟩)
 have hf:H1 s1.heap.objs.size=none:=I1.hok.fresh (Yh _)
 refine ⟨.ref s1.heap.objs.size,upd H1 s1.heap.objs.size (.lst xs),I1.laid (t':=s1.toks) (fun b u e=>Ya _ e) (Yh _) ?_,rfl,q _ hf⟩
 exact ⟨z,us,0,r,Yq _ rfl⟩
end
abbrev Sp:=List V->Hp->VK->XK->Prop
abbrev CXT:=List Env->Hp->Shared->XK->Value->Shared->Prop
structure Env0 (P:Yx)(w:World)(K:W.Frag)(mg:Str->Option Value)(base:Heap)(A:Around)(outer:List Env)(s:Shared)(H:Hp):Prop where
 frames:A.frames=some outer
 mod:Mod K mg base
 bs:∀b o,base.get? b=some o->s.heap.get? b=some o/\H b=none
 bsz:base.objs.size<=s.heap.objs.size
 funs:s.heap.FunFrames base outer
 frf:∀b∈frs outer,H b=none
 hok:HOk P w H s.heap
 bare:VN s.gens
def CE (outer:List Env)(P:Yx)(w:World)(H:Hp)(s:Shared)(Q:VK)(u:Value)(s':Shared):Prop:=
 ∃v H',s'.os=s.os/\VN s'.gens/\Un (frs outer) [] H H' s.heap s'.heap/\HOk P w H' s'.heap/\RelV v u/\Q v H'
def CR (CX:CXT)(outer:List Env)(P:Yx)(w:World)(H:Hp)(s:Shared)(Q:VK)(E:XK)(r:Result)(s':Shared):Prop:=
 match r with
 | .ok (.ret u)=>CE outer P w H s Q u s'
 | .ok _=>False
 | .error e=>CX outer H s E e s'
structure FnOk (P:Yx)(w:World)(K:W.Frag)(mg:Str->Option Value)(base:Heap)(CX:CXT)(k:Nat)(f:Addr)(fd:XM)(ps:List Str)(sp:Sp):Prop where
 len:∀vs H Q E,sp vs H Q E->vs.length=ps.length
 run:∀(A:Around) (outer:List Env) (s:Shared) (H:Hp) (args:Args) (us:3e9) (vs:List V) (Q:VK) (E:XK),Room k A->Env0 P w K mg base A outer s H->BindsTo s fd args (ps.zip us)->Vals vs us->sp vs H Q E->
  Vh (model P w) A (.call (.ref f) args) (CR CX outer P w H s Q E) s
theorem FnOk.imp {P:Yx}{w:World}{K:W.Frag}{mg:3e0}{base:Heap}{CX:CXT}{k:Nat}{f:Addr}{fd:XM}{ps:6e2}{sp sp':Sp}(F:FnOk P w K mg base CX k f fd ps sp)
  (h:∀vs H Q E,sp' vs H Q E->sp vs H Q E):FnOk P w K mg base CX k f fd ps sp':=
 ⟨fun vs H Q E q=>F.len vs H Q E (h _ _ _ _ q),fun A outer s H args us vs Q E hr he hb hv hs=>F.run A outer s H args us vs Q E hr he hb hv (h _ _ _ _ hs)⟩
section
variable {X:Cx}{pins:2e1}{σ:St}{H:Hp}{s s':Shared}
theorem Inv.env0 (I:2e4):Env0 X.prog X.w X.K X.mg X.base X.A X.stack s H:=
 ⟨I.ok.frames,I.ok.mod,I.bs,Yz I.ok.bsz I.sz,I.stack,I.stkFree,I.hok,I.bare⟩
theorem Inv.after {Q:VK}{u:Value}(I:2e4)(h:CE X.stack X.prog X.w H s Q u s'):EP X pins σ Q u s':=by
 obtain ⟨v,H',os,bare,un,hok,r,q⟩:=h
 obtain ⟨hh,g,d,t,os'⟩:=s'
 obtain rfl:os'=s.os:=os
 exact ⟨v,H',I.call (h':=hh) (g':=g) (d':=d) (t':=t) (ch:=[]) un hok bare (fun b z=>absurd z 5e2),r,q⟩
end
noncomputable def tCall (sp:Sp)(dvs:List V)(E:XK)(t:TA):TE:=fun σ H Q=>t σ H fun vs H1=>sp (vs++dvs) H1 Q E
def Binds (K:W.Frag)(fd:XM)(ps:6e2)(ds:3e9):Prop:=
 ∀(s:Shared) (us:3e9),K.In s.heap->(us++ds).length=ps.length->BindsTo s fd ⟨us,[]⟩ (ps.zip (us++ds))
theorem Binds.all {K:W.Frag}{fd:XM}{ps:6e2}(h:∀us:List Value,us.length=ps.length->bindArgs fd ⟨us,[]⟩=pure (ps.zip us)):Binds K fd ps []:=fun s us _ hl=>by
 rw[YF] at hl ⊢
 exact .of_eq (h us hl)
def Passes (CX:CXT)(X:Cx)(E:XK):Prop:=∀(pins:2e1) (σ:St) (H:Hp) (s:Shared) (e:Value) (s':Shared),Inv X pins σ H s->CX X.stack H s E e s'->X.xe e s'
section
variable {X:Cx}{CX:CXT}{k:Nat}{f C:Addr}{fd:XM}{ps:6e2}{sp:Sp}{dvs:List V}{ds:3e9}{E:XK}{x m:Str}{p pos apos:Pos}{e o:Expr}{es:6e4}{ta:TE}{t:TA}
theorem run_fn {pins:2e1}{σ:St}{H:Hp}{s:Shared}{Q:VK}{us:3e9}{vs:List V}(F:FnOk X.prog X.w X.K X.mg X.base CX k f fd ps sp)(hr:Room k X.A)(hb:Binds X.K fd ps ds)(hd:Vals dvs ds)(hx:Passes CX X E)
  (I:2e4) (r:Vals vs us) (h:sp (vs++dvs) H Q E):wpAny 2e8 X.A (call (.ref f) us) (EP X pins σ Q) X.xe s:=by
 have r2:Vals (vs++dvs) (us++ds):=r.append hd
 have hl:(us++ds).length=ps.length:=by rw[←r2.length];exact F.len _ _ _ _ h
 refine wpAny_call (codeAny_mono (F.run X.A X.stack s H ⟨us,[]⟩ (us++ds) (vs++dvs) Q E hr I.env0 (hb s us I.kIn hl) r2 h) fun r s' hq=>?_)
 cases r with
 | error e=>exact hx pins σ H s e s' I hq
 | ok fl=>
  cases fl with
  | ret u=>exact I.after hq
  | next=>exact We hq
  | brk=>exact We hq
  | cont=>exact We hq
theorem pe_call (F:FnOk X.prog X.w X.K X.mg X.base CX k f fd ps sp)(hr:Room k X.A)(hg:Gl X x)(hm:X.mg x=some (.ref f))(hk:VB X.K (.ref f)=true)(hb:Binds X.K fd ps ds)(hd:Vals dvs ds)(hx:Passes CX X E)
  (ha:PA X 6e5 t) (hdb:5e6:=by decide) (he:1e5:=by rfl) (hpl:3e3:=by rfl):
  PE X 11e2 (tCall sp dvs E t):=by
 sleep 8
 refine Vr (ld_glob I hg hm ?_ hdb)
 refine W.callWith_K (h₀:=X.base) I.ok.mod.kin hk (thn (ha pos pins s σ H _ I h) fun us s1 ⟨vs,H1,I1,r,q⟩=>⟨I1.kIn,?_⟩) he hpl
 exact run_fn F hr hb hd hx I1 r q
structure Mk (K:W.Frag)(C f:Addr):Prop where
 makes:W.makesIn K C=true
 init:W.findIn K (.ref C) "__init__"=some (some (.ref f))
 fn:W.isFn K (.ref f)=true
 kp:VB K (.ref C)=true
end
structure FnScope (N P:List Str)(sc:Scope):Prop where
 kind:sc.kind=.function
 co:sc.isCoroutine=false
 gen:sc.isGenerator=false
 nd:N.Nodup
 pre:N.take P.length=P
 par:∀x∈P,sc.names.lookup x=some .local\/sc.names.lookup x=some .cell
 nofree:∀y∈sc.names,y.2≠.free
theorem bindL_out {kindOf:Str->Option WK}{x:Str}:∀{binds:List (Str×Value)} {m:3e0},(∀v,(x,v)∉binds)->bindL kindOf binds m x=m x
  | [],_,_=>rfl
  | (n,v)::r,m,h=>by
    unfold bindL
    rw[bindL_out fun w hw=>h w (YL _ hw)]
    split
    · have:x≠n:=by rintro rfl;exact h v YS
      simp[this]
    · rfl
theorem bindC_out {kindOf:Str->Option WK}{x:Str}:∀{binds:List (Str×Value)} {m:3e0},(∀v,(x,v)∉binds)->bindC kindOf binds m x=m x
  | [],_,_=>rfl
  | (n,v)::r,m,h=>by
    unfold bindC
    rw[bindC_out fun w hw=>h w (YL _ hw)]
    split
    · rfl
    · have:x≠n:=by rintro rfl;exact h v YS
      simp[this]
theorem bindL_get {kindOf:Str->Option WK}{x:Str}{v:Value}:∀{P:6e2} {vs:3e9} {i:Nat} {m:3e0},P.Nodup->P[i]? = some x->vs[i]? = some v->kindOf x=some .local->
  bindL kindOf (P.zip vs) m x=some v
 | [],_,_,_,_,h,_,_=>by simp at h
 | _::_,[],_,_,_,_,h,_=>by simp at h
 | p::P,w::vs,0,m,nd,h1,h2,hk=>by
  simp at h1 h2;subst h1;subst h2
  show bindL kindOf ((p,w)::P.zip vs) m p=_
  unfold bindL
  rw[bindL_out fun v hv=>(Y9.mp nd).1 (VQ hv).1,if_pos hk]
  simp
 | p::P,w::vs,i + 1,m,nd,h1,h2,hk=>by
  show bindL kindOf ((p,w)::P.zip vs) m x=_
  unfold bindL
  exact bindL_get (i:=i) (Y9.mp nd).2 (by simpa using h1) (by simpa using h2) hk
theorem bindC_get {kindOf:Str->Option WK}{x:Str}{v:Value}:∀{P:6e2} {vs:3e9} {i:Nat} {m:3e0},P.Nodup->P[i]? = some x->vs[i]? = some v->kindOf x≠some .local->
  bindC kindOf (P.zip vs) m x=some v
 | [],_,_,_,_,h,_,_=>by simp at h
 | _::_,[],_,_,_,_,h,_=>by simp at h
 | p::P,w::vs,0,m,nd,h1,h2,hk=>by
  simp at h1 h2;subst h1;subst h2
  show bindC kindOf ((p,w)::P.zip vs) m p=_
  unfold bindC
  rw[bindC_out fun v hv=>(Y9.mp nd).1 (VQ hv).1,if_neg hk]
  simp
 | p::P,w::vs,i + 1,m,nd,h1,h2,hk=>by
  show bindC kindOf ((p,w)::P.zip vs) m x=_
  unfold bindC
  exact bindC_get (i:=i) (Y9.mp nd).2 (by simpa using h1) (by simpa using h2) hk
noncomputable def start (N:6e2)(vs:List V):St:=vs.map some++YR (N.length - vs.length) none
noncomputable def cxOf (CX:CXT)(P:Yx)(w:World)(K:W.Frag)(mg:3e0)(base:Heap)(N:6e2)(qual:Str)(scope:Scope)(f:Addr)(cd:Value)(A:Around)(outer:List Env)(s:Shared)(H:Hp)(E:XK):Cx where
 prog:=P
 w:=w
 K:=K
 mg:=mg
 base:=base
 A:=A.deeper (envOfC qual scope s.heap.objs.size f cd)
 N:=N
 s₀:=s
 H₀:=H
 env:=envOfC qual scope s.heap.objs.size f cd
 outer:=outer
 stack:=envOfC qual scope s.heap.objs.size f cd::outer
 ex:=[]
 calm:=true
 fn:=fun _=>true
 pn:=[]
 xe:=fun e s'=>wpAny (model P w) (A.deeper (envOfC qual scope s.heap.objs.size f cd)) (leaving (envOfC qual scope s.heap.objs.size f cd) e) (fun _ s''=>CX outer H s E e s'') (fun e' s''=>CX outer H s E e' s'') s'
theorem cell_has {sc:Scope}{n:Nat}{x:Str}(h:sc.names.lookup x=some .cell):∃c,(cellsFrom n sc.names []).lookup x=some c:=by
 have q:=W.cellsFrom_some sc.names n [] (.inl h)
 exact WD.mp q
theorem inv_start {CX:CXT}{P:Yx}{w:World}{K:W.Frag}{mg:3e0}{base:Heap}{N ps:6e2}{qual:Str}{scope:Scope}{f:Addr}{cd:Value}{A:Around}{outer:List Env}{s s1:Shared}{H:Hp}{E:XK}{us:3e9}{vs:List V}
  (S:FnScope N ps scope) (hd:A.handled=none) (e0:Env0 P w K mg base A outer s H) (hl:vs.length=ps.length) (r:Vals vs us)
  (x:InCallC s s.heap.objs.size (bindL (envOfC qual scope s.heap.objs.size f cd).kindOf (ps.zip us) fun _=>none) (cellsFrom (s.heap.objs.size + 1) scope.names []) (bindC (envOfC qual scope s.heap.objs.size f cd).kindOf (ps.zip us) fun _=>none) s1):
  Inv (cxOf CX P w K mg base N qual scope f cd A outer s H E) [] (start N vs) H s1:=by
 have hpl:ps.length<=N.length:=by have:=congrArg List.length S.pre;rw[Xh] at this;lia
 obtain ⟨h1,tk,rfl,hk⟩:=x.done
 have noA:∀b:Addr,b∉(cxOf CX P w K mg base N qual scope f cd A outer s H E).ex:=fun b z=>absurd (show b∈([]:List Addr) from z) 5e2
 refine ⟨⟨e0.mod,S.kind,rfl,rfl,Yh _,fun y z c h1 h2=>?_,fun y hy=>?_,fun y c _ h=>?_,fun _=>hd,Around.frames_deeper e0.frames,.inr ⟨rfl,rfl⟩,fun b z=>absurd z (noA b),e0.bs,e0.bsz,fun b _ _=>noA b,fun b z=>absurd z (noA b),e0.funs,e0.frf⟩,
  rfl,e0.bare,Un.kept hk,⟨_,x.toInCall.ns,fun i y v h1 h2 h3=>?_⟩,fun y c h=>⟨_,x.cell y c h⟩,e0.hok.fresh (Yh _),fun y c h=>?_,fun p hp=>absurd (show p∈([]:List (Addr×Obj)) from hp) (by simp),e0.hok.kept hk,?_⟩
 ·exact name_of_addr x.apart (X3 h1) (X3 h2)
 ·have hy:scope.names.lookup y=some .cell\/scope.names.lookup y=some .free:=hy
  rcases hy with hy | hy
  ·exact cell_has hy
  ·exact absurd rfl (S.nofree _ (X3 hy))
 ·exact VO (x.above y c (X3 h))
 ·have hi:i < vs.length:=by
   unfold start at h2
   by_cases hi:i < vs.length
   ·exact hi
   ·rw[YY (by simpa using hi)] at h2
    rw[List.getElem?_replicate] at h2
    split at h2<;>cases h2
  have ha:vs[i]? = some v:=by
   unfold start at h2
   rw[Yd (by simpa using hi),YI] at h2
   cases e:vs[i]? with
   | none=>rw[e] at h2;cases h2
   | some a=>rw[e] at h2;cases h2;rfl
  obtain ⟨u,hu,rv⟩:=r.get ha
  have hp:ps[i]? = some y:=by
   rw[←S.pre,Xd 1e3];exact h1
  have ndP:ps.Nodup:=by rw[←S.pre];exact S.nd.sublist (List.take_sublist _ _)
  refine ⟨u,rv,?_⟩
  rcases S.par y (YH hp) with k | k
  ·exact .inl ⟨k,bindL_get ndP hp hu k⟩
  ·obtain ⟨c,e⟩:=cell_has (n:=s.heap.objs.size + 1) k
   refine .inr ⟨.inl k,c,e,?_⟩
   have q:=x.cell y c e
   rw[bindC_get ndP hp hu (by show scope.names.lookup y≠_;rw[k];decide)] at q
   exact q
 ·exact e0.hok.fresh (VO (x.above y c (X3 h)))
 ·unfold start
  show _=N.length
  rw[Y0,Yv,List.length_replicate]
  lia
theorem fn_of {CX:CXT}{P:Yx}{w:World}{K:W.Frag}{mg:3e0}{base:Heap}{k:Nat}{f:Addr}{name qual:Str}{params:Arguments}{body:List Stmt}{scope:Scope}{dV kV doc pm cdv ct oc:Value}{an od:Option Addr}
  {osl:Array (Option Value)} {N ps:6e2} {sp:Sp} (lk:K.lookup f=some ⟨oc,od,.func (W.fnOf name qual params body scope dV kV doc pm an cdv ct),osl⟩) (hcd:W.codeIn K cdv qual=true) (S:FnScope N ps scope)
  (len:∀vs H Q E,sp vs H Q E->vs.length=ps.length)
  (hbody:∀(A:Around) (outer:List Env) (s:Shared) (H:Hp) (vs:List V) (Q:VK) (E:XK),Room k (A.deeper (envOfC qual scope s.heap.objs.size f cdv))->sp vs H Q E->
   ∃t,PSs (cxOf CX P w K mg base N qual scope f cdv A outer s H E) body t/\t { nx:=fun _ H'=>Q .non H',rt:=Q } (start N vs) H):
  FnOk P w K mg base CX (k + 1) f (W.fnOf name qual params body scope dV kV doc pm an cdv ct) ps sp:=by
 refine ⟨len,fun A outer s H args us vs Q E hr e0 hb r hsp=>?_⟩
 have hl:=len _ _ _ _ hsp
 have KX:K.In s.heap:=e0.mod.kin.keeps fun b o e=>(e0.bs b o e).1
 have lim:s.heap.NoLimit:=e0.mod.nolimit.keeps fun b o e=>(e0.bs b o e).1
 have hkind:∀y∈ps.zip us,scope.names.lookup y.1=some .local\/(scope.names.lookup y.1=some .cell/\((cellsFrom (s.heap.objs.size + 1) scope.names []).lookup y.1).isSome=true):=fun ⟨n,v⟩ hy=>by
  rcases S.par n (VQ hy).1 with q | q
  ·exact .inl q
  ·exact .inr ⟨q,W.cellsFrom_some _ _ _ (.inl q)⟩
 refine codeAny_call_function hr.depth (KX _ _ lk) rfl S.co S.gen rfl (W.codeRec_of KX hcd) (hb _ _ _ _ ?_)
 refine wpAny_newFunctionEnv_cells S.kind hkind fun env he s1 x=>?_
 subst he
 refine ⟨lim.keeps x.toInCall.keep,codeAny_func ?_⟩
 obtain ⟨t,ht,hq⟩:=hbody A outer s H vs Q E (hr.deeper _) hsp
 have I:Inv (cxOf CX P w K mg base N qual scope f cdv A outer s H E) [] (start N vs) H s1:=inv_start S hr.hd e0 hl r x
 refine Xj (ht [] s1 (start N vs) H _ I hq) (fun fl s' hs=>?_) fun e s' hs=>hs
 have fin:∀{σ':St} {H':Hp} {v:V} {u:Value},Inv (cxOf CX P w K mg base N qual scope f cdv A outer s H E) [] σ' H' s'->RelV v u->Q v H'->CE outer P w H s Q u s':=
  fun {σ' H' v u} J rv q=>⟨v,H',J.os,J.bare,J.base,J.hok,rv,q⟩
 cases fl with
 | ret u=>
  obtain ⟨v,σ',H',J,rv,q⟩:=hs
  exact fin J rv q
 | next=>
  obtain ⟨σ',H',J,q⟩:=hs
  exact fin (v:=V.non) (u:=Xw) J rfl q
 | brk=>
  obtain ⟨_,_,_,q⟩:=hs
  exact We q
 | cont=>
  obtain ⟨_,_,_,q⟩:=hs
  exact We q
section
variable {X:Cx}{x:Str}{p pos:Pos}{e:Expr}{es:6e4}{t:TA}{id T:String}{r:List V->Hp->VK->Prop}
noncomputable def tCB (r:List V->Hp->VK->Prop)(t:TA):TE:=fun σ H Q=>t σ H fun vs H1=>r vs H1 Q
theorem pe_callB (hc:CallR X (.builtin id) r)(hg:Gl X x)(hm:X.mg x=none)(hv:Y8 x=some (.builtin id))(ha:PA X 6e5 t)(hn:x≠"__name__":=by decide)(hdb:5e6:=by decide)
  (he:1e5:=by rfl) (hpl:3e3:=by rfl):PE X 11e2 (tCB r t):=by
 sleep 8
 refine Vr (Zdq I hg hm hv ?_ hn hdb)
 exact PyProof.Rows.callWith_builtin1 (thn (ha pos pins s σ H _ I h) fun us s1 ⟨vs,H1,I1,r1,q1⟩=>hc pins s1 σ H1 vs us Q I1 r1 q1) he hpl
theorem pe_callTy (hc:CallR X (.type T) r)(hg:Gl X x)(hm:X.mg x=none)(hv:Y8 x=some (.type T))(ha:PA X 6e5 t)(hn:x≠"__name__":=by decide)(hdb:5e6:=by decide)
  (he:1e5:=by rfl) (hpl:3e3:=by rfl):PE X 11e2 (tCB r t):=by
 sleep 8
 refine Vr (Zdq I hg hm hv ?_ hn hdb)
 exact XH (thn (ha pos pins s σ H _ I h) fun us s1 ⟨vs,H1,I1,r1,q1⟩=>hc pins s1 σ H1 vs us Q I1 r1 q1) he hpl
end
end L2
namespace HT
open PySem PyProof.Rows
section
variable {prog:Yx}{w:World}{A:Around}{E:1e7}{s:Shared}
theorem cat_tup {t b:Addr}{vs ws:3e9}{Q:1e7}(ht:IsTup s.heap t vs.toArray)(hb:IsTup s.heap b ws.toArray)(hv:vs≠[])
  (h1:ws=[]->Q (.ref t) s) (h2:ws≠[]->Q 9e1 { s with heap:=s.heap.push { cls:=.type "tuple",data:=.seq (vs++ws).toArray } })
  (hsz:vs.length + ws.length<=Yo):wpAny 6e1 A (Wi .Add (.ref t) (.ref b)) Q E s:=by
 obtain ⟨⟨cls,dd,data,sl⟩,ho,hc,n,hd⟩:=id ht
 obtain ⟨⟨cls2,dd2,data2,sl2⟩,ho2,hc2,n2,hd2⟩:=id hb
 simp only at hc hd hc2 hd2
 subst hc hd hc2 hd2
 have e:vs.toArray++ws.toArray=(vs++ws).toArray:=by simp
 by_cases hw:ws=[]
 ·exact VR ⟨_,ho,rfl⟩ ⟨_,ho2,rfl⟩ VH seq_tuple_add WV WL (WE _ _)
   (tuple_addW1 t b vs.toArray ws.toArray n n2 dd dd2 sl sl2 (by simpa using hv) (by simp[hw])) ⟨ho,ho2,h1 hw⟩
 ·refine VR ⟨_,ho,rfl⟩ ⟨_,ho2,rfl⟩ VH seq_tuple_add WV WL (WE _ _)
   (tuple_addW2 t b vs.toArray ws.toArray n n2 dd dd2 sl sl2 (by simpa using hv) (by simpa using hw) (by rw[Yf,Yf];exact hsz)) ⟨ho,ho2,?_⟩
  rw[e]
  exact h2 hw
noncomputable def sIx (n d:Nat):Option Int->Nat
 | none=>d
 | some v=>if v < 0 then (v + (n:Int)).toNat else min v.toNat n
theorem sIx_le (n d:Nat)(hd:d<=n)(o:Option Int):sIx n d o<=n:=by
 cases o with
 | none=>exact hd
 | some v=>
  show (if v < 0 then (v + (n:Int)).toNat else min v.toNat n)<=n
  by_cases hv:v < 0
  ·rw[if_pos hv];lia
  ·rw[if_neg hv];exact Nat.min_le_right _ _
theorem clip_eq (v:Int)(n d:Nat):(if v < 0 then max (v + (n:Int)) 0 else min v (n:Int))=((sIx n d (some v):Nat):Int):=by
 show (if v < 0 then max (v + (n:Int)) 0 else min v (n:Int))=(((if v < 0 then (v + (n:Int)).toNat else min v.toNat n):Nat):Int)
 by_cases hv:v < 0
 ·simp only[if_pos hv];lia
 ·simp only[if_neg hv];lia
theorem adjust_gen (lo hi:Option Int)(n:Nat):Wx lo hi 1 (n:Int)=(((sIx n 0 lo:Nat):Int),((sIx n n hi:Nat):Int)):=by
 have h1:¬((1:Int) < 0):=by lia
 unfold Wx
 simp only[h1,if_false]
 refine Prod.ext ?_ ?_
 ·cases lo with
  | none=>rfl
  | some v=>exact clip_eq v n 0
 ·cases hi with
  | none=>rfl
  | some v=>exact clip_eq v n n
theorem places_gen (i j:Nat):XT (i:Int) (j:Int) 1=j - i:=by
 unfold XT
 have h1:(1:Int) > 0:=by lia
 simp only[h1,if_true,Int.ediv_one]
 split<;>lia
theorem slicePart_ {v:Value}{o:Option Int}{Q:Option Int->Shared->Prop}(p:IsPart v o)(h:Q o s):wpAny 6e1 A (Builtin.Slice.slicePartIndex v) Q E s:=by
 cases p with
 | none=>exact slicePart_none h
 | int i t=>exact slicePart_int h
theorem sliceApplied_gen {sl:Addr}{vl vu:Value}{lo hi:Option Int}{n:Nat}{Q:Int×Int×Nat->Shared->Prop}(hs:s.heap.IsSliceOf sl vl vu .none)(pl:IsPart vl lo)(pu:IsPart vu hi)
  (h:Q (((sIx n 0 lo:Nat):Int),1,sIx n n hi - sIx n 0 lo) s):wpAny 6e1 A (Vo (.ref sl) (pure (n:Int))) Q E s:=by
 obtain ⟨os,hos,hcs,hds⟩:=id hs
 unfold Vo Builtin.Slice.sliceFields
 refine Yb (Yb (V4 hos hds (x:=vl) rfl (Yb (V4 hos hds (x:=vu) rfl (Yb (V4 hos hds (x:=.none) rfl (Yg ?_)))))))
 refine Yb (slicePart_none ?_)
 show wpAny _ _ (if ((1:Int)==0)=true then _ else _) _ _ s
 rw[if_neg 1e4]
 refine Yb (slicePart_ pl (Yb (slicePart_ pu (Yb (Yg ?_)))))
 show wpAny _ _ (match Wx lo hi 1 (n:Int) with | (lo,hi)=>pure (lo,(1:Int),XT lo hi 1)) _ _ s
 rw[adjust_gen lo hi n]
 show wpAny _ _ (pure (((sIx n 0 lo:Nat):Int),(1:Int),XT ((sIx n 0 lo:Nat):Int) ((sIx n n hi:Nat):Int) 1)) _ _ s
 rw[places_gen]
 exact Yg h
theorem pick_gen (xs:Array Value)(i k:Nat):((Yk k).filterMap fun (m:Nat)=>xs[((i:Int) + (m:Int) * 1).toNat]?).toArray=((xs.toList.drop i).take k).toArray:=by
 have e:(fun (m:Nat)=>xs[((i:Int) + (m:Int) * 1).toNat]?)=fun m=>xs[i + m]?:=by
  funext m
  have:((i:Int) + (m:Int) * 1).toNat=i + m:=by lia
  rw[this]
 rw[e]
 have:=pick_run xs i k
 rw[List.filterMap_map] at this
 have e2:((fun x=>xs[x]?) ∘ fun x=>i + x)=fun m=>xs[i + m]?:=rfl
 rw[e2] at this
 rw[this]
theorem getItem_tuple_cut {t sl:Addr}{items:Array Value}{vl vu:Value}{lo hi:Option Int}{Q:1e7}(ht:IsTup s.heap t items)(hs:s.heap.IsSliceOf sl vl vu .none)(pl:IsPart vl lo)(pu:IsPart vu hi)
  (hw:¬(sIx items.size 0 lo=0/\sIx items.size items.size hi=items.size))
  (h:Q 9e1 { s with heap:=s.heap.push { cls:=.type "tuple",data:=.seq ((items.toList.drop (sIx items.size 0 lo)).take (sIx items.size items.size hi - sIx items.size 0 lo)).toArray } })
  (hsz:items.size<=Yo):wpAny 6e1 A (V5 (.ref t) (.ref sl)) Q E s:=by
 have htake:sizeOk (.seq ((items.toList.drop (sIx items.size 0 lo)).take (sIx items.size items.size hi - sIx items.size 0 lo)).toArray):=by
  show ((items.toList.drop (sIx items.size 0 lo)).take (sIx items.size items.size hi - sIx items.size 0 lo)).toArray.size<=Yo
  rw[Yf,Xh,VI,YX]
  lia
 have hj:sIx items.size items.size hi<=items.size:=sIx_le _ _ (Yh _) hi
 obtain ⟨os,hos,hcs,hds⟩:=id hs
 have hTs:s.TypeIs (.ref sl) "slice":=⟨os,hos,hcs⟩
 unfold V5
 try with_reducible refine Xb ?_
 first | refine Yb (Yg ?_) | skip
 refine Yb (wpAny_sequenceKey ht.typeIs 1e4 ?_)
 refine Yb (X4 (name:=Vs "__getitem__") ht.typeIs Y3
  (Xu Y3 ht.typeIs entry_tuple_getitem ?_ (args_tuple_getitem _ _)))
 show wpAny _ _ (Vp (.ref t) >>= _) _ _ s
 refine Yb (tupleItemsOf_ ht ?_)
 refine Yb (W3 hTs ?_)
 rw[if_pos 1e4]
 refine Yb (sliceApplied_gen hs pl pu ?_)
 have hno:¬((((sIx items.size 0 lo:Nat):Int)==0&&(1:Int)==1&&(sIx items.size items.size hi - sIx items.size 0 lo)==items.size)=true):=by
  intro q
  rw[Yt,Yt] at q
  have q1:((sIx items.size 0 lo:Nat):Int)=0:=eq_of_beq q.1.1
  have q2:sIx items.size items.size hi - sIx items.size 0 lo=items.size:=eq_of_beq q.2
  exact hw ⟨by lia,by lia⟩
 show wpAny _ _ (if (((sIx items.size 0 lo:Nat):Int)==0&&(1:Int)==1&&(sIx items.size items.size hi - sIx items.size 0 lo)==items.size)=true then _ else _) _ _ s
 rw[if_neg hno,pick_gen]
 first
  | exact Yb (m:=XW _) (Xp (Yg ⟨_,rfl,Yg h⟩) htake)
  | exact Yb (m:=XW _) (Xp (Yb (Yg (Yg ⟨_,rfl,Yg h⟩))) htake)
  | exact Yb (Yb (m:=XW _) (Xp (Yg (Yg ⟨_,rfl,Yg h⟩)) htake))
  | exact Yb (Yb (m:=XW _) (Xp (Yg ⟨_,rfl,Yg h⟩) htake))
end
end HT
namespace L2
open PySem PySem.Spec PyProof.Rows
abbrev TO:=St->Hp->(Option Int->Hp->Prop)->Prop
def PO (X:Cx)(e:Option Expr)(t:TO):Prop:=
 ∀(pins:2e1) (s:Shared) (σ:St) (H:Hp) (Q:Option Int->Hp->Prop),Inv X pins σ H s->t σ H Q->
  wpAny 2e8 X.A (evalPart e X.env) (fun u s'=>∃o H',Inv X pins σ H' s'/\IsPart u o/\Q o H') X.xe s
noncomputable def tNoPart:TO:=fun _ H Q=>Q none H
noncomputable def tPart (t:TE):TO:=fun σ H Q=>t σ H fun x H1=>∃i,x=.int i/\Q (some i) H1
section
variable {X:Cx}{e:Expr}{te:TE}{lo hi:Option Expr}{tl th:TO}{pos p2:Pos}
theorem po_none:PO X none tNoPart:=by
 sleep 8
 rw[evalPart_none]
 exact Yg ⟨none,H,I,.none,h⟩
theorem po_some (h:PE X e te):PO X (some e) (tPart te):=by
 intro pins s σ H Q I hw
 rw[evalPart_some]
 refine thn (h pins s σ H _ I hw) fun u s1 h_=>?_
 obtain ⟨x,H1,I1,r1,q1⟩:=h_
 obtain ⟨i,rfl,q⟩:=q1
 obtain ⟨t,rfl⟩:=r1
 exact ⟨some i,H1,I1,.int i t,q⟩
def SlR (X:Cx)(r:V->Option Int->Option Int->Hp->VK->Prop):Prop:=
 ∀(pins:2e1) (s:Shared) (σ:St) (H:Hp) (x:V) (v vl vu:Value) (lo hi:Option Int) (sl:Addr) (Q:VK),Inv X pins σ H s->RelV x v->s.heap.IsSliceOf sl vl vu .none->IsPart vl lo->IsPart vu hi->r x lo hi H Q->
  ∃T id,typeLookup (.type T) "__getitem__"=pure (some (.builtin id))/\s.TypeIs v T/\wpAny 2e8 X.A (V5 v (.ref sl)) (EP X pins σ Q) X.xe s
theorem SlR.or {r r':V->Option Int->Option Int->Hp->VK->Prop}(h:SlR X r)(h':SlR X r'):SlR X (fun x lo hi H Q=>r x lo hi H Q\/r' x lo hi H Q):=by
 intro pins s σ H x v vl vu lo hi sl Q I rx hs pl pu q
 rcases q with q | q
 ·exact h pins s σ H x v vl vu lo hi sl Q I rx hs pl pu q
 ·exact h' pins s σ H x v vl vu lo hi sl Q I rx hs pl pu q
noncomputable def tSl (r:V->Option Int->Option Int->Hp->VK->Prop)(te:TE)(tl th:TO):TE:=fun σ H Q=>te σ H fun x H1=>tl σ H1 fun l H2=>th σ H2 fun u H3=>r x l u H3 Q
theorem pe_slice {r:V->Option Int->Option Int->Hp->VK->Prop}(hr:SlR X r)(he:PE X e te)(hl:PO X lo tl)(hu:PO X hi th):PE X (.Subscript e (.Slice lo hi none p2) pos) (tSl r te tl th):=by
 sleep 8
 refine Subscript_ (thn (he pins s σ H _ I h) fun v s1 h_=>?_)
 obtain ⟨x,H1,I1,r1,q1⟩:=h_
 refine wpAny_Slice (thn (hl pins s1 σ H1 _ I1 q1) fun vl s2 ⟨l,H2,I2,pl,q2⟩=>thn (hu pins s2 σ H2 _ I2 q2) fun vu s3 h_=>?_)
 obtain ⟨u,H3,I3,pu,q3⟩:=h_
 rw[evalPart_none]
 refine Yg ?_
 have I4:Inv X pins σ H3 { s3 with heap:=s3.heap.push { cls:=.type "slice",data:=.fields #[vl,vu,.none] } }:=I3.kept (t':=s3.toks) fun b ob q=>Ya _ q
 obtain ⟨T,id,hT,ht,hg⟩:=hr pins { s3 with heap:=s3.heap.push { cls:=.type "slice",data:=.fields #[vl,vu,.none] } } σ H3 x v vl vu l u s3.heap.objs.size Q I4 r1 (Heap.IsSliceOf.new ..) pl pu q3
 show wpAny 2e8 X.A (subscriptTail e (.Slice lo hi none p2) v (.ref s3.heap.objs.size)) (EP X pins σ Q) X.xe { s3 with heap:=s3.heap.push { cls:=.type "slice",data:=.fields #[vl,vu,.none] } }
 exact tail_any (ops:=[.ref s3.heap.objs.size,v]) ht hT hg (by with_unfolding_all rfl)
def cutV (xs:List V)(lo hi:Option Int):List V:=(xs.drop (HT.sIx xs.length 0 lo)).take (HT.sIx xs.length xs.length hi - HT.sIx xs.length 0 lo)
theorem Zc8 (xs:List V)(lo hi:Option Int):(cutV xs lo hi).length<=xs.length:=by
 unfold cutV
 rw[Xh,VI]
 lia
def rSlT (K:W.Frag):V->Option Int->Option Int->Hp->VK->Prop:=fun x lo hi H Q=>∃a xs,x=.ref a/\SqT K H a xs/\
 ¬(HT.sIx xs.length 0 lo=0/\HT.sIx xs.length xs.length hi=xs.length)/\∀p,H p=none->Q (.ref p) (upd H p (.tup (cutV xs lo hi)))
theorem sl_tup:SlR X (rSlT X.K):=by
 intro pins s σ H x v vl vu lo hi sl Q I rx hs pl pu h
 obtain ⟨a,xs,rfl,hx,hw,q⟩:=h
 cases rx
 obtain ⟨its,r,ht,hz⟩:=I.tuple hx
 have hlen:its.toArray.size=xs.length:=by rw[Yf];exact r.length.symm
 refine ⟨"tuple",_,Y3.lookup,ht.typeIs,?_⟩
 refine HT.getItem_tuple_cut ht hs pl pu (by rw[hlen];exact hw) ?_ (by rw[hlen];exact hz)
 rw[hlen]
 refine ⟨.ref s.heap.objs.size,_,I.laid (t':=s.toks) (o:=.tup (cutV xs lo hi)) (fun b ob q=>Ya _ q) (Yh _) ?_,rfl,q _ (I.hok.fresh (Yh _))⟩
 exact ⟨Yz (Zc8 xs lo hi) hz,_,(r.drop (HT.sIx xs.length 0 lo)).take (HT.sIx xs.length xs.length hi - HT.sIx xs.length 0 lo),IsTup.new _ _⟩
def rCatT (K:W.Frag):R2:=fun x y H Q=>∃a b xs ys,x=.ref a/\y=.ref b/\SqT K H a xs/\SqT K H b ys/\xs≠[]/\xs.length + ys.length<=Yo/\
 (ys=[]->Q (.ref a) H)/\(ys≠[]->∀p,H p=none->Q (.ref p) (upd H p (.tup (xs++ys))))
theorem Vals.nil_iff {xs:List V}{us:3e9}(r:Vals xs us):us=[]↔xs=[]:=by
 cases r with
 | nil=>simp
 | cons _ _=>simp
theorem op_catT:OpR X (Wi .Add) (rCatT X.K):=by
 sleep 4
 obtain ⟨a,b,xs,ys,rfl,rfl,ha,hb,hx,hz,q1,q2⟩:=h
 cases rx
 cases ry
 obtain ⟨its,r1,p1,_⟩:=I.tuple ha
 obtain ⟨its2,r2,p2,_⟩:=I.tuple hb
 refine HT.cat_tup p1 p2 (fun z=>hx (r1.nil_iff.mp z)) (fun z=>⟨.ref a,H,I,rfl,q1 (r2.nil_iff.mp z)⟩) (fun z=>?_) (by rw[←r1.length,←r2.length];exact hz)
 refine ⟨.ref s.heap.objs.size,_,I.laid (t':=s.toks) (o:=.tup (xs++ys)) (fun b ob q=>Ya _ q) (Yh _) ?_,rfl,q2 (fun w=>z (r2.nil_iff.mpr w)) _ (I.hok.fresh (Yh _))⟩
 exact ⟨by rw[Y0];exact hz,_,r1.append r2,IsTup.new _ _⟩
end
noncomputable def ixN (n:Nat)(i:Int):Option Nat:=if 0<=i then (if i < n then some i.toNat else none) else if -(n:Int)<=i then some (i + n).toNat else none
def atI {α:Type}(xs:List α)(i:Int):Option α:=(ixN xs.length i).bind fun j=>xs[j]?
theorem ixN_seq {n:Nat}{i:Int}{j:Nat}(h:ixN n i=some j):seqIndex? i n=some j/\j < n/\-(n:Int)<=i/\i < n:=by
 unfold ixN at h
 by_cases h0:0<=i
 ·rw[if_pos h0] at h
  by_cases h1:i < n
  ·rw[if_pos h1] at h
   have e:i.toNat=j:=YC h
   exact ⟨by rw[seqIndex_of h0 h1,e],by lia,by lia,h1⟩
  ·rw[if_neg h1] at h;cases h
 ·rw[if_neg h0] at h
  by_cases h1:-(n:Int)<=i
  ·rw[if_pos h1] at h
   have e:(i + n).toNat=j:=YC h
   exact ⟨by rw[seqIndex_neg 1e3 h1,e],by lia,h1,by lia⟩
  ·rw[if_neg h1] at h;cases h
theorem atI_get {α:Type}{xs:List α}{i:Int}{v:α}(h:atI xs i=some v):∃j,seqIndex? i xs.length=some j/\xs[j]? = some v/\j < xs.length/\-(xs.length:Int)<=i/\i < xs.length:=by
 unfold atI at h
 cases e:ixN xs.length i with
 | none=>rw[e] at h;cases h
 | some j=>
  rw[e] at h
  obtain ⟨h1,h2,h3,h4⟩:=ixN_seq e
  exact ⟨j,h1,h,h2,h3,h4⟩
def PlainIx (b:Expr):Prop:=∀o i,subscripted b false o i=operate [o,i] (V5 o i)
def IxR (X:Cx)(r:R2):Prop:=
 ∀(value slice:Expr) (pins:2e1) (s:Shared) (σ:St) (H:Hp) (x y:V) (v u:Value) (Q:VK),Inv X pins σ H s->RelV x v->RelV y u->r x y H Q->
  subscripted slice false v u=operate [v,u] (V5 v u)->wpAny 2e8 X.A (subscriptTail value slice v u) (EP X pins σ Q) X.xe s
def MtR (X:Cx)(id:String)(r:13e8):Prop:=
 ∀(pins:2e1) (s:Shared) (σ:St) (H:Hp) (x:V) (xs:List V) (v:Value) (us:3e9) (Q:VK),Inv X pins σ H s->RelV x v->Vals xs us->r x xs H Q->
  wpAny 2e8 X.A (call (.builtin id) (v::us)) (EP X pins σ Q) X.xe s
section
variable {X:Cx}{a b:Expr}{ta tb:TE}{pos:Pos}
theorem IxR.or {r r':R2}(h:IxR X r)(h':IxR X r'):IxR X (fun x y H Q=>r x y H Q\/r' x y H Q):=by
 intro value slice pins s σ H x y v u Q I rx ry q hs
 rcases q with q | q
 ·exact h value slice pins s σ H x y v u Q I rx ry q hs
 ·exact h' value slice pins s σ H x y v u Q I rx ry q hs
theorem pe_ix {r:R2}(hr:IxR X r)(ha:PE X a ta)(hb:PE X b tb)(hs:PlainIx b):PE X (.Subscript a b pos) (tOp r ta tb):=by
 sleep 8
 exact Subscript_ (binT ha hb I h fun v u s2 x y H2 I2 rx ry q=>hr a b pins s2 σ H2 x y v u Q I2 rx ry q (hs _ _))
def rIxL (K:W.Frag):R2:=fun x y H Q=>∃p xs i v,x=.ref p/\y=.int i/\SqL K H p xs/\atI xs i=some v/\Q v H
def rIxT (K:W.Frag):R2:=fun x y H Q=>∃p xs i v,x=.ref p/\y=.int i/\SqT K H p xs/\atI xs i=some v/\Q v H
def rIxS:R2:=fun x y H Q=>∃z i c,x=.str z/\y=.int i/\z.length<=Yo/\atI z.cps.toList i=some c/\Q (.str ⟨#[c]⟩) H
theorem ix_list:IxR X (rIxL X.K):=by
 intro value slice pins s σ H x y v u Q I rx ry h hs
 obtain ⟨p,xs,i,z,rfl,rfl,hq,he,q⟩:=h
 cases rx
 obtain ⟨t,rfl⟩:=ry
 obtain ⟨its,r,pl,hz⟩:=I.list hq
 obtain ⟨j,h1,h2,h3,h4,h5⟩:=atI_get he
 obtain ⟨w,ew,rw'⟩:=r.get h2
 have hl:=r.length
 have hn:=line63
 have fin:EP X pins σ Q w s:=⟨z,H,I,rw',q⟩
 by_cases h0:0<=i
 ·have hj:i.toNat=j:=by
   rw[seqIndex_of h0 h5] at h1
   exact YC h1
  exact item_listR pl.isList h0 1e3 (by rw[hj];simpa using ew) fin hs
 ·have hj:(i + (its.toArray.size:Int)).toNat=j:=by
   rw[seqIndex_neg 1e3 h4] at h1
   rw[Yf,←hl]
   exact YC h1
  exact subscriptTail_builtinR (x:=w) pl.isList.typeIs slot_list_getitem.lookup
   (wpAny_getItem_list_neg (Q:=fun r s'=>r=w/\EP X pins σ Q r s') pl.isList 1e3 (by rw[Yf]<;>lia) 1e3 (by rw[hj];simpa using ew) ⟨rfl,fin⟩) hs
theorem ix_tup:IxR X (rIxT X.K):=by
 intro value slice pins s σ H x y v u Q I rx ry h hs
 obtain ⟨p,xs,i,z,rfl,rfl,hq,he,q⟩:=h
 cases rx
 obtain ⟨t,rfl⟩:=ry
 obtain ⟨its,r,pl,hz⟩:=I.tuple hq
 obtain ⟨j,h1,h2,h3,h4,h5⟩:=atI_get he
 obtain ⟨w,ew,rw'⟩:=r.get h2
 have hl:=r.length
 have hn:=line63
 have fin:EP X pins σ Q w s:=⟨z,H,I,rw',q⟩
 exact subscriptTail_builtinR (x:=w) pl.typeIs slot_tuple_getitem.lookup
  (getItem_tuple (j:=j) (Q:=fun r s'=>r=w/\EP X pins σ Q r s') pl 1e3 1e3 (by rw[Yf,←hl];exact h1) (by simpa using ew) ⟨rfl,fin⟩) hs
theorem ix_str:IxR X rIxS:=by
 intro value slice pins s σ H x y v u Q I rx ry h hs
 obtain ⟨z,i,c,rfl,rfl,hz,he,q⟩:=h
 sleep 10
 obtain ⟨t',rfl⟩:=ry
 obtain ⟨j,h1,h2,h3,h4,h5⟩:=atI_get he
 have hl:z.cps.toList.length=z.length:=by simp[Str.length]
 rw[hl] at h1 h4 h5
 have hn:=line63
 exact tail_any (typeIs_str s z t) slot_str_getitem.lookup (getItem_str (c:=c) (by
  have e1:decide (i < -(2 ^ 63:Int))=false:=decide_eq_false 1e3
  have e2:decide (i ≥ 2 ^ 63)=false:=decide_eq_false 1e3
  rw[e1,e2,Bool.or_false]) (by rw[h1];simpa using h2) ⟨.str ⟨#[c]⟩,H,I.tok _,⟨_,rfl⟩,q⟩) hs
def rIx (K:W.Frag):R2:=fun x y H Q=>rIxL K x y H Q\/rIxT K x y H Q\/rIxS x y H Q
theorem ix_seq:IxR X (rIx X.K):=ix_list.or (ix_tup.or ix_str)
theorem mapSeq_set (its:3e9)(n j:Nat)(u:Value):XC (·.setIfInBounds j u) { cls:=.type "list",data:=.seq its.toArray n }={ cls:=.type "list",data:=.seq (its.set j u).toArray n }:=by
 simp[XC]
theorem Inv.lst {pins:2e1}{σ:St}{H:Hp}{s:Shared}{p:Addr}{xs:List V}(I:2e4)(h:H p=some (.lst xs)):
  ∃(its:3e9) (n:Nat),Vals xs its/\s.heap.get? p=some { cls:=.type "list",data:=.seq its.toArray n }/\xs.length<=sizeLine:=by
 obtain ⟨z,its,n,r,e⟩:=I.hok p _ h
 exact ⟨its,n,r,e,z⟩
theorem Inv.lstUpd {pins:2e1}{σ:St}{H:Hp}{s:Shared}{p:Addr}{xs ys:List V}{its its':3e9}{n n':Nat}{f:Obj->Obj}(I:2e4)(h:H p=some (.lst xs))
  (ho:s.heap.get? p=some { cls:=.type "list",data:=.seq its.toArray n }) (hf:f { cls:=.type "list",data:=.seq its.toArray n }={ cls:=.type "list",data:=.seq its'.toArray n' }) (r:Vals ys its') (hz:ys.length<=Yo) (t:Nat):
  Inv X pins σ (upd H p (.lst ys)) { s with heap:=s.heap.update p f,toks:=t }:=by
 have e:(s.heap.update p f).get? p=some { cls:=.type "list",data:=.seq its'.toArray n' }:=by
  rw[W4 f ho (by rw[hf]<;>rfl),hf]
 refine I.write (x:=p) (e:=p) (by rw[h];trivial) (.inl rfl) (fun b u hb q=>(Heap.get?_update_other _ _ (Xi hb)).trans q) ⟨_,e⟩ ?_
 exact ⟨hz,its',n',r,e⟩
def rSetL:V->V->V->Hp->(Hp->Prop)->Prop:=fun o i v H Q=>∃p xs k j,o=.ref p/\i=.int k/\H p=some (.lst xs)/\ixN xs.length k=some j/\Q (upd H p (.lst (xs.set j v)))
theorem set_list:PSet X rSetL:=by
 intro pins s σ H o i v ov iv u Q I ro ri rv h
 obtain ⟨p,xs,k,j,rfl,rfl,hp,hj,q⟩:=h
 cases ro
 obtain ⟨t,rfl⟩:=ri
 obtain ⟨its,n,r,ho,hz⟩:=I.lst hp
 obtain ⟨h1,h2,h3,h4⟩:=ixN_seq hj
 have hl:=r.length
 have hn:=line63
 have I':Inv X pins σ (upd H p (.lst (xs.set j v))) { s with heap:=s.heap.update p (XC (·.setIfInBounds j u)) }:=
  I.lstUpd hp ho (mapSeq_set its n j u) (r.set rv j) (by rw[Xm];exact hz) s.toks
 by_cases h0:0<=k
 ·have hk:k.toNat=j:=by
   rw[seqIndex_of h0 h4] at h1
   exact YC h1
  exact W.ki_setAt ho h0 1e3 (by rw[Yf,←hl];exact h4) (by rw[hk];exact ⟨_,I',q⟩)
 ·have hk:(k + (its.toArray.size:Int)).toNat=j:=by
   rw[seqIndex_neg 1e3 h3] at h1
   rw[Yf,←hl]
   exact YC h1
  exact W.ki_setBack ho 1e3 (by rw[Yf,←hl];exact h3) 1e3 (by rw[hk];exact ⟨_,I',q⟩)
theorem slice_bounds (lo hi:Option Int)(n:Nat):(WX lo hi none n).1=((HT.sIx n 0 lo:Nat):Int)/\(WX lo hi none n).2.1=((HT.sIx n n hi:Nat):Int)/\(WX lo hi none n).2.2=1:=by
 refine ⟨?_,?_,rfl⟩
 ·cases lo with
  | none=>simp[WX,HT.sIx]
  | some i=>
   simp only[WX,HT.sIx,Option.getD_none,show (1:Int) > 0 by decide,if_true]
   by_cases h:i < 0
   ·simp only[h,if_true]<;>lia
   ·simp only[h,if_false]<;>lia
 ·cases hi with
  | none=>simp[WX,HT.sIx]
  | some i=>
   simp only[WX,HT.sIx,Option.getD_none,show (1:Int) > 0 by decide,if_true]
   by_cases h:i < 0
   ·simp only[h,if_true]<;>lia
   ·simp only[h,if_false]<;>lia
theorem slicePick_cut (its:3e9)(lo hi:Option Int):slicePick its.toArray lo hi none=((its.drop (HT.sIx its.length 0 lo)).take (HT.sIx its.length its.length hi - HT.sIx its.length 0 lo)).toArray:=by
 obtain ⟨h1,h2,h3⟩:=slice_bounds lo hi its.toArray.size
 unfold slicePick
 rw[h1,h2,h3]
 simp only[sliceRange_one,pick_run,Yf]<;>rfl
def rSlL (K:W.Frag):V->Option Int->Option Int->Hp->VK->Prop:=fun x lo hi H Q=>∃a xs,x=.ref a/\SqL K H a xs/\∀p,H p=none->Q (.ref p) (upd H p (.lst (cutV xs lo hi)))
theorem sl_list:SlR X (rSlL X.K):=by
 intro pins s σ H x v vl vu lo hi sl Q I rx hs pl pu h
 obtain ⟨a,xs,rfl,hx,q⟩:=h
 cases rx
 obtain ⟨its,r,ht,hz⟩:=I.list hx
 have hlen:=r.length
 refine ⟨"list",_,slot_list_getitem.lookup,ht.isList.typeIs,?_⟩
 refine wpAny_getItem_list_slice ht.isList hs pl pu .none 5e2 ?_ (by rw[Yf]<;>lia)
 rw[slicePick_cut,←hlen]
 refine ⟨.ref s.heap.objs.size,_,I.laid (t':=s.toks) (o:=.lst (cutV xs lo hi)) (fun b ob q=>Ya _ q) (Yh _) ?_,rfl,q _ (I.hok.fresh (Yh _))⟩
 exact ⟨Yz (Zc8 xs lo hi) hz,_,0,(r.drop (HT.sIx xs.length 0 lo)).take (HT.sIx xs.length xs.length hi - HT.sIx xs.length 0 lo),Yq _ rfl⟩
theorem CallR.or {f:Value}{r r':List V->Hp->VK->Prop}(h:CallR X f r)(h':CallR X f r'):CallR X f (fun xs H Q=>r xs H Q\/r' xs H Q):=by
 intro pins s σ H xs us Q I rs q
 rcases q with q | q
 ·exact h pins s σ H xs us Q I rs q
 ·exact h' pins s σ H xs us Q I rs q
theorem call_list_of:CallR X (.type "list") (fun xs H Q=>∃p ys,xs=[.ref p]/\(SqL X.K H p ys\/SqT X.K H p ys)/\∀l,H l=none->Q (.ref l) (upd H l (.lst ys))):=by
 intro pins s σ H xs us Q I r h
 obtain ⟨p,ys,rfl,hq,q⟩:=h
 obtain ⟨u,rfl,rx⟩:=vals1 r
 cases rx
 have fin:∀(its:3e9),Vals ys its->ys.length<=Yo->∀(h':Heap) (c':Nat),(∀b o',s.heap.get? b=some o'->h'.get? b=some o')->
   h'.get? s.heap.objs.size=some { cls:=.type "list",dict:=none,data:=.seq its.toArray c',slots:=#[] }->EP X pins σ Q 9e1 { s with heap:=h' }:=fun its r' hz h' c' kp e=>
  ⟨.ref s.heap.objs.size,_,I.laid (t':=s.toks) kp (Yh _) (show ObjOk X.prog X.w _ h' _ (.lst ys) from ⟨hz,its,c',r',e⟩),rfl,q _ (I.hok.fresh (Yh _))⟩
 rcases hq with hq | hq
 ·obtain ⟨its,r',pl,hz⟩:=I.list hq
  have hlen:=r'.length
  obtain ⟨o,ho,hc,n,hd⟩:=pl.isList
  exact call_list_seq p (.inl rfl) ho hc hd (fun h' c' kp e=>fin its r' hz h' c' kp e) (by simp only[Yf]<;>lia)
 ·obtain ⟨its,r',pl,hz⟩:=I.tuple hq
  have hlen:=r'.length
  obtain ⟨o,ho,hc,n,hd⟩:=pl
  exact call_list_seq p (.inr rfl) ho hc hd (fun h' c' kp e=>fin its r' hz h' c' kp e) (by simp only[Yf]<;>lia)
theorem call_tuple_of:CallR X (.type "tuple") (fun xs H Q=>∃p ys,xs=[.ref p]/\((SqL X.K H p ys/\∀l,H l=none->Q (.ref l) (upd H l (.tup ys)))\/(SqT X.K H p ys/\Q (.ref p) H))):=by
 intro pins s σ H xs us Q I r h
 obtain ⟨p,ys,rfl,h⟩:=h
 obtain ⟨u,rfl,rx⟩:=vals1 r
 cases rx
 rcases h with ⟨hq,q⟩ | ⟨hq,q⟩
 ·obtain ⟨its,r',pl,hz⟩:=I.list hq
  have hlen:=r'.length
  refine call_tuple_list pl.isList (fun h' kp=>?_) (by simp only[Yf]<;>lia)
  have I1:Inv X pins σ H { s with heap:=h' }:=I.kept (t':=s.toks) kp
  have I2:Inv X pins σ (upd H h'.objs.size (.tup ys)) { s with heap:=h'.push { cls:=.type "tuple",data:=.seq its.toArray } }:=
   I1.laid (t':=s.toks) (fun b o e=>Ya _ e) (Yh _) (show ObjOk X.prog X.w _ _ _ (.tup ys) from ⟨hz,its,r',IsTup.new _ _⟩)
  exact ⟨.ref h'.objs.size,_,I2,rfl,q _ (I1.hok.fresh (Yh _))⟩
 ·obtain ⟨its,r',pl,hz⟩:=I.tuple hq
  exact call_tuple_same pl ⟨.ref p,H,I,rfl,q⟩
def tyV (K:W.Frag)(T:String)(x:V)(H:Hp):Prop:=match x with
 | .str _=>T="str"
 | .int _=>T="int"
 | .ref p=>(T="list"/\∃xs,SqL K H p xs)\/(T="tuple"/\∃o,K.lookup p=some o/\o.cls=.type "tuple"/\o.dict=none)\/
   (T="dict"/\((∃kvs,H p=some (.dK kvs))\/∃kvs,H p=some (.dT kvs)))\/(T="set"/\∃S n,H p=some (.set S n))
 | _=>False
theorem tyV_is {pins:2e1}{σ:St}{H:Hp}{s:Shared}{T:String}{x:V}{v:Value}(I:2e4)(r:RelV x v)(ty:tyV X.K T x H):
  s.TypeIs v T/\∀a,v=.ref a->∃ob,s.heap.get? a=some ob/\ob.dict=none:=by
 cases x with
 | str z=>
  obtain ⟨t,rfl⟩:=r
  cases (show T="str" from ty)
  exact ⟨typeIs_str s z t,fun _ e=>nomatch e⟩
 | int i=>
  obtain ⟨t,rfl⟩:=r
  cases (show T="int" from ty)
  exact ⟨typeIs_int s i t,fun _ e=>nomatch e⟩
 | ref p=>
  cases r
  rcases ty with ⟨rfl,xs,hq⟩ | ⟨rfl,o,hk,hc,hd⟩ | ⟨rfl,hk⟩ | ⟨rfl,S,n,hk⟩
  ·obtain ⟨its,_,pl,_⟩:=I.list hq
   refine ⟨pl.isList.typeIs,fun a e=>?_⟩
   cases e
   obtain ⟨o,n,e,c,hd,_⟩:=pl
   exact ⟨o,e,hd⟩
  ·refine ⟨⟨o,I.kIn p o hk,hc⟩,fun a e=>?_⟩
   cases e
   exact ⟨o,I.kIn _ o hk,hd⟩
  ·have z:∃o,s.heap.get? p=some o/\o.ExactDict:=by
    rcases hk with ⟨kvs,hk⟩ | ⟨kvs,hk⟩
    ·obtain ⟨_,_,_,_,o,_,_,e,ex,_⟩:=I.hok p _ hk
     exact ⟨o,e,ex⟩
    ·obtain ⟨_,_,_,_,o,_,_,e,ex,_⟩:=I.hok p _ hk
     exact ⟨o,e,ex⟩
   obtain ⟨o,e,ex⟩:=z
   refine ⟨⟨o,e,ex.1⟩,fun a e2=>?_⟩
   cases e2
   exact ⟨o,e,ex.2.1⟩
  ·obtain ⟨o,_,_,_,e,ex,_⟩:=I.hok p _ hk
   refine ⟨⟨o,e,ex.1⟩,fun a e2=>?_⟩
   cases e2
   exact ⟨o,e,ex.2.1⟩
 | _=>exact We ty
noncomputable def tBM0 (K:W.Frag)(T:String)(r:13e8)(to:TE):TE:=fun σ H Q=>to σ H fun x H1=>tyV K T x H1/\r x [] H1 Q
noncomputable def tBM (K:W.Frag)(T:String)(r:13e8)(to:TE)(t:TA):TE:=fun σ H Q=>to σ H fun x H1=>tyV K T x H1/\t σ H1 fun xs H2=>r x xs H2 Q
variable {o e:Expr}{es:6e4}{to:TE}{t:TA}{name:Str}{apos cpos:Pos}{T id:String}{r:13e8}
theorem pe_bm0 (pa:PlainAttrs T)(slot:Slot T name id)(hty:typeOf (.builtin id)=pure (.type "method_descriptor"))(hm:MtR X id r)(ho:PE X o to)
  (hbase:XF o name X.env (eval o X.env)=eval o X.env:=by rfl) (hline:12e2:=by rfl):PE X (.Call (.Attribute o name apos) [] [] cpos) (tBM0 X.K T r to):=by
 sleep 8
 refine wpAny_Call_method0_late hbase hline (thn (ho pins s σ H _ I h) fun v s1 h_=>?_)
 obtain ⟨x,H1,I1,r1,ty,q1⟩:=h_
 obtain ⟨h1,h2⟩:=tyV_is I1 r1 ty
 exact ⟨T,id,pa,slot,hty,h1,h2,Wg rfl (PySem.evalArgs_none (hm pins s1 σ H1 x [] v [] Q I1 r1 .nil q1))⟩
theorem pe_bm (pa:PlainAttrs T)(slot:Slot T name id)(hty:typeOf (.builtin id)=pure (.type "method_descriptor"))(hm:MtR X id r)(ho:PE X o to)(ha:PA X 6e5 t)
  (hbase:XF o name X.env (eval o X.env)=eval o X.env:=by rfl)
  (hfew:((backTo cpos (Yi 6e5 X.env)).all (fun x=>!x.1)&&(V2 cpos (WY [] X.env)).all (fun x=>x.1.isSome)
   &&decide ((e::es).length + ([]:List WZ).length + (if ([]:List WZ).isEmpty then 0 else 1) < 30))=true:=by rfl)
  (hline:12e2:=by rfl) (hs:1e5:=by rfl) (hplain:(backTo cpos (Yi es X.env)).any (·.1)=false:=by rfl):
  PE X (.Call (.Attribute o name apos) 6e5 [] cpos) (tBM X.K T r to t):=by
 sleep 8
 refine wpAny_Call_method_late hbase hfew hline rfl (thn (ho pins s σ H _ I h) fun v s1 h_=>?_)
 obtain ⟨x,H1,I1,r1,ty,q1⟩:=h_
 obtain ⟨h1,h2⟩:=tyV_is I1 r1 ty
 refine ⟨T,id,pa,slot,hty,h1,h2,?_⟩
 have hA:=ha cpos pins s1 σ H1 _ I1 q1
 rw[hs] at hA ⊢
 refine Wg (by show (false||(backTo cpos (Yi es X.env)).any (·.1))=false;rw[hplain]<;>rfl) (Calls.evalArgs_plain ?_)
 exact thn hA fun us s2 ⟨vs,H2,I2,r2,q2⟩=>hm pins s2 σ H2 x vs v us Q I2 r1 r2 q2
end
def MtM (X:Cx)(id:String)(r:13e8):Prop:=
 ∀(pins:2e1) (s:Shared) (σ:St) (H:Hp) (x:V) (xs:List V) (v:Value) (us:3e9) (Q:VK),Inv X pins σ H s->RelV x v->Vals xs us->r x xs H Q->
  wpAny 2e8 X.A (call (.builtin id) (v::us)) (EP X pins σ Q) X.xe s
theorem Vals.one:∀{x:V} {us:3e9},Vals [x] us->∃u,us=[u]/\RelV x u:=by
 intro x us r
 cases r with
 | cons r t=>cases t;exact ⟨_,rfl,r⟩
theorem Vals.two:∀{x y:V} {us:3e9},Vals [x,y] us->∃u v,us=[u,v]/\RelV x u/\RelV y v:=by
 intro x y us r
 cases r with
 | cons r t=>cases t with
  | cons q t=>cases t;exact ⟨_,_,rfl,r,q⟩
theorem Vals.zero:∀{us:3e9},Vals [] us->us=[]
 | _,.nil=>rfl
theorem Vals.dropLast {xs:List V}{us:3e9}(h:Vals xs us):Vals xs.dropLast us.dropLast:=by
 induction h with
 | nil=>exact .nil
 | cons r t ih=>
  cases t with
  | nil=>exact .nil
  | cons q t'=>exact .cons r ih
theorem Vals.reverse {xs:List V}{us:3e9}(h:Vals xs us):Vals xs.reverse us.reverse:=by
 induction h with
 | nil=>exact .nil
 | cons r t ih=>rw[XX,XX];exact Vals.append ih (.cons r .nil)
theorem erase_last {α:Type}(l:List α):l.eraseIdx (l.length - 1)=l.dropLast:=by
 induction l with
 | nil=>rfl
 | cons a r ih=>
  cases r with
  | nil=>rfl
  | cons b r=>
   have e:(a::b::r).length - 1=((b::r).length - 1) + 1:=by
    have h1:(a::b::r).length=r.length + 2:=rfl
    have h2:(b::r).length=r.length + 1:=rfl
    lia
   rw[e,List.eraseIdx_cons_succ,ih]
   all_goals rfl
section
variable {X:Cx}{pins:2e1}{σ:St}{H:Hp}{s:Shared}{l b:Addr}{xs ys zs:List V}
theorem Inv.lset {its its':3e9}{n:Nat}{f:Array Value->Array Value}{t':Nat}(I:2e4)(hH:H l=some (.lst xs))
  (e:s.heap.get? l=some { cls:=.type "list",data:=.seq its.toArray n }) (hf:f its.toArray=its'.toArray) (hv:Vals ys its') (hz:ys.length<=Yo):
  Inv X pins σ (upd H l (.lst ys)) { s with heap:=s.heap.update l (XC f),toks:=t' }:=by
 have q:=PySem.IsL.update e f
 rw[hf] at q
 refine I.write (x:=l) (e:=l) (by rw[hH];exact trivial) (.inl rfl) (fun b' u hb hu=>(Heap.get?_update_other s.heap (XC f) (Xi hb)).trans hu) ⟨_,q⟩ ?_
 exact ⟨hz,its',_,hv,q⟩
theorem Inv.lnew {its:3e9}{t':Nat}(I:2e4)(hv:Vals ys its)(hz:ys.length<=Yo):
  Inv X pins σ (upd H s.heap.objs.size (.lst ys)) { s with heap:=s.heap.push { cls:=.type "list",data:=.seq its.toArray },toks:=t' }:=
 I.laid (fun _ _ q=>Ya _ q) (Yh _) ⟨hz,its,0,hv,Yq _ rfl⟩
theorem Inv.fresh (I:2e4):H s.heap.objs.size=none:=I.hok.fresh (Yh _)
theorem Inv.lstM (I:2e4)(hH:H l=some (.lst xs)):xs.length<=Yo/\∃(its:3e9) (n:Nat),Vals xs its/\xs.length=its.length/\s.heap.get? l=some { cls:=.type "list",data:=.seq its.toArray n }:=by
 obtain ⟨z,its,n,r,e⟩:=I.hok l _ hH
 exact ⟨z,its,n,r,r.length,e⟩
end
section
variable {X:Cx}
def rAppend:V->List V->Hp->VK->Prop:=fun x vs H Q=>∃l xs y,x=.ref l/\vs=[y]/\H l=some (.lst xs)/\xs.length < Yo/\Q .non (upd H l (.lst (xs++[y])))
theorem mt_append:MtM X "list.append" rAppend:=by
 intro pins s σ H x vs v us Q I rx rv h
 obtain ⟨l,xs,y,rfl,rfl,hH,hz,q⟩:=h
 cases rx
 obtain ⟨u,rfl,ru⟩:=rv.one
 obtain ⟨z,its,n,r,hl,e⟩:=I.lstM hH
 refine Ve F.slot_list_append ⟨_,e,rfl⟩ F.entry_list_append (F.args_list_append_2 _ _) (PySem.list_append l its.toArray n u (by rw[Yf];lia)) ⟨e,?_⟩
 refine ⟨.non,_,I.lset (its':=its++[u]) hH e 5e2 (r.append (.cons ru .nil)) ?_,rfl,q⟩
 rw[Y0,List.length_singleton]
 lia
def rPop:V->List V->Hp->VK->Prop:=fun x vs H Q=>∃l xs y,x=.ref l/\vs=[]/\H l=some (.lst xs)/\xs[xs.length - 1]? = some y/\Q y (upd H l (.lst xs.dropLast))
theorem mt_pop:MtM X "list.pop" rPop:=by
 intro pins s σ H x vs v us Q I rx rv h
 obtain ⟨l,xs,y,rfl,rfl,hH,hy,q⟩:=h
 cases rx
 have hus:=rv.zero
 subst hus
 obtain ⟨z,its,n,r,hl,e⟩:=I.lstM hH
 obtain ⟨u,hu,ru⟩:=r.get hy
 have hy':its.toArray[its.toArray.size - 1]? = some u:=by
  show its.toArray[its.length - 1]? = some u
  rw[←XA,←hl]
  exact hu
 refine Ve F.slot_list_pop ⟨_,e,rfl⟩ F.entry_list_pop (F.args_list_pop_1 _) (MeetsSeq.list_pop_last l its.toArray n u hy' (by rw[Yf];lia)) ⟨e,?_⟩
 refine ⟨y,_,I.lset (its':=its.dropLast) hH e ?_ r.dropLast ?_,ru,q⟩
 ·show its.toArray.eraseIdxIfInBounds (its.toArray.size - 1)=its.dropLast.toArray
  rw[Yf,List.eraseIdxIfInBounds_toArray,erase_last]
 ·rw[List.length_dropLast]
  lia
def rReverse:V->List V->Hp->VK->Prop:=fun x vs H Q=>∃l xs,x=.ref l/\vs=[]/\H l=some (.lst xs)/\Q .non (upd H l (.lst xs.reverse))
theorem mt_reverse:MtM X "list.reverse" rReverse:=by
 intro pins s σ H x vs v us Q I rx rv h
 obtain ⟨l,xs,rfl,rfl,hH,q⟩:=h
 cases rx
 have hus:=rv.zero
 subst hus
 obtain ⟨z,its,n,r,hl,e⟩:=I.lstM hH
 refine Ve F.slot_list_reverse ⟨_,e,rfl⟩ F.entry_list_reverse (F.args_list_reverse_1 _) (AutoSeq1.list_reverse_list_0 l its.toArray n (by rw[Yf];lia)) ⟨e,?_⟩
 refine ⟨.non,_,I.lset (its':=its.reverse) hH e 5e2 r.reverse ?_,rfl,q⟩
 rw[List.length_reverse]
 lia
end
end L2
namespace Att
open PySem PySem.W PySem.Calls PyProof.Rows
theorem Zc1 {P:Params}{h:Heap}:∀(ns:List Int) (vs:3e9),WellAll P h vs (ns.map WData.int)->IntsAre vs ns:=by
 intro ns
 induction ns with
 | nil=>
  intro vs w
  rw[W5] at w
  cases w
  exact .nil
 | cons n ns ih=>
  intro vs w
  rw[Yu] at w
  cases w with
  | cons a b=>
   cases a
   exact .cons _ _ (ih _ b)
theorem script_of {l:OpenLaw}{n:Nat}(hn:l.most=some n){P:Params}{h:Heap}{args:List WData}{vals:3e9}
    (hpre:l.row.toRowW.claim.pre args=true) (hwl:WellAll P h vals args):
    ∃a vs ns,vals=[Y7 a]/\args=[WData.list (ns.map WData.int)]/\h.get? a=some { cls:=.type "list",data:=.seq vs.toArray }/\IntsAre vs ns/\ns.length<=n:=by
  have hsh:WShape.hasAll [] args [.list .int]=true:=(pre_splitW hpre).1
  have hc:l.pre.holds [] { args:=args }=true:=(pre_splitW hpre).2
  obtain ⟨d,r,rfl,h1,h2⟩:=hasAllW_cons hsh
  obtain rfl:=hasAllW_nil h2
  obtain ⟨xs,rfl,h3⟩:=hasW_list h1
  obtain ⟨ns,rfl⟩:=items_int h3
  have hlen:ns.length<=n:=by
    unfold OpenLaw.pre at hc
    have h4:(WTm.not (.lt (.lit (.int (n:Int))) (.len (.arg 0)))).holds [] { args:=[.list (ns.map .int)] }=true:=by
      have h4:=(holds_andW hc).1
      rw[hn] at h4
      exact h4
    have h5:=condW_of h4 (w_not (w_lt w_lit (w_len_list (w_arg rfl))))
    rw[Yv] at h5
    refine Nat.le_of_not_lt fun q=>?_
    have q':(n:Int) < ((ns.length:Nat):Int):=by lia
    first
      | (rw[decide_eq_true q'] at h5;exact absurd h5 (by decide))
      | (simp at h5;lia)
  cases hwl with
  | cons w1 w2=>
    cases w2
    cases w1 with
    | list ho hall=>exact ⟨_,_,ns,rfl,rfl,ho,Zc1 ns _ hall,hlen⟩
theorem post_true (l:OpenLaw)(args:List WData):l.row.toRowW.claim.post args (.bool true) args=true:=
 postW_of (r:=l.row.toRowW) (X:=(true==true))
  (show WShape.has [] (.bool true) .bool=true by first | rfl | decide | simp[WShape.has,WShape.arms,WShape.armsAll])
  (show (WTm.eq .res (.lit (.bool true))).value [] { args:=args,res:=some (.bool true),after:=args }=some (.bool (true==true)) from w_eq_bool (w_res rfl) w_lit) rfl
theorem attach_call {l:OpenLaw}{n:Nat}{q:Yx}{loose:6e2}{XP:(Str->Option Value)->Heap->Prop}{YP:World->Heap->Prop}{d:DefRec}
  (hn:l.most=some n) (hdf:d.params.defaults=[])
  (call:∀(w:World) (s₀ s₁:Shared) (mg mb:3e0) (fa:Addr) (o:Obj) (pm cd doc:Value) (a:Addr) (vs:3e9) (ns:List Int),
   Ground q loose [] XP w s₀ mg mb s₁.heap->YP w s₁.heap->
   s₁.heap.get? fa=some o->o.data=.func (docDef d.name d.params d.body d.scope pm cd doc)->s₁.heap.CodeRec cd d.name->mg d.name=some (.ref fa)->
   s₁.heap.get? a=some { cls:=.type "list",data:=.seq vs.toArray }->IntsAre vs ns->ns.length<=n->s₁.gens=#[]->
   Vh (model l.prog w) Uc (.call (.ref fa) ⟨[.ref a],[]⟩) (fun r s'=>r=.ok (.ret (.bool true))/\OldK s₁.heap s'.heap/\s'.os=s₁.os/\VN s'.gens) s₁):
  WalkO q loose XP YP l.row.toRowW d [] (fun f vs=>PySem.call f vs):=by
 intro w s₀ s₁ mg mb G Y fa o pm cd doc dV kV ho hd hcd hD hmg hg args vals as hpre hlay hrd hwl hlo
 obtain rfl:dV=.none:=Dflts.none hD hdf
 obtain rfl:kV=.none:=Dflts.noKw hD
 obtain ⟨a,vs,ns,rfl,rfl,hobj,hints,hlen⟩:=script_of hn hpre hwl
 refine enter_call (codeAny_mono (call w s₀ s₁ mg mb fa o pm cd doc a vs ns G Y ho (fd_plain hd) hcd hmg hobj hints hlen hg) fun r s' hq=>?_)
 obtain ⟨rfl,h2,h3,h4⟩:=hq
 exact ⟨.inl ⟨.bool true,.bool true,[],rfl,fun _=>rfl,.bool true,post_true l _,fun _=>⟨List.Pairwise.nil,fun _ hm=>(nomatch hm)⟩⟩,h2,h3,h4⟩
end Att
namespace L2
open PySem PySem.Spec PyProof.Rows
theorem vals_ints:∀{vs:3e9} {ns:List Int},IntsAre vs ns->Vals (ns.map V.int) vs
 | _,_,.nil=>.nil
 | _,_,.cons n t h=>.cons ⟨t,rfl⟩ (vals_ints h)
def Only (H:Hp):Prop:=∀b,H b=none\/∃o xs,H b=some (.frz o (.lst xs))
theorem law_call {P:Yx}{w:World}{K:W.Frag}{mg mb:3e0}{CX:CXT}{k:Nat}{fa a:Addr}{fd:XM}{x:Str}{sp:Sp}{s₁:Shared}{vs:3e9}{ns:List Int}
  (KX:K.In s₁.heap) (hns:s₁.heap.Ns VA mg) (hb:s₁.heap.Ns builtinsNs mb) (hbb:∀x:Str,x≠"__name__"->mb x=Y8 x) (hlim:s₁.heap.NoLimit) (hg:s₁.gens=#[])
  (ha:s₁.heap.get? a=some { cls:=.type "list",data:=.seq vs.toArray }) (hi:IntsAre vs ns) (hl:ns.length<=Yo) (hr:Room k Uc)
  (F:∀base:Heap,K.In base->base.Ns VA mg->FnOk P w K mg base CX k fa fd [x] sp) (hbind:∀(s:Shared) (u:Value),BindsTo s fd ⟨[u],[]⟩ [(x,u)])
  (hsp:∀H:Hp,Only H->SqL K H a (ns.map V.int)->sp [.ref a] H (fun v _=>v=.bl true) fun _ _ _=>False)
  (hCX:∀H e s',CX [] H s₁ (fun _ _ _=>False) e s'->False):
  Vh (model P w) Uc (.call (.ref fa) ⟨[.ref a],[]⟩) (fun r s'=>r=.ok (.ret (.bool true))/\OldK s₁.heap s'.heap/\s'.os=s₁.os/\VN s'.gens) s₁:=by
 have rv:=vals_ints hi
 have lenV:=hi.length
 have core:∀H:Hp,Only H->SqL K H a (ns.map V.int)->HOk P w H s₁.heap->(∀b,H b≠none->b=a)->(H a≠none->K.lookup a=none)->
   Vh (model P w) Uc (.call (.ref fa) ⟨[.ref a],[]⟩) (fun r s'=>r=.ok (.ret (.bool true))/\OldK s₁.heap s'.heap/\s'.os=s₁.os/\VN s'.gens) s₁:=by
  intro H hO hS hok hA hK
  have base_of:∀{b:Addr} {o:Obj},s₁.heap.get? b=some o->H b=none->(hidT s₁.heap H).get? b=some o:=fun e n=>hidT_get e n
  have noA:∀{b:Addr} {o:Obj} {es:Array WN} {ep:Nat},s₁.heap.get? b=some o->o.data=.dict es ep->H b=none:=fun {b o es ep} e d=>by
   cases q:H b with
   | none=>rfl
   | some u=>
    have e':b=a:=hA b (by rw[q];simp)
    subst e'
    rw[ha] at e;cases e
    have d':Data.seq vs.toArray _=Data.dict es ep:=d
    cases d'
  have nsK:∀{b:Addr} {m:3e0},s₁.heap.Ns b m->(hidT s₁.heap H).Ns b m:=fun {b m} ⟨o,es,ep,e,d,r⟩=>⟨o,es,ep,base_of e (noA e d),d,r⟩
  have hKb:K.In (hidT s₁.heap H):=fun b o e=>base_of (KX b o e) (by
   cases q:H b with
   | none=>rfl
   | some u=>
    have e':b=a:=hA b (by rw[q];simp)
    subst e'
    rw[hK (by rw[q];simp)] at e;cases e)
  have hM:Mod K mg (hidT s₁.heap H):=⟨hKb,nsK hns,⟨mb,nsK hb,hbb⟩,let ⟨mc,h1,h2⟩:=hlim;⟨mc,nsK h1,h2⟩⟩
  have e0:Env0 P w K mg (hidT s₁.heap H) Uc [] s₁ H:=⟨rfl,hM,fun b o e=>of_hidT e,Nat.le_of_eq (hidT_size _ _),trivial,fun b hb=>absurd (show b∈([]:List Addr) from hb) 5e2,hok,.of_eq hg⟩
  refine codeAny_mono ((F _ hKb (nsK hns)).run Uc [] s₁ H ⟨[.ref a],[]⟩ [.ref a] [.ref a] _ _ hr e0 (hbind s₁ (.ref a)) (.cons rfl .nil) (hsp H hO hS)) fun r s' h=>?_
  cases r with
  | error e=>exact (hCX H e s' h).elim
  | ok fl=>
   cases fl with
   | next=>exact We h
   | brk=>exact We h
   | cont=>exact We h
   | ret u=>
    obtain ⟨v,H',os,bare,un,hok',r',q⟩:=h
    have q':v=.bl true:=q
    subst q'
    obtain rfl:u=Value.bool true:=r'
    refine ⟨rfl,OldK.of_keep fun b o e=>?_,os,bare⟩
    cases q:H b with
    | none=>exact un.keep b o e q (by intro z;exact absurd (show b∈([]:List Addr) from z) 5e2) 5e2
    | some u=>
     rcases hO b with z | ⟨ob,xs,z⟩
     ·rw[q] at z;cases z
     ·have z2:=un.frzs b ob _ z
      obtain ⟨e1,_⟩:=hok b _ z
      obtain ⟨e2,_⟩:=hok' b _ z2
      rw[e] at e1;cases e1
      exact e2
 cases hk:K.lookup a with
 | some o=>
  have e:=KX a o hk
  rw[ha] at e
  cases e
  refine core (fun _=>none) (fun _=>.inl rfl) (.inr ⟨_,vs.toArray,_,hk,rfl,rfl,rfl,by rw[Yf,lenV];exact hl,by simpa using rv⟩) (fun b u z=>by have z':(none:Option HO)=some u:=z;cases z') (fun b z=>absurd rfl z) fun z=>absurd rfl z
 | none=>
  refine core (fun b=>if b=a then some (.frz { cls:=.type "list",data:=.seq vs.toArray } (.lst (ns.map V.int))) else none) (fun b=>?_) (.inl (.inr ⟨{ cls:=.type "list",data:=.seq vs.toArray },if_pos rfl⟩)) (fun b u z=>?_) (fun b z=>?_) fun _=>hk
  ·by_cases hb:b=a
   ·exact .inr ⟨_,_,if_pos hb⟩
   ·exact .inl (if_neg hb)
  ·by_cases hb:b=a
   ·have z':=(if_pos hb).symm.trans z
    cases z'
    subst hb
    exact ⟨ha,by rw[Yv];exact hl,vs,_,rv,ha⟩
   ·have z':=(if_neg hb).symm.trans z
    cases z'
  ·by_cases hb:b=a
   ·exact hb
   ·exact absurd (if_neg hb) z
noncomputable def defArgs (s:Stmt):Arguments:=match s with
 | .FunctionDef _ a _ _ _ _ _ _ _ _=>a
 | _=>{ posonlyargs:=[],args:=[],vararg:=none,kwonlyargs:=[],kw_defaults:=[],kwarg:=none,defaults:=[] }
noncomputable def defBody (s:Stmt):List Stmt:=match s with
 | .FunctionDef _ _ b _ _ _ _ _ _ _=>b
 | _=>[]
noncomputable def defScope (s:Stmt):Scope:=match s with
 | .FunctionDef _ _ _ _ _ _ sc _ _ _=>sc
 | _=>{ kind:=.function,names:=[],isGenerator:=false,isCoroutine:=false }
noncomputable abbrev CX0:CXT:=fun _ _ _ _ _ _=>False
noncomputable abbrev E0:XK:=fun _ _ _=>False
theorem pass0 {X:Cx}:Passes CX0 X E0:=fun _ _ _ _ _ _ _ h=>h.elim
structure Fun (K:W.Frag)(x qual:Str)(st:Stmt)(f:Addr)(fd:XM):Prop where
 ex:∃(oc:Value) (od:Option Addr) (kV doc pm:Value) (an:Option Addr) (cdv ct:Value) (osl:Array (Option Value)),
  fd=W.fnOf x qual (defArgs st) (defBody st) (defScope st) .none kV doc pm an cdv ct/\K.lookup f=some ⟨oc,od,.func fd,osl⟩/\W.codeIn K cdv qual=true
 kp:VB K (.ref f)=true
section
variable {P:Yx}{w:World}{K:W.Frag}{mg:3e0}{base:Heap}
theorem Fun.ok {x qual:Str}{st:Stmt}{f:Addr}{fd:XM}{N ps:6e2}{k:Nat}{sp:Sp}(F:Fun K x qual st f fd)(S:FnScope N ps (defScope st))(len:∀vs H Q E,sp vs H Q E->vs.length=ps.length)
  (hbody:∀(cdv:Value) (A:Around) (outer:List Env) (s:Shared) (H:Hp) (vs:List V) (Q:VK) (E:XK),Room k (A.deeper (envOfC qual (defScope st) s.heap.objs.size f cdv))->sp vs H Q E->
   ∃t,PSs (cxOf CX0 P w K mg base N qual (defScope st) f cdv A outer s H E).nox (defBody st) t/\t { nx:=fun _ H'=>Q .non H',rt:=Q } (start N vs) H):FnOk P w K mg base CX0 (k + 1) f fd ps sp:=by
 obtain ⟨oc,od,kV,doc,pm,an,cdv,ct,osl,rfl,lk,hcd⟩:=F.ex
 refine fn_of lk hcd S len fun A outer s H vs Q E hr hsp=>?_
 obtain ⟨t,h,q⟩:=hbody cdv A outer s H vs Q E hr hsp
 exact ⟨t,h.nox,q⟩
theorem Fun.binds {x qual:Str}{st:Stmt}{f:Addr}{fd:XM}{ps:6e2}(F:Fun K x qual st f fd)
  (h:∀(kV doc pm:Value) (an:Option Addr) (cdv ct:Value) (us:3e9),us.length=ps.length->bindArgs (W.fnOf x qual (defArgs st) (defBody st) (defScope st) .none kV doc pm an cdv ct) ⟨us,[]⟩=pure (ps.zip us)):Binds K fd ps []:=by
 obtain ⟨oc,od,kV,doc,pm,an,cdv,ct,osl,rfl,lk,hcd⟩:=F.ex
 exact .all (h kV doc pm an cdv ct)
theorem fun_mk {x qual:Str}{st:Stmt}{f:Addr}{oc:Value}{od an:Option Addr}{osl:Array (Option Value)}{kV doc pm cdv ct:Value}(l:K.lookup f=some ⟨oc,od,.func (W.fnOf x qual (defArgs st) (defBody st) (defScope st) .none kV doc pm an cdv ct),osl⟩)
  (c:W.codeIn K cdv qual=true) (k:VB K (.ref f)=true):Fun K x qual st f (W.fnOf x qual (defArgs st) (defBody st) (defScope st) .none kV doc pm an cdv ct):=⟨⟨oc,od,kV,doc,pm,an,cdv,ct,osl,rfl,l,c⟩,k⟩
end
theorem Zat {A:Around}{k:Nat}(hr:Room k A):A.units + 1 < cLine:=Nat.lt_of_le_of_lt (Nat.add_le_add_left (by decide:1<=64) _) hr.units
section
variable {X:Cx}
theorem pv (i:Nat){x:Str}{pos:Pos}(hN:X.N[i]? = some x:=by rfl)(hv:Vis X.env.scope x:=by first | exact Or.inl rfl | exact Or.inr 2e3 | exact Or.inr (Or.inr rfl))(hd:5e6:=by decide)
  (hcd:(x==("__classdict__":Str))=false:=by decide):PE X (.Name x pos) (tVar i):=pe_var hN hv hd hcd
end
end L2
set_option maxHeartbeats 4000000
namespace L2
open PySem PySem.Spec PyProof.Rows
section
variable {κ:Type} [DecidableEq κ]
noncomputable def valV (kvs:List (κ×V))(k:κ):Option V:=(kvs.find? fun kv=>decide (kv.1=k)).map (·.2)
noncomputable def putK (kvs:List (κ×V))(k:κ)(v:V):List (κ×V):=
 if (kvs.any fun kv=>decide (kv.1=k))=true then kvs.map (fun kv=>if kv.1=k then (kv.1,v) else kv) else kvs++[(k,v)]
theorem Zb0 {p:κ×V}{r:List (κ×V)}{k:κ}(e:p.1=k):valV (p::r) k=some p.2:=by simp[valV,Wo,e]
theorem ZbH {p:κ×V}{r:List (κ×V)}{k:κ}(e:¬p.1=k):valV (p::r) k=valV r k:=by simp[valV,Wo,e]
theorem valV_any (k:κ):∀kvs:List (κ×V),(kvs.any fun kv=>decide (kv.1=k))=(valV kvs k).isSome
 | []=>rfl
 | p::r=>by
  rw[Xs]
  by_cases e:p.1=k
  ·simp only[Zb0 e,decide_eq_true e,Bool.true_or,Option.isSome_some]
  ·rw[ZbH e,decide_eq_false e,Bool.false_or];exact valV_any k r
theorem Zbh (kvs:List (κ×V))(k:κ)(v:V):(putK kvs k v).length<=kvs.length + 1:=by
 unfold putK
 split
 ·rw[Yv];lia
 ·rw[Y0,YG,Wp];lia
theorem RelO.isSome_eq {o:Option V}{u:Option Value}(r:RelO o u):o.isSome=u.isSome:=by
 cases o with
 | none=>cases u with
  | none=>rfl
  | some _=>exact (show False from r).elim
 | some _=>cases u with
  | none=>exact (show False from r).elim
  | some _=>rfl
theorem RelO.getD {o:Option V}{u:Option Value}{d:V}{d':Value}(r:RelO o u)(rd:RelV d d'):RelV (o.getD d) (u.getD d'):=by
 cases o with
 | none=>cases u with
  | none=>exact rd
  | some _=>exact (show False from r).elim
 | some _=>cases u with
  | none=>exact (show False from r).elim
  | some _=>exact r
theorem KV.val {kvs:List (κ×V)}{vs:List (κ×Value)}(r:KV kvs vs)(k:κ):RelO (valV kvs k) (Ud vs k):=by
 unfold KV at r
 induction r with
 | nil=>exact Wf
 | @cons p q ps qs h t ih=>
  obtain ⟨h1,h2⟩:=h
  by_cases e:p.1=k
  ·have e':q.1=k:=h1.symm.trans e
   have b:Ud (q::qs) k=some q.2:=by simp[Ud,Wo,e']
   rw[Zb0 e,b];exact h2
  ·have e':¬q.1=k:=fun z=>e (h1.trans z)
   have b:Ud (q::qs) k=Ud qs k:=by simp[Ud,Wo,e']
   rw[ZbH e,b];exact ih
theorem KV.any {kvs:List (κ×V)}{vs:List (κ×Value)}(r:KV kvs vs)(k:κ):(kvs.any fun kv=>decide (kv.1=k))=vs.any fun kv=>decide (kv.1=k):=by
 unfold KV at r
 induction r with
 | nil=>rfl
 | cons h t ih=>rw[Xs,Xs,ih,h.1]
theorem KV.repl {kvs:List (κ×V)}{vs:List (κ×Value)}(r:KV kvs vs)(k:κ){y:V}{u:Value}(ry:RelV y u):
  KV (kvs.map fun kv=>if kv.1=k then (kv.1,y) else kv) (vs.map fun kv=>if kv.1=k then (kv.1,u) else kv):=by
 unfold KV at r ⊢
 induction r with
 | nil=>exact .nil
 | @cons p q ps qs h t ih=>
  rw[Yu,Yu]
  refine .cons ?_ ih
  obtain ⟨h1,h2⟩:=h
  by_cases e:p.1=k
  ·rw[if_pos e,if_pos (h1.symm.trans e)];exact ⟨h1,ry⟩
  ·rw[if_neg e,if_neg (fun z=>e (h1.trans z))];exact ⟨h1,h2⟩
theorem KV.put {kvs:List (κ×V)}{vs:List (κ×Value)}(r:KV kvs vs)(k:κ){y:V}{u:Value}(ry:RelV y u):KV (putK kvs k y) (stored vs k u):=by
 unfold putK stored
 rw[r.any k]
 by_cases e:(vs.any fun kv=>decide (kv.1=k))=true
 ·rw[if_pos e,if_pos e];exact r.repl k ry
 ·rw[if_neg e,if_neg e];exact Paired.snoc r ⟨rfl,ry⟩
theorem KV.keys {kvs:List (κ×V)}{vs:List (κ×Value)}(r:KV kvs vs):kvs.map (·.1)=vs.map (·.1):=by
 unfold KV at r
 induction r with
 | nil=>rfl
 | cons h t ih=>rw[Yu,Yu,ih,h.1]
theorem KV.length {kvs:List (κ×V)}{vs:List (κ×Value)}(r:KV kvs vs):kvs.length=vs.length:=XO r
end
theorem kV_is {P:Yx}{w:World}{k:Key}{u:Value}(r:RelV (kV k) u):(mixKind P w).is k u=true:=by
 cases k with
 | inl i=>obtain ⟨t,e⟩:=(show ∃t,u=Value.int i t from r);subst e;exact mixKind_int P w i t
 | inr x=>obtain ⟨t,e⟩:=(show ∃t,u=Value.str x t from r);subst e;exact mixKind_str P w x t
theorem ZcZ {P:Yx}{w:World}:∀{ks:9e2} {us:3e9},Vals (ks.map kV) us->ItemsAre (mixKind P w) ks us
 | [],_,r=>by rw[W5] at r;cases r;exact .nil
 | k::ks,_,r=>by
  rw[Yu] at r
  cases r with
  | cons h t=>exact .cons (kV_is h) (ZcZ t)
abbrev KT (H:Hp):List (List Key×V)->List 7e2->Prop:=Paired fun p q=>p.1=q.1/\H q.2.1=some (.tup (p.1.map kV))/\RelV p.2 q.2.2
theorem KT.val {H:Hp}{kvs:7e9}{xs:List 7e2}(r:KT H kvs xs)(k:9e2):RelO (valV kvs k) ((atKey xs k).map (·.2)):=by
 induction r with
 | nil=>exact Wf
 | @cons p q ps qs h t ih=>
  obtain ⟨h1,_,h2⟩:=h
  by_cases e:p.1=k
  ·have e':q.1=k:=h1.symm.trans e
   have b:atKey (q::qs) k=some q.2:=by simp[atKey,Wo,e']
   rw[Zb0 e,b];exact h2
  ·have e':¬q.1=k:=fun z=>e (h1.trans z)
   have b:atKey (q::qs) k=atKey qs k:=by simp[atKey,Wo,e']
   rw[ZbH e,b];exact ih
theorem KT.repl {H:Hp}{kvs:7e9}{xs:List 7e2}(r:KT H kvs xs)(k:9e2){y:V}{u:Value}(ry:RelV y u):
  KT H (kvs.map fun kv=>if kv.1=k then (kv.1,y) else kv) (xs.map (putAt k u)):=by
 induction r with
 | nil=>exact .nil
 | @cons p q ps qs h t ih=>
  rw[Yu,Yu]
  refine .cons ?_ ih
  obtain ⟨h1,h2,h3⟩:=h
  unfold putAt
  by_cases e:p.1=k
  ·rw[if_pos e,if_pos (h1.symm.trans e)];exact ⟨h1,h2,ry⟩
  ·rw[if_neg e,if_neg (fun z=>e (h1.trans z))];exact ⟨h1,h2,h3⟩
theorem KT.put {H:Hp}{kvs:7e9}{xs:List 7e2}(r:KT H kvs xs)(k:9e2){b:Addr}{y:V}{u:Value}(hb:H b=some (.tup (k.map kV)))(ry:RelV y u):
  KT H (putK kvs k y) (VT xs k b u):=by
 have e:(kvs.any fun kv=>decide (kv.1=k))=(atKey xs k).isSome:=by
  rw[valV_any,(r.val k).isSome_eq,Vy]
 unfold putK VT
 rw[e]
 by_cases q:(atKey xs k).isSome=true
 ·rw[if_pos q,if_pos q];exact r.repl k ry
 ·rw[if_neg q,if_neg q];exact Paired.snoc r ⟨rfl,hb,ry⟩
theorem KT.keeps {H H':Hp}{kvs:7e9}{xs:List 7e2}(r:KT H kvs xs)(ht:∀b ys,H b=some (.tup ys)->H' b=some (.tup ys)):KT H' kvs xs:=
 Paired.mapP r fun _ _ z=>⟨z.1,ht _ _ z.2.1,z.2.2⟩
section
variable {P:Yx}{w:World}{H:Hp}{h:Heap}{a:Addr}
theorem rd_of {u:HO}(ok:HOk P w H h)(e:Rd H a u):ObjOk P w H h a u:=e.ok ok
theorem dk_rd {kvs:List (Key×V)}(ok:HOk P w H h)(e:Rd H a (.dK kvs)):kvs.length<=Yo/\(a==XB)=false/\∃vs,KV kvs vs/\h.DictOf (mixKind P w) a vs:=
 show ObjOk P w H h a (.dK kvs) from rd_of ok e
theorem dk_of {kvs:List (Key×V)}(ok:HOk P w H h)(e:H a=some (.dK kvs)):kvs.length<=Yo/\(a==XB)=false/\∃vs,KV kvs vs/\h.DictOf (mixKind P w) a vs:=dk_rd ok (.inl e)
theorem ZcY {ks:9e2}(ok:HOk P w H h)(e:H a=some (.tup (ks.map kV))):(WI (mixKind P w)).is h ks a:=by
 obtain ⟨_,its,r,o,h1,h2,n,h3⟩:=(show ObjOk P w H h a (.tup (ks.map kV)) from ok a _ e)
 exact ⟨o,its.toArray,n,h1,h2,h3,by simpa using ZcZ r⟩
theorem dt_rd {kvs:7e9}(ok:HOk P w H h)(e:Rd H a (.dT kvs)):kvs.length<=Yo/\(a==XB)=false/\
  ∃xs,KT H kvs xs/\h.DictOfH (WI (mixKind P w)) a xs:=by
 obtain ⟨z,y,xs,r,o,es,ep,h1,h2,h3,h4,h5⟩:=(show ObjOk P w H h a (.dT kvs) from rd_of ok e)
 refine ⟨z,y,xs,r,o,es,ep,h1,h2,h3,h4,fun x hx=>?_,h5⟩
 have all:∀{l:7e9} {m:List 7e2},KT H l m->∀x∈m,(WI (mixKind P w)).is h x.1 x.2.1:=by
  intro l m q
  induction q with
  | nil=>intro x hx;exact nomatch hx
  | @cons p q ps qs hq t ih=>
   intro x hx
   rcases Ys.mp hx with e | hx
   ·subst e
    exact ZcY ok (by rw[←hq.1];exact hq.2.1)
   ·exact ih x hx
 exact all r x hx
theorem dt_of {kvs:7e9}(ok:HOk P w H h)(e:H a=some (.dT kvs)):kvs.length<=Yo/\(a==XB)=false/\
  ∃xs,KT H kvs xs/\h.DictOfH (WI (mixKind P w)) a xs:=dt_rd ok (.inl e)
end
def DGet (H:Hp)(a:Addr)(y:V)(r:Option V):Prop:=
 (∃kvs k,Rd H a (.dK kvs)/\y=kV k/\r=valV kvs k)\/∃kvs k b,Rd H a (.dT kvs)/\y=.ref b/\H b=some (.tup (k.map kV))/\r=valV kvs k
def DPut (H:Hp)(a:Addr)(y v:V)(H':Hp):Prop:=
 (∃kvs k,H a=some (.dK kvs)/\y=kV k/\kvs.length < Yo/\H'=upd H a (.dK (putK kvs k v)))\/
 ∃kvs k b,H a=some (.dT kvs)/\y=.ref b/\H b=some (.tup (k.map kV))/\kvs.length < Yo/\H'=upd H a (.dT (putK kvs k v))
theorem DGet.k {H:Hp}{a:Addr}{kvs:List (Key×V)}{k:Key}(e:H a=some (.dK kvs)):DGet H a (kV k) (valV kvs k):=.inl ⟨kvs,k,.inl e,rfl,rfl⟩
theorem DPut.k {H:Hp}{a:Addr}{kvs:List (Key×V)}{k:Key}{v:V}(e:H a=some (.dK kvs))(hl:kvs.length < Yo):DPut H a (kV k) v (upd H a (.dK (putK kvs k v))):=.inl ⟨kvs,k,e,rfl,hl,rfl⟩
theorem DPut.t {H:Hp}{a b:Addr}{kvs:7e9}{k:9e2}{v:V}(e:H a=some (.dT kvs))(eb:H b=some (.tup (k.map kV)))(hl:kvs.length < Yo):
  DPut H a (.ref b) v (upd H a (.dT (putK kvs k v))):=.inr ⟨kvs,k,b,e,rfl,eb,hl,rfl⟩
section
variable {X:Cx}{pins:2e1}{σ:St}{H:Hp}{s:Shared}{a:Addr}{y v:V}{u r:Value}{o:Option V}{A:Around}{E:1e7}
theorem Inv.big (I:2e4):XB < s.heap.objs.size:=by
 have h:VA < s.heap.objs.size:=(I.mod.glob.keeps I.bk).lt
 exact VU 1e4 h
theorem d_getItem {Q:1e7}(hu:A.units + 1 < cLine)(I:2e4)(g:DGet H a y (some v))(ry:RelV y u)(h:∀w' s',Inv X pins σ H s'->RelV v w'->Q w' s'):
  wpAny 2e8 A (V5 (.ref a) u) Q E s:=by
 rcases g with ⟨kvs,k,e,ey,l⟩ | ⟨kvs,k,b,e,ey,eb,l⟩
 ·subst ey
  obtain ⟨z,hd,vs,rel,dd⟩:=dk_rd I.hok e
  obtain ⟨w',hw,rw'⟩:=RelO.some_of (v:=v) (o:=Ud vs k) (by rw[l];exact rel.val k)
  exact wpAny_getItem_of (kV_is ry) dd.mapOf hw (h w' _ (I.tok _) rw')
 ·subst ey
  cases (show u=Y7 b from ry)
  obtain ⟨z,hd,xs,rel,dd⟩:=dt_rd I.hok e
  obtain ⟨w',hw,rw'⟩:=RelO.some_of (v:=v) (o:=(atKey xs k).map (·.2)) (by rw[l];exact rel.val k)
  obtain ⟨p,hp,hp2⟩:=Option.map_eq_some_iff.mp hw
  refine wpAny_getItem_heap (Wj hu) (ZcY I.hok eb) dd hp ?_
  rw[hp2]
  exact h w' _ (I.tok _) rw'
theorem d_in {Q:1e7}(hu:A.units + 1 < cLine)(I:2e4)(g:DGet H a y o)(ry:RelV y u)(h:∀s',Inv X pins σ H s'->Q (.bool o.isSome) s'):
  wpAny 2e8 A (Xz .In u (.ref a)) Q E s:=by
 rcases g with ⟨kvs,k,e,ey,l⟩ | ⟨kvs,k,b,e,ey,eb,l⟩
 ·subst ey
  obtain ⟨z,hd,vs,rel,dd⟩:=dk_rd I.hok e
  refine wpAny_in_of (kV_is ry) hd dd.mapOf ?_
  rw[←(rel.val k).isSome_eq,←l]
  exact h _ (I.tok _)
 ·subst ey
  cases (show u=Y7 b from ry)
  obtain ⟨z,hd,xs,rel,dd⟩:=dt_rd I.hok e
  refine wpAny_in_heap (Wj hu) (ZcY I.hok eb) hd dd ?_
  have q:=(rel.val k).isSome_eq
  rw[Vy] at q
  rw[←q,←l]
  exact h _ (I.tok _)
theorem d_notIn {Q:1e7}(hu:A.units + 1 < cLine)(I:2e4)(g:DGet H a y o)(ry:RelV y u)(h:∀s',Inv X pins σ H s'->Q (.bool (!o.isSome)) s'):
  wpAny 2e8 A (Xz .NotIn u (.ref a)) Q E s:=by
 rcases g with ⟨kvs,k,e,ey,l⟩ | ⟨kvs,k,b,e,ey,eb,l⟩
 ·subst ey
  obtain ⟨z,hd,vs,rel,dd⟩:=dk_rd I.hok e
  refine wpAny_notIn_of (kV_is ry) hd dd.mapOf ?_
  rw[←(rel.val k).isSome_eq,←l]
  exact h _ (I.tok _)
 ·subst ey
  cases (show u=Y7 b from ry)
  obtain ⟨z,hd,xs,rel,dd⟩:=dt_rd I.hok e
  refine wpAny_notIn_heap (Wj hu) (ZcY I.hok eb) hd dd ?_
  have q:=(rel.val k).isSome_eq
  rw[Vy] at q
  rw[←q,←l]
  exact h _ (I.tok _)
theorem d_write {h':Heap}{t':Nat}{ob:HO}(I:2e4)(mu:Mut (H a))(hs:WC a s.heap h')(he:∃q,h'.get? a=some q)(new:ObjOk X.prog X.w (upd H a ob) h' a ob):
  Inv X pins σ (upd H a ob) { s with heap:=h',toks:=t' }:=
 I.write (x:=a) (e:=a) mu (.inl rfl) (fun b q hb z=>(hs.2 b hb).trans z) he new
theorem dk_new {P:Yx}{w:World}{H':Hp}{h':Heap}{kvs:List (Key×V)}{vs:List (Key×Value)}(z:kvs.length<=Yo)(hd:(a==XB)=false)(rel:KV kvs vs)(dd:h'.DictOf (mixKind P w) a vs):
  ObjOk P w H' h' a (.dK kvs):=⟨z,hd,vs,rel,dd⟩
theorem d_setItem {H':Hp}{Q:Unit->Shared->Prop}(hu:A.units + 1 < cLine)(I:2e4)(g:DPut H a y v H')(ry:RelV y u)(rv:RelV v r)(h:∀s',Inv X pins σ H' s'->Q () s'):
  wpAny 2e8 A (setItem (.ref a) u r) Q E s:=by
 rcases g with ⟨kvs,k,e,ey,l,eH⟩ | ⟨kvs,k,b,e,ey,eb,l,eH⟩
 ·subst ey eH
  obtain ⟨z,hd,vs,rel,dd⟩:=dk_of I.hok e
  have hz:vs.length<=sizeLine:=by rw[←rel.length];exact z
  have hl:(putK kvs k v).length<=sizeLine:=by have:=Zbh kvs k v;lia
  refine wpAny_setItem_pairs (hsz:=hz) (kV_is ry) dd fun h' dd' hs=>h _ ?_
  have he:∃q,h'.get? a=some q:=let ⟨q,_,_,hq,_⟩:=dd';⟨q,hq⟩
  exact d_write I (by rw[e];exact Wf) hs he (dk_new hl hd (rel.put k rv) dd')
 ·subst ey eH
  cases (show u=Y7 b from ry)
  obtain ⟨z,hd,xs,rel,dd⟩:=dt_of I.hok e
  have hz:xs.length<=sizeLine:=by rw[←XO rel];exact z
  have hl:(putK kvs k v).length<=sizeLine:=by have:=Zbh kvs k v;lia
  refine wpAny_setItem_heap (hsz:=hz) (Wj hu) (ZcY I.hok eb) dd fun h' dd' hs=>h _ ?_
  obtain ⟨q,es,ep,hq,h2,h3,h4,_,h5⟩:=dd'
  refine d_write I (by rw[e];exact Wf) hs ⟨q,hq⟩ ⟨hl,hd,_,(rel.put k eb rv).keeps fun c ys ec=>?_,q,es,ep,hq,h2,h3,h4,h5⟩
  rw[Zaw (ne_of ec e (fun z=>nomatch z))]
  exact ec
end
theorem dict_typeIs {X:Cx}{pins:2e1}{σ:St}{H:Hp}{s:Shared}{a:Addr}{y:V}{o:Option V}(I:2e4)(g:DGet H a y o):s.TypeIs (.ref a) "dict":=by
 rcases g with ⟨kvs,k,e,_,_⟩ | ⟨kvs,k,b,e,_,_,_⟩
 ·obtain ⟨_,_,vs,_,dd⟩:=dk_rd I.hok e
  exact dd.typeIs
 ·obtain ⟨_,_,xs,_,dd⟩:=dt_rd I.hok e
  exact dd.typeIs
noncomputable def sDPut (td ty tv:TE):TS:=fun D σ H=>tv σ H fun v H1=>td σ H1 fun x H2=>ty σ H2 fun y H3=>∃a H4,x=.ref a/\DPut H3 a y v H4/\D.nx σ H4
section
variable {X:Cx}{o i e value:Expr}{pos pos' tpos:Pos}{td ty tv:TE}
theorem ps_dput (hu:X.A.units + 1 < cLine)(ho:PE X o td)(hi:PE X i ty)(hv:PE X value tv)(hs:X9 value (some (.Subscript o i pos')) pos.line X.env=pure false):
  PS X (.Assign [.Subscript o i pos'] value pos) (sDPut td ty tv):=by
 intro pins s σ H D I h
 refine wpAny_Assign_Subscript (thn (hv pins s σ H _ I h) fun r s1 ⟨v,H1,I1,rv,q1⟩=>thn (ho pins s1 σ H1 _ I1 q1) fun u s2 ⟨x,H2,I2,rx,q2⟩=>thn (hi pins s2 σ H2 _ I2 q2) fun iv s3 ⟨y,H3,I3,ry,a,H4,ex,g,q3⟩=>?_) hs
 subst ex
 obtain rfl:u=Y7 a:=rx
 exact d_setItem hu I3 g ry rv fun s4 I4=>⟨σ,H4,I4,q3⟩
end
theorem dk_empty {P:Yx}{w:World}{H:Hp}(h:Heap)(hb:XB < h.objs.size):ObjOk P w H (h.push { cls:=.type "dict",data:=.dict #[] }) h.objs.size (.dK []):=
 ⟨Xe _,beq_eq_false_iff_ne.mpr (Xi (Yn hb)),[],.nil,Heap.DictOf.new h⟩
theorem dt_empty {P:Yx}{w:World}{H:Hp}(h:Heap)(hb:XB < h.objs.size):ObjOk P w H (h.push { cls:=.type "dict",data:=.dict #[] }) h.objs.size (.dT []):=
 ⟨Xe _,beq_eq_false_iff_ne.mpr (Xi (Yn hb)),[],.nil,_,#[],0,Yq _ rfl,⟨rfl,rfl,rfl⟩,rfl,rfl,List.nodup_nil⟩
def tDNewK:TE:=fun _ H Q=>∀p,H p=none->Q (.ref p) (upd H p (.dK []))
def tDNewT:TE:=fun _ H Q=>∀p,H p=none->Q (.ref p) (upd H p (.dT []))
section
variable {X:Cx}{pos:Pos}
theorem pe_dnewK:PE X (.Dict [] [] pos) tDNewK:=fun pins s σ H Q I h=>
 wpAny_Dict_empty ⟨.ref s.heap.objs.size,_,I.laid (a:=s.heap.objs.size) (o:=.dK []) (t':=s.toks) (fun _ _ q=>Ya _ q) (Yh _) (dk_empty s.heap I.big),rfl,h _ (I.hok.fresh (Yh _))⟩
theorem pe_dnewT:PE X (.Dict [] [] pos) tDNewT:=fun pins s σ H Q I h=>
 wpAny_Dict_empty ⟨.ref s.heap.objs.size,_,I.laid (a:=s.heap.objs.size) (o:=.dT []) (t':=s.toks) (fun _ _ q=>Ya _ q) (Yh _) (dt_empty s.heap I.big),rfl,h _ (I.hok.fresh (Yh _))⟩
end
structure M1 (X:Cx)(o:Expr)(m:Str)(apos:Pos)(e:Expr)(cpos:Pos):Prop where
 base:XF o m X.env (eval o X.env)=eval o X.env
 few:((backTo cpos (Yi [e] X.env)).all (fun x=>!x.1)&&(V2 cpos (WY [] X.env)).all (fun x=>x.1.isSome)
  &&decide (([e]:List Expr).length + ([]:List WZ).length + (if ([]:List WZ).isEmpty then 0 else 1) < 30))=true
 line:(apos.endLine==cpos.line)=true
 trees:backTo cpos (Yi [e] X.env)=[(false,eval e X.env)]
def IsD (H:Hp)(a:Addr):Prop:=(∃kvs,Rd H a (.dK kvs))\/∃kvs,Rd H a (.dT kvs)
theorem isD_at {X:Cx}{pins:2e1}{σ:St}{H:Hp}{s:Shared}{a:Addr}(I:2e4)(d:IsD H a):
  s.TypeIs (.ref a) "dict"/\(∀b,Y7 a=.ref b->∃ob,s.heap.get? b=some ob/\ob.dict=none)/\(a==XB)=false:=by
 rcases d with ⟨kvs,e⟩ | ⟨kvs,e⟩
 ·obtain ⟨_,hd,vs,_,dd⟩:=dk_rd I.hok e
  refine ⟨dd.typeIs,fun b q=>?_,hd⟩
  cases q
  obtain ⟨ob,_,_,h1,h2,_⟩:=dd
  exact ⟨ob,h1,h2.2.1⟩
 ·obtain ⟨_,hd,xs,_,dd⟩:=dt_rd I.hok e
  refine ⟨dd.typeIs,fun b q=>?_,hd⟩
  cases q
  obtain ⟨ob,_,_,h1,h2,_⟩:=dd
  exact ⟨ob,h1,h2.2.1⟩
section
variable {X:Cx}{pins:2e1}{σ:St}{H:Hp}{s:Shared}{a:Addr}{y d:V}{u r:Value}{o:Option V}{A:Around}{E:1e7}
theorem d_get1 {Q:1e7}(hu:A.units + 1 < cLine)(I:2e4)(g:DGet H a y o)(ry:RelV y u)(h:∀w' s',Inv X pins σ H s'->RelV (o.getD .non) w'->Q w' s'):
  wpAny 2e8 A (call (.builtin "dict.get") [.ref a,u]) Q E s:=by
 rcases g with ⟨kvs,k,e,ey,l⟩ | ⟨kvs,k,b,e,ey,eb,l⟩
 ·subst ey
  obtain ⟨z,hd,vs,rel,dd⟩:=dk_rd I.hok e
  refine call_meetsIn W6 dd.typeIs PySem.F.entry_dict_get (PySem.F.args_dict_get_2 _ _) (meets_dict_get (mixKind X.prog X.w) a (kV_is ry) hd) ⟨_,dd.mapOf,h _ _ (I.tok _) ?_⟩
  rw[l]
  exact (rel.val k).getD rfl
 ·subst ey
  cases (show u=Y7 b from ry)
  obtain ⟨z,hd,xs,rel,dd⟩:=dt_rd I.hok e
  refine call_meetsIn W6 dd.typeIs PySem.F.entry_dict_get (PySem.F.args_dict_get_2 _ _) (meetsH_dict_get (WI (mixKind X.prog X.w)) a b hd) ⟨Wj hu,k,xs,ZcY I.hok eb,dd,h _ _ (I.tok _) ?_⟩
  rw[l]
  exact (rel.val k).getD rfl
end
noncomputable def clFrom (cells:List (Str×Addr)):List (Str×WK)->List (Str×Addr)->List (Str×Addr)
  | [],cs=>cs
  | (n,k)::r,cs=>clFrom cells r (if k=.free then (n,(cells.lookup n).getD 0)::cs else cs)
theorem Zdb {cells:List (Str×Addr)}:∀{names:List (Str×WK)} {cs:List (Str×Addr)},(∀y∈names,y.2=.free->∃c,cells.lookup y.1=some c)->(∀x c,cs.lookup x=some c->cells.lookup x=some c)->
    ∀x c,(clFrom cells names cs).lookup x=some c->cells.lookup x=some c
  | [],_,_,h,x,c,e=>h x c e
  | (n,k)::r,cs,hn,h,x,c,e=>by
    unfold clFrom at e
    refine Zdb (fun y hy=>hn y (YL _ hy)) (fun y d q=>?_) x c e
    by_cases hk:k=.free
    · rw[if_pos hk] at q
      obtain ⟨c',hc'⟩:=hn (n,k) YS hk
      rw[YO] at q
      by_cases hy:y==n
      · rw[hy] at q
        have:y=n:=by simpa using hy
        subst this
        rw[show cells.lookup y=some c' from hc'] at q ⊢
        simpa using q
      · have hy':(y==n)=false:=by simpa using hy
        rw[hy'] at q
        exact h y d q
    · rw[if_neg hk] at q
      exact h y d q
theorem Zcu {cells:List (Str×Addr)}{x:Str}:∀{names:List (Str×WK)} {cs:List (Str×Addr)},(∃c,cs.lookup x=some c)->∃c,(clFrom cells names cs).lookup x=some c
  | [],_,h=>h
  | (n,k)::r,cs,h=>by
    unfold clFrom
    refine Zcu ?_
    by_cases hk:k=.free
    · rw[if_pos hk,YO]
      by_cases hy:x==n
      · rw[hy];exact 8e4
      · have hy':(x==n)=false:=by simpa using hy
        rw[hy'];exact h
    · rw[if_neg hk];exact h
theorem Zcr {cells:List (Str×Addr)}{x:Str}:∀{names:List (Str×WK)} {cs:List (Str×Addr)},(x,Xc)∈names->∃c,(clFrom cells names cs).lookup x=some c
  | [],_,h=>nomatch h
  | (n,k)::r,cs,h=>by
    unfold clFrom
    rcases Ys.mp h with e | h
    · cases e
      refine Zcu ?_
      rw[if_pos rfl,YO]
      simp
    · exact Zcr h
theorem Zcq {env:Env}{scope:Scope}(h:∀y∈scope.names,y.2=.free->∃c,env.cells.lookup y.1=some c):closureFor scope env=pure (clFrom env.cells scope.names []):=by
 simp only[closureFor]
 have key:∀(names:List (Str×WK)) (cs:List (Str×Addr)),(∀y∈names,y.2=.free->∃c,env.cells.lookup y.1=some c)->
   (forIn names cs fun x r=>if (x.2==Xc)=true then do let a ←cellOf env x.1;pure (Wq ((x.1,a)::r)) else pure (Wq r):Sem (List (Str×Addr)))=pure (clFrom env.cells names cs):=by
  intro names
  induction names with
  | nil=>intro cs _;rfl
  | cons y r ih=>
   intro cs hn
   obtain ⟨n,k⟩:=y
   rw[List.forIn_cons]
   by_cases hk:k=.free
   ·obtain ⟨c,hc⟩:=hn (n,k) YS hk
    have hc':env.cells.lookup n=some c:=hc
    subst hk
    have e1:cellOf env n=pure c:=by unfold cellOf;rw[hc']
    show (_ >>= _)=_
    simp only[beq_self_eq_true,if_true,e1]
    unfold clFrom
    rw[if_pos rfl,hc']
    exact ih _ fun y hy=>hn y (YL _ hy)
   ·have e2:(k==Xc)=false:=by simpa using hk
    show (_ >>= _)=_
    simp only[e2,YT,if_false]
    unfold clFrom
    rw[if_neg hk]
    exact ih _ fun y hy=>hn y (YL _ hy)
 rw[key scope.names [] h]
 rfl
section
variable {prog:Yx}{w:World}{A:Around}{R:Result->Shared->Prop}{s:Shared}
abbrev Out (prog:Yx)(w:World)(A:Around)(env:Env)(R:Result->Shared->Prop):Value->Shared->Prop:=notedBy 6e1 A env fun e s'=>R (.error e) s'
noncomputable abbrev testsOf (env:Env)(ifs:6e4):Sem Bool:=forIn ifs true fun c r=>if r=true then do let ok ←isTrue c env (eval c env);pure (Wq ok) else pure (Wq r)
theorem compLoop_any {elt target iter:Expr}{ifs:6e4}{scope:Scope}{pos:Pos}{it acc:Value}{env:Env}(I:Nat->Shared->Prop)
  (turn:∀k z,I k z->wpAny 6e1 A (pyNext it) (fun r z1=>match r with
   | none=>R (.ok .next) z1
   | some v=>wpAny 6e1 A (Wn target it v) (fun _ z2=>wpAny 6e1 A (assign target env v) (fun _ z3=>wpAny 6e1 A (testsOf env ifs) (fun yes z4=>
     if yes=true then wpAny 6e1 A (eval elt env) (fun x z5=>wpAny 6e1 A (call (.builtin "list.append") [acc,x]) (fun _ z6=>∃m,m < k/\I m z6) (Out prog w A env R) z5) (Out prog w A env R) z4
     else ∃m,m < k/\I m z4) (Out prog w A env R) z3) (Out prog w A env R) z2) (Out prog w A env R) z1) (Out prog w A env R) z)
  (n:Nat) (h:I n s):Vh 6e1 A (.compLoop (.ListComp elt [⟨target,iter,ifs,0⟩] scope pos) 0 it acc env) R s:=by
 refine codeAny_loop rfl I ?_ n h
 intro k z hz
 refine wpAny_noted ?_
 rw[compTurn_list]
 apply Yb
 apply Vb
 apply Yb
 refine Xj (turn k z hz) ?_ fun _ _ e=>e
 rintro (_ | v) z1 y1
 ·exact Yg y1
 apply Yb
 refine Xj y1 (fun _ z2 y2=>?_) fun _ _ e=>e
 apply Yb
 refine Xj y2 (fun _ z3 y3=>?_) fun _ _ e=>e
 apply Yb
 refine Xj y3 (fun yes z4 y4=>?_) fun _ _ e=>e
 by_cases b:yes=true
 ·subst b
  apply Yb
  apply Yb
  refine Xj y4 (fun x z5 y5=>?_) fun _ _ e=>e
  apply Yb
  exact Xj y5 (fun _ z6 y6=>Yg (Yg ⟨rfl,y6⟩)) fun _ _ e=>e
 ·have nb:yes=false:=by simpa using b
  subst nb
  exact Yg ⟨rfl,y4⟩
end
def CompCx (X:Cx)(N':6e2)(scope:Scope)(C:Addr)(s₀:Shared)(H₀:Hp)(ex:3e8)(pn:2e1):Cx:=
 { X with N:=N',s₀:=s₀,H₀:=H₀,env:=compEnvC scope (clFrom X.env.cells scope.names []) C X.env,outer:=X.stack,ex:=ex,fn:=fun _=>false,pn:=pn,xe:=fun _ _=>False }
structure CSc (X:Cx)(scope:Scope)(vs fs:List Str)(fr:List Nat):Prop where
 kind:scope.kind=.function
 cell:(scope.names.all fun y=>y.2 != .cell)=true
 free:(scope.names.all fun y=>y.2 != .free||(X.env.kindOf y.1==some .cell||X.env.kindOf y.1==some .free))=true
 loc:(scope.names.all fun y=>y.2 != .local||scope.names.lookup y.1==some .local)=true
 fre:(scope.names.all fun y=>y.2 != .free||scope.names.lookup y.1==some .free)=true
 fsf:(fs.all fun x=>scope.names.lookup x==some .free)=true
 at':fr.map (fun i=>X.N[i]?)=fs.map some
def PTs (X:Cx)(ifs:6e4)(t:TT):Prop:=
 ∀(pins:2e1) (s:Shared) (σ:St) (H:Hp) (Q:Bool->Hp->Prop),Inv X pins σ H s->t σ H Q->
  wpAny 2e8 X.A (forIn ifs true fun c r=>if r=true then do let ok ←isTrue c X.env (eval c X.env);pure (Wq ok) else pure (Wq r)) (TP X pins σ Q) X.xe s
noncomputable def tYes:TT:=fun _ H Q=>Q true H
theorem pts_nil {X:Cx}:PTs X [] tYes:=fun _ _ _ H _ I h=>wpAny_tests_nil ⟨H,I,h⟩
theorem pts_one {X:Cx}{c:Expr}{t:TT}(h:PT X c t):PTs X [c] t:=fun pins s σ H Q I q=>wpAny_tests_one (h pins s σ H Q I q)
noncomputable def stIn (vs:6e2)(fr:12e4)(σ:St):St:=vs.map (fun _=>none)++fr.map fun i=>(σ[i]?).join
def CompW (J:It)(vs:6e2)(fr:12e4)(g:TG)(tt:TT)(te:TE)(σ:St)(H1:Hp)(Q:VK):Prop:=
 ∃W:Nat->Nat->St->List V->Hp->Prop,(∃m,W 0 m (stIn vs fr σ) [] H1)/\∀i m σ' ys H,W i m σ' ys H->
  (J.stop i H/\ys.length<=Yo/\∀D,H D=none->Q (.ref D) (upd H D (.lst ys)))\/
  (J.go i H/\ys.length<=Yo/\∃N:St->List V->Hp->Prop,(∀σ2 ys2 H2,N σ2 ys2 H2->∃m',m' < m/\W (i + 1) m' σ2 ys2 H2)/\∀x H',J.yld i H x H'->g x σ' H' fun σ2 H2=>tt σ2 H2 fun b H3=>
   if b=true then te σ2 H3 fun y H4=>N σ2 (ys++[y]) H4 else N σ2 ys H3)
noncomputable def tComp (wi:TI)(vs:6e2)(fr:12e4)(g:TG)(tt:TT)(te:TE):TE:=fun σ H Q=>wi σ H fun J H1=>CompW J vs fr g tt te σ H1 Q
section
variable {X:Cx}{tg elt iter:Expr}{ifs:6e4}{scope:Scope}{pos:Pos}{vs fs:6e2}{fr:12e4}
theorem mem_all {α:Type}{p:α->Bool}{l:List α}(h:l.all p=true){x:α}(hx:x∈l):p x=true:=YM.mp h x hx
theorem CSc.cell' (S:11e7):∀y∈scope.names,y.2≠.cell:=fun y hy e=>by have:=mem_all S.cell hy;rw[e] at this;simp at this
theorem CSc.free' (S:11e7):∀y∈scope.names,y.2=.free->X.env.kindOf y.1=some .cell\/X.env.kindOf y.1=some .free:=fun y hy e=>by
 have:=mem_all S.free hy;rw[e] at this;simpa using this
theorem CSc.loc' (S:11e7):∀y∈scope.names,y.2=.local->scope.names.lookup y.1=some .local:=fun y hy e=>by
 have:=mem_all S.loc hy;rw[e] at this;simpa using this
theorem Zbs {α β:Type} [BEq α] [LawfulBEq α]:∀{l:List (α×β)} {x:α} {k:β},l.lookup x=some k->(x,k)∈l
  | [],_,_,h=>by simp at h
  | (n,k')::r,x,k,h=>by
    rw[YO] at h
    cases e:x==n with
    | true=>rw[e] at h;cases h;rw[eq_of_beq e];exact YS
    | false=>rw[e] at h;exact YL _ (Zbs h)
theorem Zbz {env:Env}{x:Str}:∀{names:List (Str×WK)} {k:WK},
    (names.map fun (n,k)=>if (k==Xc&&env.scope.kind==.function&&env.kindOf n==some .cell) then (n,X5) else (n,k)).lookup x=some k->
    names.lookup x=some k\/(k=.cell/\names.lookup x=some .free)
  | [],_,h=>by simp at h
  | (n,k')::r,k,h=>by
    have ih:=@Zbz env x r k
    have h':List.lookup x ((if 10e4=true then (n,X5) else (n,k'))::(r.map fun (n,k)=>if (k==Xc&&env.scope.kind==.function&&env.kindOf n==some .cell) then (n,X5) else (n,k)))=some k:=h
    cases hx:x==n with
    | true=>
      by_cases hc:10e4=true
      · rw[if_pos hc] at h'
        simp only[YO,hx] at h' ⊢
        cases h'
        have:k'=.free:=by simp at hc;exact hc.1.1
        exact .inr ⟨rfl,by rw[this]⟩
      · rw[if_neg hc] at h'
        simp only[YO,hx] at h' ⊢
        exact .inl h'
    | false=>
      by_cases hc:10e4=true
      · rw[if_pos hc] at h'
        simp only[YO,hx] at h' ⊢
        exact ih h'
      · rw[if_neg hc] at h'
        simp only[YO,hx] at h' ⊢
        exact ih h'
theorem Zct {env:Env}{x:Str}:∀{names:List (Str×WK)},names.lookup x=some .free->
    let l:=(names.map fun (n,k)=>if (k==Xc&&env.scope.kind==.function&&env.kindOf n==some .cell) then (n,X5) else (n,k)).lookup x
    l=some .cell\/l=some .free
  | [],h=>by simp at h
  | (n,k')::r,h=>by
    have ih:=@Zct env x r
    show List.lookup x ((if 10e4=true then (n,X5) else (n,k'))::(r.map fun (n,k)=>if (k==Xc&&env.scope.kind==.function&&env.kindOf n==some .cell) then (n,X5) else (n,k)))=some .cell\/
      List.lookup x ((if 10e4=true then (n,X5) else (n,k'))::(r.map fun (n,k)=>if (k==Xc&&env.scope.kind==.function&&env.kindOf n==some .cell) then (n,X5) else (n,k)))=some .free
    cases hx:x==n with
    | true=>
      simp only[YO,hx] at h
      have h:k'=.free:=YC h
      by_cases hc:10e4=true
      · rw[if_pos hc,YO,hx];exact .inl rfl
      · rw[if_neg hc,YO,hx,h];exact .inr rfl
    | false=>
      simp only[YO,hx] at h
      by_cases hc:10e4=true
      · rw[if_pos hc];simp only[YO,hx];exact ih h
      · rw[if_neg hc];simp only[YO,hx];exact ih h
end
section
variable {X:Cx}{tg elt iter:Expr}{ifs:6e4}{scope:Scope}{pos:Pos}{vs fs:6e2}{fr:12e4}
theorem CSc.clos (S:11e7)(ok:X.Ok):∀y∈scope.names,y.2=.free->∃c,X.env.cells.lookup y.1=some c:=fun y hy e=>ok.has y.1 (S.free' y hy e)
theorem CSc.cl (S:11e7)(ok:X.Ok){x:Str}{c:Addr}(e:(clFrom X.env.cells scope.names []).lookup x=some c):X.env.cells.lookup x=some c:=
 Zdb (S.clos ok) (fun _ _ q=>by simp at q) x c e
theorem ZaU {h:Heap}{b:Addr}{o:Obj}{n:Nat}(e:h.get? b=some o)(hn:h.objs.size<=n):b≠n:=Yn (Yr (Yp e) hn)
theorem Zdu {pins:2e1}{σ:St}{H:Hp}{s:Shared}{fp:3e8}{C:Addr}{h1:Heap}{tk:Nat}{m1:3e0}(S:11e7)(I:2e4)
  (hf:∀b∈fp,FpOk X pins H b) (hfo:∀b∈fp,∃o,s.heap.get? b=some o) (hC:s.heap.objs.size<=C) (hn:h1.Ns C m1) (old:∀b o,s.heap.get? b=some o->h1.get? b=some o):
  Inv (CompCx X (vs++fs) scope C s H fp (X.pn++pins)) [] (stIn vs fr σ) H { s with heap:=h1,toks:=tk }:=by
 have cl:=fun x c e=>S.cl I.ok (x:=x) (c:=c) e
 have hsub:=I.stkSub
 have cellLt:∀x c,X.env.cells.lookup x=some c->c < s.heap.objs.size:=fun x c e=>by obtain ⟨v,q⟩:=I.cell x c e;exact q.lt
 refine ⟨⟨I.ok.mod,S.kind,I.ok.glob,I.ok.blt,hC,fun x y c e1 e2=>I.ok.inj x y c (cl x c e1) (cl y c e2),fun x hx=>?_,fun _ _ z _=>(nomatch z),I.ok.hd,I.ok.frames,.inl rfl,fun b hb=>?_,I.bs,Yz I.ok.bsz I.sz,fun b o e hb=>?_,fun b hb z=>?_,I.stack,I.stkFree⟩,
  rfl,I.bare,Un.kept old,⟨m1,hn,fun i x v e1 e2 e3=>?_⟩,fun x c e=>?_,I.hok.fresh hC,fun x c e=>I.freeC x c (cl x c e),fun p hp=>?_,I.hok.kept old,?_⟩
 ·-- has
  have hx':(relabel scope X.env).names.lookup x=some .cell\/(relabel scope X.env).names.lookup x=some .free:=hx
  have:scope.names.lookup x=some .free:=by
   rcases hx' with q | q
   ·rcases Zbz q with q | ⟨_,q⟩
    ·exact absurd rfl (S.cell' _ (Zbs q))
    ·exact q
   ·rcases Zbz q with q | ⟨q,_⟩
    ·exact q
    ·cases q
  exact Zcr (Zbs this)
 ·-- exf
  obtain ⟨o,ho⟩:=hfo b hb
  obtain ⟨f0,f1,f2,f3,f4,f5⟩:=hf b hb
  exact ⟨ZaU ho hC,fun x c e=>f4 x c (cl x c e)⟩
 ·-- noex
  have e':=(I.ok.bs b o e).1
  obtain ⟨_,_,_,f3,_,_⟩:=hf b hb
  rcases f3 with z | z
  ·exact I.ok.noex b o e z
  ·exact absurd (Yr (Yp e') z) (X1 _)
 ·-- exfs
  obtain ⟨_,f1,f2,_⟩:=hf b hb
  rcases Ys.mp (hsub b z) with q | q
  ·exact f1 q
  ·exact f2 q
 ·-- loc
  have e1:(vs++fs)[i]? = some x:=e1
  unfold stIn at e2
  by_cases hi:i < vs.length
  ·rw[Yd (by simpa using hi)] at e2
   simp[hi] at e2
  ·rw[YY (by simpa using hi),Yv,YI] at e2
   rw[YY (by simpa using hi)] at e1
   obtain ⟨j,hj⟩:∃j,fr[i - vs.length]? = some j:=by
    cases q:fr[i - vs.length]? with
    | none=>rw[q] at e2;cases e2
    | some j=>exact ⟨j,rfl⟩
   rw[hj] at e2
   have e2':(σ[j]?).join=some v:=YC e2
   have hσ:σ[j]? = some (some v):=by
    cases q:σ[j]? with
    | none=>rw[q] at e2';cases e2'
    | some r=>rw[q] at e2';exact congrArg some e2'
   have hN:X.N[j]? = some x:=by
    have:=congrArg (fun l=>l[i - vs.length]?) S.at'
    simp only[YI,hj,e1,Vi] at this
    exact YC this
   have hxf:scope.names.lookup x=some .free:=by
    have:=mem_all S.fsf (YH e1)
    simpa using this
   have hk:=S.free' _ (Zbs hxf) rfl
   obtain ⟨m,hm,hl⟩:=I.loc
   have hvis:Vis X.env.scope x:=by
    rcases hk with k | k
    ·exact .inr (.inl k)
    ·exact .inr (.inr k)
   obtain ⟨u,ru,lk⟩:=hl j x v hN hσ hvis
   refine ⟨u,ru,?_⟩
   rcases lk with ⟨k,_⟩ | ⟨_,c,hc,hv⟩
   ·have k':X.env.kindOf x=some .local:=k
    rcases hk with z | z
    ·have z':X.env.kindOf x=some .cell:=z
     rw[k'] at z';cases z'
    ·have z':X.env.kindOf x=some .free:=z
     rw[k'] at z';cases z'
   ·obtain ⟨c',hc'⟩:=Zcr (cells:=X.env.cells) (cs:=[]) (Zbs hxf)
    have:=cl x c' hc'
    rw[hc] at this
    cases this
    refine .inr ⟨Zct hxf,c,hc',?_⟩
    obtain ⟨o,ho,hd⟩:=hv
    exact ⟨o,old c o ho,hd⟩
 ·-- cell
  obtain ⟨v,o,ho,hd⟩:=I.cell x c (cl x c e)
  exact ⟨v,o,old c o ho,hd⟩
 ·-- pin
  have hp':p∈X.pn++pins:=by simpa[CompCx] using hp
  obtain ⟨e,n,ne,nf,d⟩:=I.pin p hp'
  refine ⟨old _ _ e,n,ZaU e hC,fun z=>?_,d⟩
  rcases Ys.mp (hsub _ z) with q | q
  ·exact ne q
  ·exact nf q
 ·show (stIn vs fr σ).length=(vs++fs).length
  have:=congrArg List.length S.at'
  simp only[Yv] at this
  unfold stIn
  simp[this]
theorem comp_back {pins:2e1}{σ σ':St}{H H':Hp}{s s':Shared}{fp:3e8}{C D:Addr}{ys:List V}{its:3e9}{n:Nat}{pl:2e1}(I:2e4)
  (hf:∀b∈fp,FpOk X pins H b) (J:Inv (CompCx X (vs++fs) scope C s H fp (X.pn++pins)) pl σ' H' s')
  (hD:s.heap.objs.size<=D) (hDn:H' D=none) (hl:ys.length<=Yo) (r:Vals ys its) (ho:s'.heap.get? D=some { cls:=.type "list",data:=.seq its.toArray n }):Inv X pins σ (upd H' D (.lst ys)) s':=by
 have ne:∀b o,s.heap.get? b=some o->b≠D:=fun b o e=>ZaU e hD
 have u:Un (frs X.stack) fp H H' s.heap s'.heap:=J.base
 refine I.call' (ch:=fp) J.os ⟨u.keep,u.slot,fun b o e q hx=>?_,u.there,fun b xs e=>?_,fun b o xs e=>?_,fun b ps e=>?_⟩ (fun b o e=>?_) J.bare fun b hb=>?_
 ·rw[Zaw (ne b o e)];exact u.free b o e q hx
 ·rw[Zaw (Zap (u.tups b xs e) hDn)];exact u.tups b xs e
 ·rw[Zaw (Zap (u.frzs b o xs e) hDn)];exact u.frzs b o xs e
 ·obtain ⟨more,q⟩:=u.tbls b ps e
  exact ⟨more,by rw[Zaw (Zap q hDn)];exact q⟩
 ·by_cases hb:b=D
  ·subst hb
   rw[ZaM] at e;cases e
   exact ⟨hl,its,n,r,ho⟩
  ·rw[Zaw hb] at e
   exact (J.hok b o e).stay (fun _ _ _ q=>q) (fun c q=>by rw[Zaw (Zap q hDn)];exact q) fun c xs q=>by rw[Zaw (Zap q hDn)];exact q
 ·obtain ⟨f0,f1,f2,f3,f4,f5⟩:=hf b hb
  exact ⟨f3,f1,f4,f5⟩
end
section
variable {X:Cx}{tg elt iter:Expr}{ifs:6e4}{scope:Scope}{pos:Pos}{vs fs:6e2}{fr:12e4}{g:TG}{tt:TT}{te:TE}
theorem Zcn {α:Type}{M:Model}{A:Around}{t:Sem α}{Q Q':α->Shared->Prop}{E:1e7}{s:Shared}(h:wpAny M A t Q (fun _ _=>False) s)(hQ:∀a s,Q a s->Q' a s):wpAny M A t Q' E s:=
 Xj h hQ fun _ _ f=>We f
theorem Zdv {pins:2e1}{σ:St}{H:Hp}{s:Shared}{Q:VK}{it:Addr}{fp:3e8}{tn:Nat->Heap->Prop}{J:It}{RR:Value->Addr->Result->Shared->Prop}
  (S:11e7) (hc:11e3)
  (bG:∀C s₀ H₀ ex pn,PG 2e2 tg g) (bT:∀C s₀ H₀ ex pn,PTs 2e2 ifs tt) (bE:∀C s₀ H₀ ex pn,PE 2e2 elt te)
  (I:2e4) (T:Turn X.prog X.w X.K tg J fp it tn) (st:tn 0 s.heap) (hf:∀b∈fp,FpOk X pins H b)
  (q:CompW J vs fr g tt te σ H Q)
  (hRR:∀D C H' s' m',Inv X pins σ H' s'->Q (.ref D) H'->s'.heap.Ns C m'->H' C=none->s.heap.objs.size<=C->RR (.ref D) C (.ok .next) s'):
  wpAny 2e8 X.A (newList []) (fun acc s₃=>wpAny 2e8 X.A (newFunctionEnv scope X.env.globals (clFrom X.env.cells scope.names []) [] X.env.qual none .none (some X.env)) (fun cenv s₄=>
   Vh (model X.prog X.w) X.A (.compStart (.ListComp elt [⟨tg,iter,ifs,0⟩] scope pos) 0 (.ref it) acc { cenv with scope:=relabel scope X.env }) (RR acc cenv.locals) s₄) X.xe s₃) X.xe s:=by
 obtain ⟨W,⟨m0,w0⟩,turn⟩:=q
 refine Xp (wpAny_newFunctionEnv S.cell' (by intro y hy;simp at hy) (fun h₁ hns₁ hsb₁=>?_) S.kind)
 dsimp only at hns₁ hsb₁ ⊢
 generalize hH2:s.heap.push { cls:=.type "list",dict:=none,data:=.seq ([]:List Value).toArray }=H2 at hns₁ hsb₁ ⊢
 have hCs:H2.objs.size=s.heap.objs.size + 1:=by rw[←hH2,Heap.size_push]
 have hDC:s.heap.objs.size≠H2.objs.size:=by rw[hCs];exact Yn (VJ _)
 have hCle:s.heap.objs.size<=H2.objs.size:=by rw[hCs];exact Nat.le_succ _
 have old:∀b o,s.heap.get? b=some o->h₁.get? b=some o:=fun b o e=>hsb₁.extBut b o (ZaU e hCle) (Ya _ (hH2 ▸ Ya _ e))
 have hacc:h₁.get? s.heap.objs.size=some { cls:=.type "list",data:=.seq ([]:List Value).toArray 0 }:=hsb₁.extBut _ _ hDC (Ya _ (hH2 ▸ Yq _ rfl))
 have hfo:∀b∈fp,∃o,s.heap.get? b=some o:=fun b hb=>by obtain ⟨o,e,_⟩:=T.obj 0 _ st b hb;exact ⟨o,e⟩
 generalize hY:CompCx X (vs++fs) scope H2.objs.size s H fp (X.pn++pins)=Y
 have J0:Inv Y [] (stIn vs fr σ) H { s with heap:=h₁,toks:=s.toks + ([]:List (Str×Value)).length }:=by
  rw[←hY];exact Zdu S I hf hfo hCle hns₁ old
 have hG:PG Y tg g:=by rw[←hY];exact bG _ _ _ _ _
 have hT:PTs Y ifs tt:=by rw[←hY];exact bT _ _ _ _ _
 have hE:PE Y elt te:=by rw[←hY];exact bE _ _ _ _ _
 have ePr:Y.prog=X.prog:=by rw[←hY];rfl
 have eW:Y.w=X.w:=by rw[←hY];rfl
 have eK:Y.K=X.K:=by rw[←hY];rfl
 have eA:Y.A=X.A:=by rw[←hY];rfl
 have eC:Y.calm=true:=by rw[←hY];exact hc
 have eEnv:Y.env=compEnvC scope (clFrom X.env.cells scope.names []) H2.objs.size X.env:=by rw[←hY];rfl
 have eL:Y.env.locals=H2.objs.size:=by rw[eEnv];rfl
 have eX:Y.xe=fun _ _=>False:=by rw[←hY];rfl
 have eS:Y.s₀=s:=by rw[←hY];rfl
 have eEx:Y.ex=fp:=by rw[←hY];rfl
 have eFs:Y.fs=frs X.stack:=by rw[←hY];rfl
 have ePn:Y.pn=X.pn++pins:=by rw[←hY];rfl
 have eCl:∀x c,Y.env.cells.lookup x=some c->X.env.cells.lookup x=some c:=fun x c e=>by
  rw[eEnv] at e;exact S.cl I.ok e
 have cellLt:∀x c,Y.env.cells.lookup x=some c->c≠s.heap.objs.size:=fun x c e=>by
  obtain ⟨v,z⟩:=I.cell x c (eCl x c e);exact Yn z.lt
 have pnLt:∀p∈Y.pn,p.1≠s.heap.objs.size:=fun p hp=>by
  rw[ePn] at hp;exact ZaU (I.pin p hp).1 (Yh _)
 have fpD:∀b∈fp,b≠s.heap.objs.size:=fun b hb=>by obtain ⟨o,e⟩:=hfo b hb;exact ZaU e (Yh _)
 have hDfs:s.heap.objs.size∉Y.fs:=fun z=>by
  rw[eFs] at z
  rcases Ys.mp (I.stkSub _ z) with z | z
  ·exact absurd I.lt (by rw[←z];exact X1 _)
  ·exact I.nofs (Yh _) z
 have stat:∀{H':Hp} {o:Obj},(∀b∈fp,H' b=none)->∀b∈fp,FpOk Y [(s.heap.objs.size,o)] H' b:=fun {H' o} hn b hb=>by
  obtain ⟨f0,f1,f2,f3,f4,f5⟩:=hf b hb
  obtain ⟨ob,e⟩:=hfo b hb
  refine ⟨hn b hb,by rw[eL];exact ZaU e hCle,fun z=>?_,.inl (by rw[eEx];exact hb),fun x c e=>f4 x c (eCl x c e),fun p hp=>?_⟩
  ·rw[eFs] at z
   rcases Ys.mp (I.stkSub _ z) with z | z
   ·exact f1 z
   ·exact f2 z
  ·rcases YB.mp hp with hp | hp
   ·rw[ePn] at hp;exact f5 p hp
   ·have:p=(s.heap.objs.size,o):=by simpa using hp
    rw[this];exact Xi (fpD b hb)
 have pinD:∀{σ':St} {H':Hp} {s':Shared} {its:3e9} {k:Nat},Inv Y [] σ' H' s'->H' s.heap.objs.size=none->s'.heap.get? s.heap.objs.size=some { cls:=.type "list",data:=.seq its.toArray k }->
   Inv Y [(s.heap.objs.size,{ cls:=.type "list",data:=.seq its.toArray k })] σ' H' s':=fun {σ' H' s' its k} i hn e=>i.pins_of fun p hp=>by
  have:p=(s.heap.objs.size,{ cls:=.type "list",data:=.seq its.toArray k }):=by simpa using hp
  subst this
  exact ⟨e,hn,by rw[eL];exact hDC,hDfs,fun v z=>by cases z⟩
 have loop:∀s₃:Shared,s₃={ s with heap:=h₁,toks:=s.toks + ([]:List (Str×Value)).length }->
   Vh 2e8 X.A (.compLoop 11e0 0 (.ref it) 9e1 (compEnvC scope (clFrom X.env.cells scope.names []) H2.objs.size X.env))
    (RR 9e1 H2.objs.size) s₃:=by
  rintro s₃ rfl
  rw[←eEnv,←ePr,←eW,←eA]
  refine compLoop_any (fun n s'=>∃i σ' ys its k H',Inv Y [(s.heap.objs.size,{ cls:=.type "list",data:=.seq its.toArray k })] σ' H' s'/\Vals ys its/\tn i s'.heap/\(∀b∈fp,H' b=none)/\W i n σ' ys H') ?_ m0
   ⟨0,_,[],[],0,H,pinD J0 (I.hok.fresh (Yh _)) hacc,.nil,T.keep _ _ _ st fun b _ o e=>old b o e,fun b hb=>(hf b hb).1,w0⟩
  rintro n s3 ⟨i,σ3,ys,its,k,H3,J3,rv,st3,fr3,w3⟩
  have pD:=J3.pin (s.heap.objs.size,_) (YA _ (Yw.mpr rfl))
  have eI:=rv.length
  rcases turn i n σ3 ys H3 w3 with ⟨stop,hlen,qn⟩ | ⟨go,hlen,N,hN,step⟩
  ·have dn:=T.done Y ePr eW eK eC i _ s3 σ3 H3 (fun _ _=>False) J3 (stat fr3) st3 stop
   rw[←ePr,←eW] at dn
   refine Zcn dn fun r s4 h_=>?_
   obtain ⟨hr,J4⟩:=h_
   subst hr
   have pD4:=J4.pin (s.heap.objs.size,_) (YA _ (Yw.mpr rfl))
   obtain ⟨m4,hm4,_⟩:=id J4.loc
   rw[eL] at hm4
   have nC:H3 H2.objs.size=none:=by rw[←eL];exact J4.free
   refine hRR _ _ _ s4 m4 (comp_back I hf (by rw[hY];exact J4) (Yh _) pD4.2.1 hlen rv pD4.1) (qn _ pD4.2.1) hm4 ?_ hCle
   rw[Zaw (Xi hDC)];exact nC
  ·have im:=T.item Y ePr eW eK eC i _ s3 σ3 H3 (fun _ _=>False) J3 (stat fr3) st3 go
   rw[←ePr,←eW] at im
   refine Zcn im fun r s4 h_=>?_
   obtain ⟨u,hr,h4⟩:=h_
   subst hr
   refine Zcn h4 fun _ s5 h_=>?_
   obtain ⟨x,H5,J5,r5,y5,st5,fr5⟩:=h_
   have J5':=J5.pinned (stat fr5) (T.obj _ _ st5)
   have go1:=hG _ s5 σ3 H5 x u _ J5' r5 (step x H5 y5)
   rw[eX] at go1
   refine Zcn go1 fun _ s6 h_=>?_
   obtain ⟨σ6,H6,J6,q6⟩:=h_
   have go2:=hT _ s6 σ6 H6 _ J6 q6
   rw[eX] at go2
   refine Zcn go2 fun ok s7 h_=>?_
   obtain ⟨H7,J7,q7⟩:=h_
   have fin:∀{σ8:St} {H8:Hp} {s8:Shared},Inv Y ([(s.heap.objs.size,{ cls:=.type "list",data:=.seq its.toArray k })]++pinsAt fp s5.heap) σ8 H8 s8->
     tn (i + 1) s8.heap/\(∀b∈fp,H8 b=none):=fun {σ8 H8 s8} J8=>by
    refine ⟨T.keep _ _ _ st5 fun b hb o e=>(J8.pin (b,o) (YA _ (YA _ (Zbc hb e)))).1,fun b hb=>?_⟩
    obtain ⟨o,e,d⟩:=T.obj _ _ st5 b hb
    exact (J8.pin (b,o) (YA _ (YA _ (Zbc hb e)))).2.1
   cases ok with
   | false=>
    rw[if_neg Yl] at q7 ⊢
    obtain ⟨m',hm,w7⟩:=hN _ _ _ q7
    exact ⟨m',hm,i + 1,σ6,ys,its,k,H7,J7.unpinned,rv,(fin J7).1,(fin J7).2,w7⟩
   | true=>
    rw[if_pos rfl] at q7 ⊢
    have go3:=hE _ s7 σ6 H7 _ J7 q7
    rw[eX] at go3
    refine Zcn go3 fun yv s8 h_=>?_
    obtain ⟨y,H8,J8,r8,n8⟩:=h_
    obtain ⟨m',hm,w8⟩:=hN _ _ _ n8
    have pD8:=J8.pin (s.heap.objs.size,_) (YA _ (Xa _ (Yw.mpr rfl)))
    refine append_at (hsz:=by rw[Yf,←eI];exact hlen) pD8.1 fun h9 hs9 hD9=>?_
    have J9:Inv Y [] σ6 H8 { s8 with heap:=h9 }:=(J8.pins_of (pins':=[]) fun p hp=>absurd hp (by simp)).turned (t':=s8.toks) (fun b o hb e=>(hs9.2 b hb).trans e) pD8.2.1 (by rw[eL];exact hDC)
     (.inr (by rw[eS];exact Yh _)) cellLt fun p hp=>pnLt p (by simpa using hp)
    refine ⟨m',hm,i + 1,σ6,ys++[y],its++[yv],k + 1,H8,pinD J9 pD8.2.1 (by rw[hD9,List.push_toArray]),Vals.append rv (.cons r8 .nil),?_,(fin J8).2,w8⟩
    exact T.keep _ _ _ (fin J8).1 fun b hb o e=>(hs9.2 b (fpD b hb)).trans e
 exact codeAny_compStart_list (loop _ rfl) (T.self _ 0 _ _ _ (T.keep _ _ _ st fun b _ o e=>old b o e) (loop _ rfl))
theorem pe_comp {wi:TI}(S:11e7)(hc:11e3)(hi:PI X tg iter wi)
  (bG:∀C s₀ H₀ ex pn,PG 2e2 tg g) (bT:∀C s₀ H₀ ex pn,PTs 2e2 ifs tt) (bE:∀C s₀ H₀ ex pn,PE 2e2 elt te)
  (hs:∀x,Xo iter X.env x=pure x:=by intro _;rfl):
  PE X 11e0 (tComp wi vs fr g tt te):=by
 sleep 8
 rw[eval_ListComp]
 refine WF (use:=none) rfl hs (Zcq (S.clos I.ok)) S.kind S.loc' (thn (hi pins s σ H _ I h) fun v s1 h1=>thn h1 fun itv s2 h2=>?_)
 obtain ⟨it,fp,tn,J,H2,e,I2,T,st2,f2,q2⟩:=h2
 subst e
 refine Zdv (RR:=fun acc C=>compPost 2e8 X.A X.xe none (EP X pins σ Q) acc C) S hc bG bT bE I2 T st2 f2 q2 ?_
 intro D C H' s' m' I' hq hn hC hle
 refine ⟨m',hn,fun h' hs'=>⟨.ref D,H',?_,rfl,hq⟩⟩
 refine I'.turned (t':=s'.toks) (fun b o hb e=>(hs'.2 b hb).trans e) hC ?_ (.inr (Yz I2.sz hle)) ?_ ?_
 ·exact XZ (Yr I2.lt hle)
 ·intro x c e
  obtain ⟨v,z⟩:=I2.cell x c e
  exact Yn (Yr z.lt hle)
 ·intro p hp
  exact ZaU (I2.pin p hp).1 hle
theorem ps_comp {wi:TI}{i:Nat}{x:Str}{px spos:Pos}(hN:X.N.Nodup)(hx:X.N[i]? = some x)(hl:X.env.scope.names.lookup x=some .local)
  (S:11e7) (hc:11e3) (hi:PI X tg iter wi)
  (bG:∀C s₀ H₀ ex pn,PG 2e2 tg g) (bT:∀C s₀ H₀ ex pn,PTs 2e2 ifs tt) (bE:∀C s₀ H₀ ex pn,PE 2e2 elt te)
  (hsw:X9 11e0 (some (.Name x px)) spos.line X.env=pure true:=by rfl)
  (hs:∀x,Xo iter X.env x=pure x:=by intro _;rfl):
  PS X (.Assign [.Name x px] 11e0 spos) (fun D σ H=>tComp wi vs fr g tt te σ H fun v H1=>D.nx (σ.set i (some v)) H1):=by
 intro pins s σ H D I h
 rw[exec_Assign_Name_used _ _ _ _ hsw]
 refine Yb (Vb (Yb ?_))
 show wpAny _ X.A (do let _ ←comprehension 11e0 scope X.env _ (newList []) false (eval iter X.env) (some (assign (.Name x px) X.env))) _ _ s
 refine Yb (Xj (WF (use:=some (assign (.Name x px) X.env)) (Q:=fun _ s'=>SP X pins D .next s') rfl hs (Zcq (S.clos I.ok)) S.kind S.loc'
  (thn (hi pins s σ H _ I h) fun v s1 h1=>thn h1 fun itv s2 h2=>?_)) (fun _ s' hq=>Yg (Yg hq)) fun _ _ e=>e)
 obtain ⟨it,fp,tn,J,H2,e,I2,T,st2,f2,q2⟩:=h2
 subst e
 refine Zdv (RR:=fun acc C=>compPost 2e8 X.A X.xe (some (assign (.Name x px) X.env)) (fun _ s'=>SP X pins D .next s') acc C) (Q:=fun v H1=>D.nx (σ.set i (some v)) H1) S hc bG bT bE I2 T st2 f2 q2 ?_
 intro Dd C H' s' m' I' hq hn hC hle
 show wpAny _ X.A (assign (.Name x px) X.env (.ref Dd)) _ _ _
 have hCL:C≠X.env.locals:=XZ (Yr I2.lt hle)
 have hCc:∀x c,X.env.cells.lookup x=some c->c≠C:=fun x c e=>by
  obtain ⟨v,z⟩:=I2.cell x c e
  exact Yn (Yr z.lt hle)
 refine wpAny_assign_Name (store_ok2 I' hN hx (.inl hl) (v:=.ref Dd) rfl (fun s'' I'' hch=>?_) (.inr hl))
 obtain ⟨a,hs'',ha⟩:=hch
 have hCa:C≠a:=by
  rcases ha with rfl | ha
  ·exact hCL
  ·exact Xi (hCc x a ha)
 refine ⟨m',hn.sameBut hs'' hCa,fun h' hs'=>⟨σ.set i (some (.ref Dd)),H',?_,hq⟩⟩
 refine I''.turned (t':=s''.toks) (fun b o hb e=>(hs'.2 b hb).trans e) hC hCL (.inr (Yz I2.sz hle)) hCc ?_
 intro p hp
 exact ZaU (I2.pin p hp).1 hle
end
section
variable {prog:Yx}{w:World}{A:Around}{R:Result->Shared->Prop}{s:Shared}
theorem compLoop_anyD {kx vx target iter:Expr}{ifs:6e4}{scope:Scope}{pos:Pos}{it:Value}{D:Addr}{env:Env}(I:Nat->Shared->Prop)
  (turn:∀k z,I k z->wpAny 6e1 A (pyNext it) (fun r z1=>match r with
   | none=>R (.ok .next) z1
   | some v=>wpAny 6e1 A (Wn target it v) (fun _ z2=>wpAny 6e1 A (assign target env v) (fun _ z3=>wpAny 6e1 A (testsOf env ifs) (fun yes z4=>
     if yes=true then wpAny 6e1 A (eval kx env) (fun x z5=>wpAny 6e1 A (eval vx env) (fun y z6=>wpAny 6e1 A (dictSet D x y) (fun _ z7=>∃m,m < k/\I m z7) (Out prog w A env R) z6) (Out prog w A env R) z5) (Out prog w A env R) z4
     else ∃m,m < k/\I m z4) (Out prog w A env R) z3) (Out prog w A env R) z2) (Out prog w A env R) z1) (Out prog w A env R) z)
  (n:Nat) (h:I n s):Vh 6e1 A (.compLoop (.DictComp kx vx [⟨target,iter,ifs,0⟩] scope pos) 0 it (.ref D) env) R s:=by
 refine codeAny_loop rfl I ?_ n h
 intro k z hz
 refine wpAny_noted ?_
 rw[compTurn_dict]
 apply Yb
 apply Vb
 apply Yb
 refine Xj (turn k z hz) ?_ fun _ _ e=>e
 rintro (_ | v) z1 y1
 ·exact Yg y1
 apply Yb
 refine Xj y1 (fun _ z2 y2=>?_) fun _ _ e=>e
 apply Yb
 refine Xj y2 (fun _ z3 y3=>?_) fun _ _ e=>e
 apply Yb
 refine Xj y3 (fun yes z4 y4=>?_) fun _ _ e=>e
 by_cases b:yes=true
 ·subst b
  apply Yb
  apply Yb
  refine Xj y4 (fun x z5 y5=>?_) fun _ _ e=>e
  apply Yb
  apply Xb
  refine Xj y5 (fun y z6 y6=>?_) fun _ _ e=>e
  apply Yb
  apply Vb
  apply Xb
  exact Xj y6 (fun _ z7 y7=>Yg ⟨rfl,y7⟩) fun _ _ e=>e
 ·have nb:yes=false:=by simpa using b
  subst nb
  exact Yg ⟨rfl,y4⟩
end
section
variable {X:Cx}{pins:2e1}{σ:St}{H:Hp}{s:Shared}{a:Addr}{y v:V}{u r:Value}{A:Around}{E:1e7}
theorem d_dictSet {H':Hp}{Q:Unit->Shared->Prop}(hu:A.units + 1 < cLine)(I:2e4)(g:DPut H a y v H')(ry:RelV y u)(rv:RelV v r)(h:∀s',Inv X pins σ H' s'->Q () s'):
  wpAny 2e8 A (dictSet a u r) Q E s:=by
 rcases g with ⟨kvs,k,e,ey,l,eH⟩ | ⟨kvs,k,b,e,ey,eb,l,eH⟩
 ·subst ey eH
  obtain ⟨z,hd,vs,rel,dd⟩:=dk_of I.hok e
  have hz:vs.length<=sizeLine:=by rw[←rel.length];exact z
  have hl:(putK kvs k v).length<=sizeLine:=by have:=Zbh kvs k v;lia
  refine wpAny_dictSet_pairs (hsz:=hz) (kV_is ry) dd fun h' dd' hs=>h _ ?_
  have he:∃q,h'.get? a=some q:=let ⟨q,_,_,hq,_⟩:=dd';⟨q,hq⟩
  exact d_write I (by rw[e];exact Wf) hs he (dk_new hl hd (rel.put k rv) dd')
 ·subst ey eH
  cases (show u=Y7 b from ry)
  obtain ⟨z,hd,xs,rel,dd⟩:=dt_of I.hok e
  have hz:xs.length<=sizeLine:=by rw[←XO rel];exact z
  have hl:(putK kvs k v).length<=sizeLine:=by have:=Zbh kvs k v;lia
  refine wpAny_dictSet_heap (hsz:=hz) (show (WI (mixKind X.prog X.w)).room A from by show A.units < cLine;lia) (ZcY I.hok eb) dd fun h' dd' hs=>h _ ?_
  obtain ⟨q,es,ep,hq,h2,h3,h4,_,h5⟩:=dd'
  refine d_write I (by rw[e];exact Wf) hs ⟨q,hq⟩ ⟨hl,hd,_,(rel.put k eb rv).keeps fun c ys ec=>?_,q,es,ep,hq,h2,h3,h4,h5⟩
  rw[Zaw (ne_of ec e (fun z=>nomatch z))]
  exact ec
end
def CompWD (J:It)(vs:6e2)(fr:12e4)(g:TG)(tt:TT)(tk te:TE)(σ:St)(H1:Hp)(Q:VK):Prop:=
 ∀D,H1 D=none->∃W:Nat->Nat->St->Hp->Prop,(∃m,W 0 m (stIn vs fr σ) (upd H1 D (.dT [])))/\∀i m σ' H,W i m σ' H->
  (J.stop i H/\Q (.ref D) H)\/
  (J.go i H/\∃N:St->Hp->Prop,(∀σ2 H2,N σ2 H2->∃m',m' < m/\W (i + 1) m' σ2 H2)/\∀x H',J.yld i H x H'->g x σ' H' fun σ2 H2=>tt σ2 H2 fun b H3=>
   if b=true then tk σ2 H3 fun y H4=>te σ2 H4 fun v H5=>∃H6,DPut H5 D y v H6/\N σ2 H6 else N σ2 H3)
noncomputable def tCompD (wi:TI)(vs:6e2)(fr:12e4)(g:TG)(tt:TT)(tk te:TE):TE:=fun σ H Q=>wi σ H fun J H1=>CompWD J vs fr g tt tk te σ H1 Q
section
variable {X:Cx}{tg kx vx iter:Expr}{ifs:6e4}{scope:Scope}{pos:Pos}{vs fs:6e2}{fr:12e4}{g:TG}{tt:TT}{tk te:TE}
theorem comp_backD {pins:2e1}{σ σ':St}{H H':Hp}{s s':Shared}{fp:3e8}{C:Addr}{pl:2e1}(I:2e4)
  (hf:∀b∈fp,FpOk X pins H b) (J:Inv (CompCx X (vs++fs) scope C s H fp (X.pn++pins)) pl σ' H' s'):Inv X pins σ H' s':=by
 have u:Un (frs X.stack) fp H H' s.heap s'.heap:=J.base
 refine I.call' (ch:=fp) J.os u J.hok J.bare fun b hb=>?_
 obtain ⟨f0,f1,f2,f3,f4,f5⟩:=hf b hb
 exact ⟨f3,f1,f4,f5⟩
theorem comp_blockD {pins:2e1}{σ:St}{H:Hp}{s:Shared}{Q:VK}{it:Addr}{fp:3e8}{tn:Nat->Heap->Prop}{J:It}{RR:Value->Addr->Result->Shared->Prop}
  (S:11e7) (hc:11e3) (hu:X.A.units + 1 < cLine)
  (bG:∀C s₀ H₀ ex pn,PG 2e2 tg g) (bT:∀C s₀ H₀ ex pn,PTs 2e2 ifs tt) (bK:∀C s₀ H₀ ex pn,PE 2e2 kx tk) (bE:∀C s₀ H₀ ex pn,PE 2e2 vx te)
  (I:2e4) (T:Turn X.prog X.w X.K tg J fp it tn) (st:tn 0 s.heap) (hf:∀b∈fp,FpOk X pins H b)
  (q:CompWD J vs fr g tt tk te σ H Q)
  (hRR:∀D C H' s' m',Inv X pins σ H' s'->Q (.ref D) H'->s'.heap.Ns C m'->H' C=none->s.heap.objs.size<=C->RR (.ref D) C (.ok .next) s'):
  wpAny 2e8 X.A newDict (fun acc s₃=>wpAny 2e8 X.A (newFunctionEnv scope X.env.globals (clFrom X.env.cells scope.names []) [] X.env.qual none .none (some X.env)) (fun cenv s₄=>
   Vh (model X.prog X.w) X.A (.compStart (.DictComp kx vx [⟨tg,iter,ifs,0⟩] scope pos) 0 (.ref it) acc { cenv with scope:=relabel scope X.env }) (RR acc cenv.locals) s₄) X.xe s₃) X.xe s:=by
 have hDn:H s.heap.objs.size=none:=I.hok.fresh (Yh _)
 obtain ⟨W,⟨m0,w0⟩,turn⟩:=q s.heap.objs.size hDn
 have I':=I.laid (a:=s.heap.objs.size) (o:=.dT []) (t':=s.toks) (fun _ _ q=>Ya _ q) (Yh _) (dt_empty s.heap I.big)
 have hfo0:∀b∈fp,∃o,s.heap.get? b=some o:=fun b hb=>by obtain ⟨o,e,_⟩:=T.obj 0 _ st b hb;exact ⟨o,e⟩
 have fpD:∀b∈fp,b≠s.heap.objs.size:=fun b hb=>by obtain ⟨o,e⟩:=hfo0 b hb;exact ZaU e (Yh _)
 have hf':∀b∈fp,FpOk X pins (upd H s.heap.objs.size (.dT [])) b:=fun b hb=>by
  obtain ⟨f0,f1,f2,f3,f4,f5⟩:=hf b hb
  exact ⟨by rw[Zaw (fpD b hb)];exact f0,f1,f2,f3,f4,f5⟩
 refine Xp (wpAny_newFunctionEnv S.cell' (by intro y hy;simp at hy) (fun h₁ hns₁ hsb₁=>?_) S.kind)
 dsimp only at hns₁ hsb₁ ⊢
 generalize hH2:s.heap.push { cls:=.type "dict",data:=.dict #[] }=H2 at hns₁ hsb₁ I' ⊢
 have hCs:H2.objs.size=s.heap.objs.size + 1:=by rw[←hH2,Heap.size_push]
 have old:∀b o,H2.get? b=some o->h₁.get? b=some o:=fun b o e=>hsb₁.extBut b o (ZaU e (Yh _)) (Ya _ e)
 have old0:∀b o,s.heap.get? b=some o->H2.get? b=some o:=fun b o e=>by rw[←hH2];exact Ya _ e
 have hfo:∀b∈fp,∃o,H2.get? b=some o:=fun b hb=>by obtain ⟨o,e⟩:=hfo0 b hb;exact ⟨o,old0 b o e⟩
 generalize hs2:({ s with heap:=H2,toks:=s.toks }:Shared)=s2 at I'
 have es2:s2.heap=H2:=by rw[←hs2]
 generalize hY:CompCx X (vs++fs) scope H2.objs.size s2 (upd H s.heap.objs.size (.dT [])) fp (X.pn++pins)=Y
 have J0:Inv Y [] (stIn vs fr σ) (upd H s.heap.objs.size (.dT [])) { s with heap:=h₁,toks:=s.toks + ([]:List (Str×Value)).length }:=by
  rw[←hY]
  have:=Zdu (tk:=s.toks + ([]:List (Str×Value)).length) S I' hf' (by rw[es2];exact hfo) (by rw[es2];exact Yh _) hns₁ (by rw[es2];exact old)
  rw[←hs2] at this ⊢;exact this
 have hG:PG Y tg g:=by rw[←hY];exact bG _ _ _ _ _
 have hT:PTs Y ifs tt:=by rw[←hY];exact bT _ _ _ _ _
 have hK:PE Y kx tk:=by rw[←hY];exact bK _ _ _ _ _
 have hE:PE Y vx te:=by rw[←hY];exact bE _ _ _ _ _
 have ePr:Y.prog=X.prog:=by rw[←hY];rfl
 have eW:Y.w=X.w:=by rw[←hY];rfl
 have eK:Y.K=X.K:=by rw[←hY];rfl
 have eA:Y.A=X.A:=by rw[←hY];rfl
 have eC:Y.calm=true:=by rw[←hY];exact hc
 have eEnv:Y.env=compEnvC scope (clFrom X.env.cells scope.names []) H2.objs.size X.env:=by rw[←hY];rfl
 have eL:Y.env.locals=H2.objs.size:=by rw[eEnv];rfl
 have eX:Y.xe=fun _ _=>False:=by rw[←hY];rfl
 have eEx:Y.ex=fp:=by rw[←hY];rfl
 have eFs:Y.fs=frs X.stack:=by rw[←hY];rfl
 have ePn:Y.pn=X.pn++pins:=by rw[←hY];rfl
 have eCl:∀x c,Y.env.cells.lookup x=some c->X.env.cells.lookup x=some c:=fun x c e=>by
  rw[eEnv] at e;exact S.cl I.ok e
 have stat:∀{H':Hp},(∀b∈fp,H' b=none)->∀b∈fp,FpOk Y [] H' b:=fun {H'} hn b hb=>by
  obtain ⟨f0,f1,f2,f3,f4,f5⟩:=hf b hb
  obtain ⟨ob,e⟩:=hfo b hb
  refine ⟨hn b hb,by rw[eL];exact ZaU e (Yh _),fun z=>?_,.inl (by rw[eEx];exact hb),fun x c e=>f4 x c (eCl x c e),fun p hp=>?_⟩
  ·rw[eFs] at z
   rcases Ys.mp (I.stkSub _ z) with z | z
   ·exact f1 z
   ·exact f2 z
  ·rw[YF,ePn] at hp;exact f5 p hp
 have loop:∀s₃:Shared,s₃={ s with heap:=h₁,toks:=s.toks + ([]:List (Str×Value)).length }->
   Vh 2e8 X.A (.compLoop (.DictComp kx vx [⟨tg,iter,ifs,0⟩] scope pos) 0 (.ref it) 9e1 (compEnvC scope (clFrom X.env.cells scope.names []) H2.objs.size X.env))
    (RR 9e1 H2.objs.size) s₃:=by
  rintro s₃ rfl
  rw[←eEnv,←ePr,←eW,←eA]
  refine compLoop_anyD (fun n s'=>∃i σ' H',Inv Y [] σ' H' s'/\tn i s'.heap/\(∀b∈fp,H' b=none)/\W i n σ' H') ?_ m0
   ⟨0,_,_,J0,T.keep _ _ _ st fun b _ o e=>old b o (old0 b o e),fun b hb=>(hf' b hb).1,w0⟩
  rintro n s3 ⟨i,σ3,H3,J3,st3,fr3,w3⟩
  rcases turn i n σ3 H3 w3 with ⟨stop,qn⟩ | ⟨go,N,hN,step⟩
  ·have dn:=T.done Y ePr eW eK eC i _ s3 σ3 H3 (fun _ _=>False) J3 (stat fr3) st3 stop
   rw[←ePr,←eW] at dn
   refine Zcn dn fun r s4 h_=>?_
   obtain ⟨hr,J4⟩:=h_
   subst hr
   obtain ⟨m4,hm4,_⟩:=id J4.loc
   rw[eL] at hm4
   have nC:H3 H2.objs.size=none:=by rw[←eL];exact J4.free
   exact hRR _ _ _ s4 m4 (comp_backD I' hf' (by rw[hY];exact J4)) qn hm4 nC (by rw[hCs];exact Nat.le_succ _)
  ·have im:=T.item Y ePr eW eK eC i _ s3 σ3 H3 (fun _ _=>False) J3 (stat fr3) st3 go
   rw[←ePr,←eW] at im
   refine Zcn im fun r s4 h_=>?_
   obtain ⟨u,hr,h4⟩:=h_
   subst hr
   refine Zcn h4 fun _ s5 h_=>?_
   obtain ⟨x,H5,J5,r5,y5,st5,fr5⟩:=h_
   have J5':=J5.pinned (stat fr5) (T.obj _ _ st5)
   have go1:=hG _ s5 σ3 H5 x u _ J5' r5 (step x H5 y5)
   rw[eX] at go1
   refine Zcn go1 fun _ s6 h_=>?_
   obtain ⟨σ6,H6,J6,q6⟩:=h_
   have go2:=hT _ s6 σ6 H6 _ J6 q6
   rw[eX] at go2
   refine Zcn go2 fun ok s7 h_=>?_
   obtain ⟨H7,J7,q7⟩:=h_
   have fin:∀{σ8:St} {H8:Hp} {s8:Shared},Inv Y ([]++pinsAt fp s5.heap) σ8 H8 s8->
     tn (i + 1) s8.heap/\(∀b∈fp,H8 b=none):=fun {σ8 H8 s8} J8=>by
    refine ⟨T.keep _ _ _ st5 fun b hb o e=>(J8.pin (b,o) (YA _ (YA _ (Zbc hb e)))).1,fun b hb=>?_⟩
    obtain ⟨o,e,d⟩:=T.obj _ _ st5 b hb
    exact (J8.pin (b,o) (YA _ (YA _ (Zbc hb e)))).2.1
   cases ok with
   | false=>
    rw[if_neg Yl] at q7 ⊢
    obtain ⟨m',hm,w7⟩:=hN _ _ q7
    exact ⟨m',hm,i + 1,σ6,H7,J7.unpinned,(fin J7).1,(fin J7).2,w7⟩
   | true=>
    rw[if_pos rfl] at q7 ⊢
    have go3:=hK _ s7 σ6 H7 _ J7 q7
    rw[eX] at go3
    refine Zcn go3 fun kv s8 h_=>?_
    obtain ⟨y,H8,J8,r8,q8⟩:=h_
    have go4:=hE _ s8 σ6 H8 _ J8 q8
    rw[eX] at go4
    refine Zcn go4 fun vv s9 h_=>?_
    obtain ⟨v,H9,J9,r9,H10,pt,n10⟩:=h_
    obtain ⟨m',hm,w10⟩:=hN _ _ n10
    exact d_dictSet (by rw[eA];exact hu) J9 pt r8 r9 fun s10 J10=>⟨m',hm,i + 1,σ6,H10,J10.unpinned,(fin J10).1,(fin J10).2,w10⟩
 exact codeAny_compStart_dict (loop _ rfl) (T.self _ 0 _ _ _ (T.keep _ _ _ st fun b _ o e=>old b o (old0 b o e)) (loop _ rfl))
end
section
variable {X:Cx}{tg kx vx iter:Expr}{ifs:6e4}{scope:Scope}{pos:Pos}{vs fs:6e2}{fr:12e4}{g:TG}{tt:TT}{tk te:TE}
theorem pe_compD {wi:TI}(S:11e7)(hc:11e3)(hu:X.A.units + 1 < cLine)(hi:PI X tg iter wi)
  (bG:∀C s₀ H₀ ex pn,PG 2e2 tg g) (bT:∀C s₀ H₀ ex pn,PTs 2e2 ifs tt) (bK:∀C s₀ H₀ ex pn,PE 2e2 kx tk) (bE:∀C s₀ H₀ ex pn,PE 2e2 vx te)
  (hs:∀x,Xo iter X.env x=pure x:=by intro _;rfl):
  PE X (.DictComp kx vx [⟨tg,iter,ifs,0⟩] scope pos) (tCompD wi vs fr g tt tk te):=by
 sleep 8
 rw[arm_eval_DictComp]
 refine WF (use:=none) rfl hs (Zcq (S.clos I.ok)) S.kind S.loc' (thn (hi pins s σ H _ I h) fun v s1 h1=>thn h1 fun itv s2 h2=>?_)
 obtain ⟨it,fp,tn,J,H2,e,I2,T,st2,f2,q2⟩:=h2
 subst e
 refine comp_blockD (RR:=fun acc C=>compPost 2e8 X.A X.xe none (EP X pins σ Q) acc C) S hc hu bG bT bK bE I2 T st2 f2 q2 ?_
 intro D C H' s' m' I' hq hn hC hle
 refine ⟨m',hn,fun h' hs'=>⟨.ref D,H',?_,rfl,hq⟩⟩
 refine I'.turned (t':=s'.toks) (fun b o hb e=>(hs'.2 b hb).trans e) hC ?_ (.inr (Yz I2.sz hle)) ?_ ?_
 ·exact XZ (Yr I2.lt hle)
 ·intro x c e
  obtain ⟨v,z⟩:=I2.cell x c e
  exact Yn (Yr z.lt hle)
 ·intro p hp
  exact ZaU (I2.pin p hp).1 hle
end
section
variable {X:Cx}
noncomputable def Its (z:Str):It:=⟨fun i _=>i < z.cps.size,fun i H x H'=>H'=H/\∃c,z.cps[i]? = some c/\x=.str ⟨#[c]⟩,fun i _=>i=z.cps.size⟩
theorem turn_str {P:Yx}{w:World}{K:W.Frag}{tg:Expr}{it:Addr}{z:Str}{t:Tok}{ty:String}(hty:ty="str_ascii_iterator"\/ty="str_iterator"):Turn P w K tg (Its z) [it] it (fun i h=>h.IsStrIter it ty z t i) where
 mem:=by simp
 obj:=fun i h st b hb=>by
  have e:b=it:=by simpa using hb
  subst e
  obtain ⟨o,e,c,d⟩:=st
  exact ⟨o,e,fun v z=>by rw[d] at z;cases z⟩
 keep:=fun i h h' st k=>by
  obtain ⟨o,e,c,d⟩:=st
  exact ⟨o,k it 5e2 o e,c,d⟩
 item:=by
  sleep 5
  obtain ⟨f0,f1,f2,f3,f4,f5⟩:=hf it 5e2
  have fin:∀v h' tk,SignAt z i v->h'.IsStrIter it ty z t (i + 1)->(∀b o,b∉[it]->s.heap.get? b=some o->h'.get? b=some o)->
    ∃u,some v=some u/\wpAny 2e8 X.A (Wn tg (.ref it) u) (fun _ s2=>∃x H',Inv X pins σ H' s2/\RelV x u/\(Its z).yld i H x H'/\s2.heap.IsStrIter it ty z t (i + 1)/\∀b∈[it],H' b=none) E { s with heap:=h',toks:=tk }:=fun v h' tk hv st' kk=>by
   obtain ⟨c,u,hcx,rfl⟩:=hv
   have I1:Inv X pins σ H { s with heap:=h',toks:=tk }:=I.turned (fun b o hb e=>kk b o (by simpa using hb) e) f0 f1 f3 f4 f5
   obtain ⟨o,e,oc,d⟩:=id st'
   refine ⟨_,rfl,go_of (s:={ s with heap:=h',toks:=tk }) e oc d (by rcases hty with rfl | rfl<;>decide) ⟨.str ⟨#[c]⟩,H,I1,⟨u,rfl⟩,⟨rfl,c,hcx,rfl⟩,st',fun b hb=>(hf b hb).1⟩⟩
  rcases hty with rfl | rfl
  ·exact (Walks.strAscii (prog:=X.prog) (w:=X.w) (I.ok.hd hc) it z t).item i s _ _ hg st fin
  ·exact (Walks.strWide (prog:=X.prog) (w:=X.w) (I.ok.hd hc) it z t).item i s _ _ hg st fin
 done:=by
  sleep 5
  obtain ⟨f0,f1,f2,f3,f4,f5⟩:=hf it 5e2
  have hg:i=z.cps.size:=hg
  subst hg
  have fin:∀h' tk,(∀b o,b∉[it]->s.heap.get? b=some o->h'.get? b=some o)->(none:Option Value)=none/\Inv X pins σ H { s with heap:=h',toks:=tk }:=fun h' tk kk=>
   ⟨rfl,I.turned (fun b o hb e=>kk b o (by simpa using hb) e) f0 f1 f3 f4 f5⟩
  rcases hty with rfl | rfl
  ·exact (Walks.strAscii (prog:=X.prog) (w:=X.w) (I.ok.hd hc) it z t).done s _ _ st fin
  ·exact (Walks.strWide (prog:=X.prog) (w:=X.w) (I.ok.hd hc) it z t).done s _ _ st fin
 self:=fun _ _ _ _ _ st h=>by
  rcases hty with rfl | rfl
  ·exact wpAny_pyIter_striter_ascii st h
  ·exact wpAny_pyIter_striter_wide st h
end
end L2
namespace Se
open PySem PySem.SetTable
noncomputable def adv (mask:Nat)(p:Probe):Probe:=
 if p.more > 0 then { p with j:=p.j + 1,more:=p.more - 1 } else
 { p with j:=(leap mask p.i p.perturb).1,more:=runEnd mask (leap mask p.i p.perturb).1 - (leap mask p.i p.perturb).1,i:=(leap mask p.i p.perturb).1,perturb:=(leap mask p.i p.perturb).2 }
def it (mask:Nat):Nat->Probe->Probe
 | 0,p=>p
 | n + 1,p=>it mask n (adv mask p)
noncomputable def inRun (mask i d pt:Nat):Probe:={ j:=i + d,more:=runEnd mask i - i - d,i:=i,perturb:=pt,dummy:=none }
noncomputable def len (mask i:Nat):Nat:=runEnd mask i - i
noncomputable def lp (mask:Nat):Nat->Nat×Nat->Nat×Nat
 | 0,p=>p
 | n + 1,p=>lp mask n (leap mask p.1 p.2)
noncomputable def f (mask i:Nat):Nat:=(i * 5 + 1) % (mask + 1)
def fk (mask:Nat):Nat->Nat->Nat
 | 0,i=>i
 | n + 1,i=>fk mask n (f mask i)
def Mk (mask:Nat):Prop:=mask=7\/mask=31\/mask=127
def Rising (xs:Array Nat):Prop:=∀(a b:Nat) (x y:Nat),a < b->xs[a]? = some x->xs[b]? = some y->x < y
def start (mask:Nat)(h:Int):Probe:=inRun mask (bits h % (mask + 1)) 0 (bits h)
structure T0 (t:SetTable)(es:Array (Int×Value)):Prop where
 mm:Mk t.mask
 dm:t.dummies=#[]
 rs:Rising t.place
 sz:t.place.size=es.size
 lt:∀i j:Nat,t.place[i]? = some j->j < t.mask + 1
 rc:∀(i j:Nat) (e:Int×Value),t.place[i]? = some j->es[i]? = some e->∃n,(it t.mask n (start t.mask e.1)).j=j/\∀m,m < n->∃i':Nat,t.place[i']? = some (it t.mask m (start t.mask e.1)).j
structure TI (t:SetTable)(es:Array (Int×Value)):Prop extends T0 t es where
 fl:es.size * 5 < t.mask * 3
noncomputable def own (owner:Array (Option Nat))(j:Nat):Option Nat:=owner.getD j (some 0)
end Se
namespace Pu
open PySem PySem.Spec PyProof.Rows L2
inductive PV where
 | non | bl (b:Bool) | int (i:Int) | str (x:Str) | tup (xs:List PV) | lst (xs:List PV) | dct (ks vs:List PV) | dtt (ks:List (List Key)) (vs:List PV) | fn (a:Addr) | ty (n:String)
noncomputable def kP:Key->PV
 | .inl i=>.int i
 | .inr x=>.str x
def LsR (K:W.Frag)(ι:3e8)(H:Hp)(a:Addr)(vs:List V):Prop:=
 (a∉ι/\Rd H a (.lst vs))\/
  ∃(o:Obj) (its:Array Value) (n:Nat),K.lookup a=some o/\o.cls=.type "list"/\o.dict=none/\o.data=.seq its n/\its.size<=Yo/\Vals vs its.toList
theorem LsR.sq {K:W.Frag}{ι:3e8}{H:Hp}{a:Addr}{vs:List V}(h:LsR K ι H a vs):SqL K H a vs:=by
 rcases h with ⟨_,h⟩ | h
 ·exact .inl h
 ·exact .inr h
def TpR (H:Hp)(a:Addr)(vs:List V):Prop:=H a=some (.tup vs)
theorem TpR.sq {K:W.Frag}{H:Hp}{a:Addr}{vs:List V}(h:TpR H a vs):SqT K H a vs:=.inl (.inl h)
mutual
noncomputable def Rep (K:W.Frag)(ι:3e8)(H:Hp):PV->V->Prop
 | .non,v=>v=.non
 | .bl b,v=>v=.bl b
 | .int i,v=>v=.int i
 | .str x,v=>v=.str x/\x.length<=Yo
 | .tup ps,v=>∃a vs,v=.ref a/\TpR H a vs/\Reps K ι H ps vs
 | .lst ps,v=>∃a vs,v=.ref a/\LsR K ι H a vs/\Reps K ι H ps vs
 | .dct ks ps,v=>∃(a:Addr) (qs:9e2) (vs:List V),v=.ref a/\a∉ι/\H a=some (.dK (qs.zip vs))/\qs.length=vs.length/\ks=qs.map kP/\Reps K ι H ps vs
 | .dtt ks ps,v=>∃(a:Addr) (vs:List V),v=.ref a/\a∉ι/\Rd H a (.dT (ks.zip vs))/\ks.length=vs.length/\Reps K ι H ps vs
 | .fn a,v=>v=.ref a
 | .ty n,v=>v=.ty n
noncomputable def Reps (K:W.Frag)(ι:3e8)(H:Hp):List PV->List V->Prop
 | [],vs=>vs=[]
 | p::ps,vs=>∃v r,vs=v::r/\Rep K ι H p v/\Reps K ι H ps r
end
inductive SV where
 | v (p:PV) | c (k:Nat)
abbrev Cs:=List PV
def RepS (K:W.Frag)(ι:3e8)(H:Hp):SV->V->Prop
 | .v p,x=>Rep K ι H p x
 | .c k,x=>∃a,x=.ref a/\ι[k]? = some a
def RepSs (K:W.Frag)(ι:3e8)(H:Hp):List SV->List V->Prop
 | [],vs=>vs=[]
 | p::ps,vs=>∃v r,vs=v::r/\RepS K ι H p v/\RepSs K ι H ps r
def CellOk (K:W.Frag)(ι:3e8)(H:Hp)(a:Addr):PV->Prop
 | .lst ps=>∃vs,H a=some (.lst vs)/\Reps K ι H ps vs
 | .dct ks ps=>∃(qs:9e2) (vs:List V),H a=some (.dK (qs.zip vs))/\qs.length=vs.length/\ks=qs.map kP/\Reps K ι H ps vs
 | .dtt ks ps=>∃(vs:List V),H a=some (.dT (ks.zip vs))/\ks.length=vs.length/\Reps K ι H ps vs
 | _=>False
structure CR (K:W.Frag)(ι:List Addr)(H:Hp)(C:Cs):Prop where
 len:ι.length=C.length
 nd:ι.Nodup
 ok:∀(k:Nat) (a:Addr) (c:PV),ι[k]? = some a->C[k]? = some c->CellOk K ι H a c
def Fr (ι:3e8)(H H':Hp):Prop:=∀b o,b∉ι->H b=some o->H' b=some o
theorem Fr.refl {ι:3e8}{H:Hp}:Fr ι H H:=fun _ _ _ h=>h
theorem Fr.trans {ι:3e8}{H H1 H2:Hp}(a:Fr ι H H1)(b:Fr ι H1 H2):Fr ι H H2:=fun c o n h=>b c o n (a c o n h)
theorem Fr.new {ι:3e8}{H:Hp}{p:Addr}{o:HO}(h:H p=none):Fr ι H (upd H p o):=fun b u _ e=>by rw[Zaw (Zap e h)];exact e
section
variable {K:W.Frag}{ι:3e8}{H H':Hp}{C:Cs}
theorem CR.at' (cr:11e4){a:Addr}(h:a∈ι):∃(k:Nat) (c:PV),ι[k]? = some a/\C[k]? = some c/\CellOk K ι H a c:=by
 obtain ⟨k,hk,e⟩:=Xx h
 have h1:ι[k]? = some a:=by rw[Yc hk,e]
 have hk2:k < C.length:=by rw[←cr.len];exact hk
 exact ⟨k,C[k],h1,Yc hk2,cr.ok k a _ h1 (Yc hk2)⟩
theorem CR.mut (cr:11e4){a:Addr}(h:a∈ι):(∃vs,H a=some (.lst vs))\/(∃kvs,H a=some (.dK kvs))\/∃kvs,H a=some (.dT kvs):=by
 obtain ⟨k,c,_,_,ok⟩:=cr.at' h
 cases c with
 | lst ps=>obtain ⟨vs,e,_⟩:=ok;exact .inl ⟨vs,e⟩
 | dct ks ps=>obtain ⟨qs,vs,e,_⟩:=ok;exact .inr (.inl ⟨_,e⟩)
 | dtt ks ps=>obtain ⟨vs,e,_⟩:=ok;exact .inr (.inr ⟨_,e⟩)
 | _=>exact ok.elim
theorem CR.notup (cr:11e4){a:Addr}{o:HO}(e:H a=some o)(h1:∀vs,o≠.lst vs)(h2:∀kvs,o≠.dK kvs)(h3:∀kvs,o≠.dT kvs:=by intro kvs z;cases z):a∉ι:=fun h=>by
 rcases cr.mut h with ⟨vs,z⟩ | ⟨kvs,z⟩ | ⟨kvs,z⟩
 ·rw[e] at z;exact h1 vs (YC z)
 ·rw[e] at z;exact h2 kvs (YC z)
 ·rw[e] at z;exact h3 kvs (YC z)
theorem tpR_mono (cr:11e4)(fr:Fr ι H H'){a:Addr}{vs:List V}(h:TpR H a vs):TpR H' a vs:=
 fr _ _ (cr.notup h (fun _ e=>nomatch e) fun _ e=>nomatch e) h
theorem LsR.mono (fr:Fr ι H H'){a:Addr}{vs:List V}(h:LsR K ι H a vs):LsR K ι H' a vs:=by
 rcases h with ⟨n,h | ⟨o,h⟩⟩ | h
 ·exact .inl ⟨n,.inl (fr _ _ n h)⟩
 ·exact .inl ⟨n,.inr ⟨o,fr _ _ n h⟩⟩
 ·exact .inr h
theorem rd_mono {a:Addr}{u:HO}(k:∀o,H a=some o->H' a=some o)(h:Rd H a u):Rd H' a u:=by
 rcases h with h | ⟨o,h⟩
 ·exact .inl (k _ h)
 ·exact .inr ⟨o,k _ h⟩
mutual
theorem Rep.mono (cr:11e4)(fr:Fr ι H H'):∀(p:PV) (v:V),Rep K ι H p v->Rep K ι H' p v
 | .non,v,h=>by unfold Rep at h ⊢;exact h
 | .bl b,v,h=>by unfold Rep at h ⊢;exact h
 | .int i,v,h=>by unfold Rep at h ⊢;exact h
 | .str x,v,h=>by unfold Rep at h ⊢;exact h
 | .tup ps,v,h=>by
  unfold Rep at h ⊢
  obtain ⟨a,vs,e,sq,r⟩:=h
  exact ⟨a,vs,e,tpR_mono cr fr sq,Reps.mono cr fr ps vs r⟩
 | .lst ps,v,h=>by
  unfold Rep at h ⊢
  obtain ⟨a,vs,e,sq,r⟩:=h
  exact ⟨a,vs,e,sq.mono fr,Reps.mono cr fr ps vs r⟩
 | .dct ks ps,v,h=>by
  unfold Rep at h ⊢
  obtain ⟨a,qs,vs,e,n,hd,hl,hk,r⟩:=h
  exact ⟨a,qs,vs,e,n,fr _ _ n hd,hl,hk,Reps.mono cr fr ps vs r⟩
 | .dtt ks ps,v,h=>by
  unfold Rep at h ⊢
  obtain ⟨a,vs,e,n,hd,hl,r⟩:=h
  exact ⟨a,vs,e,n,rd_mono (fun o e=>fr _ o n e) hd,hl,Reps.mono cr fr ps vs r⟩
 | .fn a,v,h=>by unfold Rep at h ⊢;exact h
 | .ty n,v,h=>by unfold Rep at h ⊢;exact h
theorem Reps.mono (cr:11e4)(fr:Fr ι H H'):∀(ps:List PV) (vs:List V),Reps K ι H ps vs->Reps K ι H' ps vs
 | [],vs,h=>by unfold Reps at h ⊢;exact h
 | p::ps,vs,h=>by
  unfold Reps at h ⊢
  obtain ⟨v,r,e,h1,h2⟩:=h
  exact ⟨v,r,e,Rep.mono cr fr p v h1,Reps.mono cr fr ps r h2⟩
end
theorem RepS.mono (cr:11e4)(fr:Fr ι H H'){s:SV}{v:V}(h:RepS K ι H s v):RepS K ι H' s v:=by
 cases s with
 | v p=>exact Rep.mono cr fr p v h
 | c k=>exact h
mutual
theorem Rep.stay (sm:∀b o,H b=some o->H' b=some o):∀(p:PV) (v:V),Rep K ι H p v->Rep K ι H' p v
 | .non,v,h=>by unfold Rep at h ⊢;exact h
 | .bl b,v,h=>by unfold Rep at h ⊢;exact h
 | .int i,v,h=>by unfold Rep at h ⊢;exact h
 | .str x,v,h=>by unfold Rep at h ⊢;exact h
 | .tup ps,v,h=>by
  unfold Rep at h ⊢
  obtain ⟨a,vs,e,sq,r⟩:=h
  exact ⟨a,vs,e,sm _ _ sq,Reps.stay sm ps vs r⟩
 | .lst ps,v,h=>by
  unfold Rep at h ⊢
  obtain ⟨a,vs,e,sq,r⟩:=h
  exact ⟨a,vs,e,sq.mono (fun b o _ e=>sm b o e),Reps.stay sm ps vs r⟩
 | .dct ks ps,v,h=>by
  unfold Rep at h ⊢
  obtain ⟨a,qs,vs,e,n,hd,hl,hk,r⟩:=h
  exact ⟨a,qs,vs,e,n,sm _ _ hd,hl,hk,Reps.stay sm ps vs r⟩
 | .dtt ks ps,v,h=>by
  unfold Rep at h ⊢
  obtain ⟨a,vs,e,n,hd,hl,r⟩:=h
  exact ⟨a,vs,e,n,rd_mono (fun o e=>sm _ o e) hd,hl,Reps.stay sm ps vs r⟩
 | .fn a,v,h=>by unfold Rep at h ⊢;exact h
 | .ty n,v,h=>by unfold Rep at h ⊢;exact h
theorem Reps.stay (sm:∀b o,H b=some o->H' b=some o):∀(ps:List PV) (vs:List V),Reps K ι H ps vs->Reps K ι H' ps vs
 | [],vs,h=>by unfold Reps at h ⊢;exact h
 | p::ps,vs,h=>by
  unfold Reps at h ⊢
  obtain ⟨v,r,e,h1,h2⟩:=h
  exact ⟨v,r,e,Rep.stay sm p v h1,Reps.stay sm ps r h2⟩
end
mutual
theorem Rep.cells {ι':3e8}(hs:∀b o,H b=some o->b∉ι->b∉ι'):∀(p:PV) (v:V),Rep K ι H p v->Rep K ι' H p v
 | .non,v,h=>by unfold Rep at h ⊢;exact h
 | .bl b,v,h=>by unfold Rep at h ⊢;exact h
 | .int i,v,h=>by unfold Rep at h ⊢;exact h
 | .str x,v,h=>by unfold Rep at h ⊢;exact h
 | .tup ps,v,h=>by
  unfold Rep at h ⊢
  obtain ⟨a,vs,e,sq,r⟩:=h
  exact ⟨a,vs,e,sq,Reps.cells hs ps vs r⟩
 | .lst ps,v,h=>by
  unfold Rep at h ⊢
  obtain ⟨a,vs,e,sq,r⟩:=h
  refine ⟨a,vs,e,?_,Reps.cells hs ps vs r⟩
  rcases sq with ⟨n,q | ⟨o,q⟩⟩ | q
  ·exact .inl ⟨hs _ _ q n,.inl q⟩
  ·exact .inl ⟨hs _ _ q n,.inr ⟨o,q⟩⟩
  ·exact .inr q
 | .dct ks ps,v,h=>by
  unfold Rep at h ⊢
  obtain ⟨a,qs,vs,e,n,hd,hl,hk,r⟩:=h
  exact ⟨a,qs,vs,e,hs _ _ hd n,hd,hl,hk,Reps.cells hs ps vs r⟩
 | .dtt ks ps,v,h=>by
  unfold Rep at h ⊢
  obtain ⟨a,vs,e,n,hd,hl,r⟩:=h
  exact ⟨a,vs,e,by rcases id hd with q | ⟨o,q⟩<;>exact hs _ _ q n,hd,hl,Reps.cells hs ps vs r⟩
 | .fn a,v,h=>by unfold Rep at h ⊢;exact h
 | .ty n,v,h=>by unfold Rep at h ⊢;exact h
theorem Reps.cells {ι':3e8}(hs:∀b o,H b=some o->b∉ι->b∉ι'):∀(ps:List PV) (vs:List V),Reps K ι H ps vs->Reps K ι' H ps vs
 | [],vs,h=>by unfold Reps at h ⊢;exact h
 | p::ps,vs,h=>by
  unfold Reps at h ⊢
  obtain ⟨v,r,e,h1,h2⟩:=h
  exact ⟨v,r,e,Rep.cells hs p v h1,Reps.cells hs ps r h2⟩
end
theorem Reps.nil:Reps K ι H [] []:=by unfold Reps;rfl
theorem Reps.cons {p:PV}{v:V}{ps:List PV}{vs:List V}(h:Rep K ι H p v)(t:Reps K ι H ps vs):Reps K ι H (p::ps) (v::vs):=by unfold Reps;exact ⟨v,vs,rfl,h,t⟩
theorem Reps.inv {p:PV}{ps:List PV}{vs:List V}(h:Reps K ι H (p::ps) vs):∃v r,vs=v::r/\Rep K ι H p v/\Reps K ι H ps r:=by unfold Reps at h;exact h
theorem Reps.inv0 {vs:List V}(h:Reps K ι H [] vs):vs=[]:=by unfold Reps at h;exact h
theorem Reps.length:∀{ps:List PV} {vs:List V},Reps K ι H ps vs->ps.length=vs.length
 | [],vs,h=>by rw[h.inv0];rfl
 | p::ps,vs,h=>by obtain ⟨v,r,rfl,_,t⟩:=h.inv;rw[YG,YG,t.length]
theorem Reps.append:∀{ps qs:List PV} {vs ws:List V},Reps K ι H ps vs->Reps K ι H qs ws->Reps K ι H (ps++qs) (vs++ws)
 | [],_,vs,_,h,t=>by rw[h.inv0];exact t
 | p::ps,_,vs,_,h,t=>by obtain ⟨v,r,rfl,h1,h2⟩:=h.inv;exact .cons h1 (h2.append t)
theorem Reps.get:∀{ps:List PV} {vs:List V} {i:Nat} {p:PV},Reps K ι H ps vs->ps[i]? = some p->∃v,vs[i]? = some v/\Rep K ι H p v
 | [],_,_,_,h,e=>by simp at e
 | q::ps,vs,0,p,h,e=>by
  obtain ⟨v,r,rfl,h1,h2⟩:=h.inv
  simp at e;subst e;exact ⟨v,rfl,h1⟩
 | q::ps,vs,i + 1,p,h,e=>by
  obtain ⟨v,r,rfl,h1,h2⟩:=h.inv
  obtain ⟨w,e1,r1⟩:=h2.get (i:=i) (by simpa using e)
  exact ⟨w,by simpa using e1,r1⟩
theorem Reps.get':∀{ps:List PV} {vs:List V} {i:Nat} {v:V},Reps K ι H ps vs->vs[i]? = some v->∃p,ps[i]? = some p/\Rep K ι H p v:=fun {ps vs i v} h e=>by
 have hi:i < ps.length:=by
  rw[h.length]
  rcases YJ i vs.length with q | q
  ·exact q
  ·rw[Ye.mpr q] at e;cases e
 obtain ⟨w,e1,r⟩:=h.get (Yc hi)
 rw[e] at e1;cases e1
 exact ⟨_,Yc hi,r⟩
theorem Reps.take:∀{ps:List PV} {vs:List V} (n:Nat),Reps K ι H ps vs->Reps K ι H (ps.take n) (vs.take n)
 | _,_,0,_=>by simp;exact .nil
 | [],vs,n + 1,h=>by rw[h.inv0];simp;exact .nil
 | p::ps,vs,n + 1,h=>by obtain ⟨v,r,rfl,h1,h2⟩:=h.inv;simp only[List.take_succ_cons];exact .cons h1 (h2.take n)
theorem Reps.drop:∀{ps:List PV} {vs:List V} (n:Nat),Reps K ι H ps vs->Reps K ι H (ps.drop n) (vs.drop n)
 | _,_,0,h=>by simpa using h
 | [],vs,n + 1,h=>by rw[h.inv0];simp;exact .nil
 | p::ps,vs,n + 1,h=>by obtain ⟨v,r,rfl,h1,h2⟩:=h.inv;simpa using h2.drop n
theorem Reps.set:∀{ps:List PV} {vs:List V} (i:Nat) {p:PV} {v:V},Reps K ι H ps vs->Rep K ι H p v->Reps K ι H (ps.set i p) (vs.set i v)
 | [],vs,i,p,v,h,_=>by rw[h.inv0];simp;exact .nil
 | q::ps,vs,0,p,v,h,hp=>by obtain ⟨w,r,rfl,h1,h2⟩:=h.inv;simp;exact .cons hp h2
 | q::ps,vs,i + 1,p,v,h,hp=>by obtain ⟨w,r,rfl,h1,h2⟩:=h.inv;simp;exact .cons h1 (h2.set i hp)
theorem CellOk.mono (cr:11e4)(fr:Fr ι H H'){a:Addr}{c:PV}(ha:∀o,H a=some o->H' a=some o)(h:CellOk K ι H a c):CellOk K ι H' a c:=by
 cases c with
 | lst ps=>obtain ⟨vs,e,r⟩:=h;exact ⟨vs,ha _ e,Reps.mono cr fr _ _ r⟩
 | dct ks ps=>obtain ⟨qs,vs,e,hl,hk,r⟩:=h;exact ⟨qs,vs,ha _ e,hl,hk,Reps.mono cr fr _ _ r⟩
 | dtt ks ps=>obtain ⟨vs,e,hl,r⟩:=h;exact ⟨vs,ha _ e,hl,Reps.mono cr fr _ _ r⟩
 | _=>exact h.elim
theorem CR.same (cr:11e4)(sm:∀b o,H b=some o->H' b=some o):CR K ι H' C:=
 ⟨cr.len,cr.nd,fun k a c h1 h2=>(cr.ok k a c h1 h2).mono cr (fun b o _ e=>sm b o e) fun o e=>sm a o e⟩
theorem CR.new (cr:11e4){p:Addr}{o:HO}(h:H p=none):CR K ι (upd H p o) C:=cr.same fun b u e=>by rw[Zaw (Zap e h)];exact e
theorem CR.put (cr:11e4){k:Nat}{a:Addr}{c:PV}{o:HO}(hk:ι[k]? = some a)(ok:CellOk K ι (upd H a o) a c):CR K ι (upd H a o) (C.set k c):=by
 have fr:Fr ι H (upd H a o):=fun b u n e=>by
  rw[Zaw (fun z=>n (by rw[z];exact YH hk))];exact e
 refine ⟨by rw[Xm];exact cr.len,cr.nd,fun j b d h1 h2=>?_⟩
 by_cases hj:j=k
 ·subst hj
  rw[hk] at h1;cases h1
  have hlt:j < C.length:=by
   rw[←cr.len]
   rcases YJ j ι.length with q | q
   ·exact q
   ·rw[Ye.mpr q] at hk;cases hk
  rw[Xk hlt] at h2
  cases h2;exact ok
 ·rw[Ym (Xi hj)] at h2
  refine (cr.ok j b d h1 h2).mono cr fr fun u e=>?_
  have hb:b≠a:=fun z=>by
   subst z
   have hjl:j < ι.length:=by
    rcases YJ j ι.length with q | q
    ·exact q
    ·rw[Ye.mpr q] at h1;cases h1
   have hkl:k < ι.length:=by
    rcases YJ k ι.length with q | q
    ·exact q
    ·rw[Ye.mpr q] at hk;cases hk
   have e1:=(YK.mp h1).2
   have e2:=(YK.mp hk).2
   exact hj ((XD cr.nd).mp (e1.trans e2.symm))
  rw[Zaw hb];exact e
theorem repHs {p:Addr}(hp:H p=none):∀b u,H b=some u->b∉ι->b∉ι++[p]:=fun b u e n z=>by
 rcases YB.mp z with z | z
 ·exact n z
 ·exact Zap e hp (by simpa using z)
theorem RepsNew (cr:11e4){p:Addr}{o:HO}(hp:H p=none)(q:List PV)(v:List V)(r:Reps K ι H q v):Reps K (ι++[p]) (upd H p o) q v:=by
 exact Reps.stay (fun b u e=>by rw[Zaw (Zap e hp)];exact e) q v (Reps.cells (ι':=ι++[p]) (repHs hp) q v r)
theorem CR.add (cr:11e4){p:Addr}{c:PV}{o:HO}(hp:H p=none)(ok:CellOk K (ι++[p]) (upd H p o) p c):CR K (ι++[p]) (upd H p o) (C++[c]):=by
 have hni:p∉ι:=fun z=>by
  rcases cr.mut z with ⟨vs,e⟩ | ⟨kvs,e⟩ | ⟨kvs,e⟩
  ·rw[hp] at e;cases e
  ·rw[hp] at e;cases e
  ·rw[hp] at e;cases e
 have hc:∀b u,(upd H p o) b=some u->b∉ι->b≠p->b∉ι++[p]:=fun b u _ n1 n2 z=>by
  rcases YB.mp z with z | z
  ·exact n1 z
  ·exact n2 (by simpa using z)
 have up:∀b u,H b=some u->(upd H p o) b=some u:=fun b u e=>by rw[Zaw (Zap e hp)];exact e
 have lift:∀(b:Addr) (d:PV),CellOk K ι H b d->CellOk K (ι++[p]) (upd H p o) b d:=fun b d h=>by
  have hs:∀b u,H b=some u->b∉ι->b∉ι++[p]:=fun b u e n=>hc b u (up b u e) n (Zap e hp)
  have cr':CR K ι (upd H p o) C:=cr.new hp
  cases d with
  | lst ps=>
   obtain ⟨vs,e,r⟩:=h
   exact ⟨vs,up _ _ e,RepsNew cr hp ps vs r⟩
  | dct ks ps=>
   obtain ⟨qs,vs,e,hl,hk,r⟩:=h
   exact ⟨qs,vs,up _ _ e,hl,hk,RepsNew cr hp ps vs r⟩
  | dtt ks ps=>
   obtain ⟨vs,e,hl,r⟩:=h
   exact ⟨vs,up _ _ e,hl,RepsNew cr hp ps vs r⟩
  | _=>exact h.elim
 refine ⟨by simp[cr.len],?_,fun k a d h1 h2=>?_⟩
 ·rw[W0]
  refine ⟨cr.nd,by simp,fun a ha b hb=>?_⟩
  have:b=p:=by simpa using hb
  subst this
  exact fun z=>hni (z ▸ ha)
 ·rcases YJ k ι.length with hk | hk
  ·rw[Yd hk] at h1
   rw[Yd (by rw[←cr.len];exact hk)] at h2
   exact lift a d (cr.ok k a d h1 h2)
  ·rw[YY hk] at h1
   rw[YY (by rw[←cr.len];exact hk)] at h2
   rw[←cr.len] at h2
   cases hz:k - ι.length with
   | zero=>
    rw[hz] at h1 h2
    simp at h1 h2
    subst h1 h2
    exact ok
   | succ j=>rw[hz] at h1;simp at h1
end
end Pu
namespace Pu
open PySem PySem.Spec L2
open PyProof.Rows hiding St
abbrev M (α:Type):=Cs->Option (α×Cs)
noncomputable def ret {α:Type}(a:α):M α:=fun C=>some (a,C)
def bnd {α β:Type}(x:M α)(f:α->M β):M β:=fun C=>match x C with
 | none=>none
 | some (a,C')=>f a C'
noncomputable def opM {α:Type}(g:Cs->Option α):M α:=fun C=>match g C with
 | none=>none
 | some a=>some (a,C)
theorem Zah {α β:Type}{x:M α}{f:α->M β}{C C2:Cs}{b:β}(h:bnd x f C=some (b,C2)):∃a C1,x C=some (a,C1)/\f a C1=some (b,C2):=by
 unfold bnd at h
 cases e:x C with
 | none=>rw[e] at h;cases h
 | some p=>obtain ⟨a,C1⟩:=p;rw[e] at h;exact ⟨a,C1,rfl,h⟩
theorem ZaK {α:Type}{g:Cs->Option α}{C C2:Cs}{b:α}(h:opM g C=some (b,C2)):g C=some b/\C2=C:=by
 unfold opM at h
 cases e:g C with
 | none=>rw[e] at h;cases h
 | some p=>rw[e] at h;cases h;exact ⟨rfl,rfl⟩
abbrev PSt:=List (Option SV)
noncomputable def asB:SV->Option Bool
 | .v (.bl b)=>some b
 | _=>none
def mB (x:SV):M Bool:=opM fun _=>asB x
theorem mB_some {x:SV}{C C2:Cs}{b:Bool}(h:mB x C=some (b,C2)):x=.v (.bl b)/\C2=C:=by
 obtain ⟨h,e⟩:=ZaK h
 refine ⟨?_,e⟩
 cases x with
 | c k=>cases h
 | v p=>cases p<;>first | (cases h;rfl) | cases h
theorem repB {K:W.Frag}{ι:3e8}{H:Hp}{b:Bool}{v:V}(h:RepS K ι H (.v (.bl b)) v):v=.bl b:=by unfold RepS Rep at h;exact h
theorem repB' {K:W.Frag}{ι:3e8}{H:Hp}{b:Bool}:RepS K ι H (.v (.bl b)) (.bl b):=by unfold RepS Rep;rfl
inductive PF where
 | nx (ρ:PSt) | rt (r:SV) | bk (ρ:PSt) | ct (ρ:PSt) | rf (ps:List PV) | rq (qs:List SV)
structure SR (K:W.Frag)(ι:List Addr)(H:Hp)(ρ:PSt)(σ:St)(C:Cs):Prop where
 cr:CR K ι H C
 len:ρ.length=σ.length
 loc:∀(i:Nat) (s:SV),ρ[i]? = some (some s)->∃v,σ[i]? = some (some v)/\RepS K ι H s v
section
variable {K:W.Frag}{ι:3e8}{H H':Hp}{C C':Cs}{ρ:PSt}{σ:St}
theorem SR.step (sr:SR K ι H ρ σ C)(fr:Fr ι H H')(cr:CR K ι H' C'):SR K ι H' ρ σ C':=
 ⟨cr,sr.len,fun i s e=>by obtain ⟨v,h1,h2⟩:=sr.loc i s e;exact ⟨v,h1,h2.mono sr.cr fr⟩⟩
theorem SR.set (sr:SR K ι H ρ σ C){s:SV}{v:V}(i:Nat)(r:RepS K ι H s v):SR K ι H (ρ.set i (some s)) (σ.set i (some v)) C:=by
 refine ⟨sr.cr,by simp[sr.len],fun j t e=>?_⟩
 by_cases hj:i=j
 ·subst hj
  have hi:i < ρ.length:=by
   rcases YJ i ρ.length with q | q
   ·exact q
   ·rw[Ye.mpr (by simpa using q)] at e;cases e
  rw[Xk hi] at e
  cases e
  exact ⟨v,by rw[Xk (by rw[←sr.len];exact hi)],r⟩
 ·rw[Ym hj] at e
  rw[Ym hj]
  exact sr.loc j t e
end
def tM (K:W.Frag)(f:4e2):TE:=fun σ H Q=>∃ι ρ C r C',SR K ι H ρ σ C/\f ρ C=some (r,C')/\∀v H',Fr ι H H'->CR K ι H' C'->RepS K ι H' r v->Q v H'
def tMA (K:W.Frag)(f:2e9):TA:=fun σ H Q=>∃ι ρ C r C',SR K ι H ρ σ C/\f ρ C=some (r,C')/\∀v H',Fr ι H H'->CR K ι H' C'->RepSs K ι H' r v->Q v H'
def tMB (K:W.Frag)(f:7e1):TT:=fun σ H Q=>∃ι ρ C r C',SR K ι H ρ σ C/\f ρ C=some (r,C')/\∀H',Fr ι H H'->CR K ι H' C'->Q r H'
def tMF (K:W.Frag)(f:13e7):TE:=fun σ H Q=>∃ι ρ C ps C',SR K ι H ρ σ C/\f ρ C=some (ps,C')/\∀p vs H',Fr ι H H'->CR K ι H' C'->H' p=none->Reps K ι H' ps vs->Q (.ref p) (upd H' p (.lst vs))
def EM (X:Cx)(e:Expr)(f:4e2):Prop:=PE X e (tM X.K f)
def AM (X:Cx)(es:6e4)(f:2e9):Prop:=PA X es (tMA X.K f)
def TMt (X:Cx)(e:Expr)(f:7e1):Prop:=PT X e (tMB X.K f)
def WM (X:Cx)(e:Expr)(f:7e1):Prop:=PW X e (tMB X.K f)
def FM (X:Cx)(e:Expr)(f:13e7):Prop:=PE X e (tMF X.K f)
theorem PE.imp {X:Cx}{e:Expr}{t t':TE}(h:PE X e t)(k:∀σ H Q,t' σ H Q->t σ H Q):PE X e t':=fun pins s σ H Q I q=>h pins s σ H Q I (k σ H Q q)
theorem PT.imp {X:Cx}{e:Expr}{t t':TT}(h:PT X e t)(k:∀σ H Q,t' σ H Q->t σ H Q):PT X e t':=fun pins s σ H Q I q=>h pins s σ H Q I (k σ H Q q)
theorem PW.imp {X:Cx}{e:Expr}{t t':TT}(h:PW X e t)(k:∀σ H Q,t' σ H Q->t σ H Q):PW X e t':=fun wh pins s σ H Q I q=>h wh pins s σ H Q I (k σ H Q q)
theorem PA.imp {X:Cx}{e:6e4}{t t':TA}(h:PA X e t)(k:∀σ H Q,t' σ H Q->t σ H Q):PA X e t':=fun pos pins s σ H Q I q=>h pos pins s σ H Q I (k σ H Q q)
theorem PS.imp {X:Cx}{e:Stmt}{t t':TS}(h:PS X e t)(k:∀D σ H,t' D σ H->t D σ H):PS X e t':=fun pins s σ H D I q=>h pins s σ H D I (k D σ H q)
theorem PSs.imp {X:Cx}{e:List Stmt}{t t':TS}(h:PSs X e t)(k:∀D σ H,t' D σ H->t D σ H):PSs X e t':=fun pins s σ H D I q=>h pins s σ H D I (k D σ H q)
theorem PI.imp {X:Cx}{tg e:Expr}{t t':TI}(h:PI X tg e t)(k:∀σ H Q,t' σ H Q->t σ H Q):PI X tg e t':=fun pins s σ H Q I q=>h pins s σ H Q I (k σ H Q q)
section
variable {X:Cx}{a b e c:Expr}{es:6e4}{fa fb fc:4e2}{pos p:Pos}{x:Str}
noncomputable def mVar (i:Nat):PSt->M SV:=fun ρ C=>match ρ[i]? with
 | some (some s)=>some (s,C)
 | _=>none
noncomputable def mC (p:PV):PSt->M SV:=fun _ C=>some (.v p,C)
theorem ZcE {v:V}{q:PV}(h:PE X e (tC v))(r:∀ι H,Rep X.K ι H q v):EM X e (mC q):=by
 refine PE.imp h fun σ H Q h_=>?_
 obtain ⟨ι,ρ,C,z,C',sr,e,k⟩:=h_
 cases e
 exact k v H .refl sr.cr (r ι H)
def mOp (g:Cs->SV->SV->Option SV)(fa fb:4e2):PSt->M SV:=fun ρ=>bnd (fa ρ) fun x=>bnd (fb ρ) fun y=>opM fun C=>g C x y
def R2ok (K:W.Frag)(r:R2)(g:Cs->SV->SV->Option SV):Prop:=
 ∀(ι:3e8) (H:Hp) (C:Cs) (x y:SV) (vx vy:V) (z:SV) (Q:VK),CR K ι H C->RepS K ι H x vx->RepS K ι H y vy->g C x y=some z->(∀v H',Fr ι H H'->CR K ι H' C->RepS K ι H' z v->Q v H')->r vx vy H Q
theorem tM_op {K:W.Frag}{r:R2}{g:Cs->SV->SV->Option SV}(hg:R2ok K r g){σ:St}{H:Hp}{Q:VK}(h:tM K (mOp g fa fb) σ H Q):tOp r (tM K fa) (tM K fb) σ H Q:=by
 sleep 3
 obtain ⟨y,C2,e2,e⟩:=Zah e
 obtain ⟨e3,rfl⟩:=ZaK e
 exact ⟨ι,ρ,C,x,C1,sr,e1,fun vx H1 f1 c1 r1=>⟨ι,ρ,C1,y,C',sr.step f1 c1,e2,fun vy H2 f2 c2 r2=>hg ι H2 C' x y vx vy z _ c2 (r1.mono c1 f2) r2 e3 fun v H3 f3 c3 r3=>q v H3 (f1.trans (f2.trans f3)) c3 r3⟩⟩
theorem em_op {op:Operator}{r:R2}{g:Cs->SV->SV->Option SV}(ho:OpR X (Wi op) r)(hg:R2ok X.K r g)(ha:EM X a fa)(hb:EM X b fb):EM X (.BinOp a op b pos) (mOp g fa fb):=
 PE.imp (pe_op ho ha hb) fun _ _ _ h=>tM_op hg h
theorem em_ix {r:R2}{g:Cs->SV->SV->Option SV}(hr:IxR X r)(hg:R2ok X.K r g)(ha:EM X a fa)(hb:EM X b fb)(hs:PlainIx b):EM X (.Subscript a b pos) (mOp g fa fb):=
 PE.imp (pe_ix hr ha hb hs) fun _ _ _ h=>tM_op hg h
def mChain (g g':Cs->SV->SV->Option SV)(fa fb fc:4e2):PSt->M SV:=fun ρ=>bnd (fa ρ) fun x=>bnd (fb ρ) fun y=>bnd (opM fun C=>g C x y) fun z=>bnd (mB z) fun b=>
 if b then bnd (fc ρ) fun w=>opM fun C=>g' C y w else ret (.v (.bl false))
def mTest (f:4e2):PSt->M Bool:=fun ρ=>bnd (f ρ) mB
theorem tM_test {K:W.Frag}{f:4e2}{σ:St}{H:Hp}{Q:Bool->Hp->Prop}(h:tMB K (mTest f) σ H Q):tTest (tM K f) σ H Q:=by
 sleep 3
 obtain ⟨rfl,rfl⟩:=mB_some e
 exact ⟨ι,ρ,C,_,C',sr,e1,fun v H1 f1 c1 r1=>⟨_,repB r1,q H1 f1 c1⟩⟩
noncomputable def deref (C:Cs):SV->Option PV
 | .v p=>some p
 | .c k=>C[k]?
noncomputable def truP:PV->Option Bool
 | .non=>some false
 | .bl b=>some b
 | .int i=>some (i != 0)
 | .str y=>some ((y.length:Int) != 0)
 | .tup xs=>some (!xs.isEmpty)
 | .lst xs=>some (!xs.isEmpty)
 | .dct ks _=>some (!ks.isEmpty)
 | _=>none
def mTru (f:4e2):PSt->M Bool:=fun ρ=>bnd (f ρ) fun x=>opM fun C=>(deref C x).bind truP
inductive Lies (K:W.Frag)(ι:List Addr)(H:Hp):PV->V->Prop
 | non:Lies K ι H .non .non
 | bl (b:Bool):Lies K ι H (.bl b) (.bl b)
 | int (i:Int):Lies K ι H (.int i) (.int i)
 | str (x:Str) (h:x.length<=Yo):Lies K ι H (.str x) (.str x)
 | tup {a:Addr} {ps:List PV} {vs:List V} (h:TpR H a vs) (r:Reps K ι H ps vs):Lies K ι H (.tup ps) (.ref a)
 | lst {a:Addr} {ps:List PV} {vs:List V} (h:SqL K H a vs) (r:Reps K ι H ps vs):Lies K ι H (.lst ps) (.ref a)
 | dct {a:Addr} {qs:List Key} {ps:List PV} {vs:List V} (h:H a=some (.dK (qs.zip vs))) (hl:qs.length=vs.length) (r:Reps K ι H ps vs):Lies K ι H (.dct (qs.map kP) ps) (.ref a)
 | dtt {a:Addr} {ks:List (List Key)} {ps:List PV} {vs:List V} (h:Rd H a (.dT (ks.zip vs))) (hl:ks.length=vs.length) (r:Reps K ι H ps vs):Lies K ι H (.dtt ks ps) (.ref a)
 | fn (a:Addr):Lies K ι H (.fn a) (.ref a)
 | ty (n:String):Lies K ι H (.ty n) (.ty n)
theorem Rep.lies {K:W.Frag}{ι:3e8}{H:Hp}:∀{p:PV} {v:V},Rep K ι H p v->Lies K ι H p v
 | .non,v,h=>by unfold Rep at h;subst h;exact .non
 | .bl b,v,h=>by unfold Rep at h;subst h;exact .bl b
 | .int i,v,h=>by unfold Rep at h;subst h;exact .int i
 | .str x,v,h=>by unfold Rep at h;obtain ⟨rfl,h⟩:=h;exact .str x h
 | .tup ps,v,h=>by unfold Rep at h;obtain ⟨a,vs,rfl,h,r⟩:=h;exact .tup h r
 | .lst ps,v,h=>by unfold Rep at h;obtain ⟨a,vs,rfl,h,r⟩:=h;exact .lst h.sq r
 | .dct ks ps,v,h=>by unfold Rep at h;obtain ⟨a,qs,vs,rfl,n,hd,hl,rfl,r⟩:=h;exact .dct hd hl r
 | .dtt ks ps,v,h=>by unfold Rep at h;obtain ⟨a,vs,rfl,n,hd,hl,r⟩:=h;exact .dtt hd hl r
 | .fn a,v,h=>by unfold Rep at h;subst h;exact .fn a
 | .ty n,v,h=>by unfold Rep at h;subst h;exact .ty n
theorem RepS.lies {K:W.Frag}{ι:3e8}{H:Hp}{C:Cs}(cr:11e4){x:SV}{p:PV}{v:V}(r:RepS K ι H x v)(e:deref C x=some p):Lies K ι H p v:=by
 cases x with
 | v q=>cases e;exact Rep.lies r
 | c k=>
  obtain ⟨a,rfl,hk⟩:=r
  have ok:=cr.ok k a p hk e
  cases p with
  | lst ps=>obtain ⟨vs,h,r⟩:=ok;exact .lst (.of h) r
  | dct ks ps=>obtain ⟨qs,vs,h,hl,rfl,r⟩:=ok;exact .dct h hl r
  | dtt ks ps=>obtain ⟨vs,h,hl,r⟩:=ok;exact .dtt (.inl h) hl r
  | _=>exact ok.elim
theorem Reps.isEmpty {K:W.Frag}{ι:3e8}{H:Hp}{ps:List PV}{vs:List V}(r:Reps K ι H ps vs):ps.isEmpty=vs.isEmpty:=by
 have:=r.length
 cases ps<;>cases vs<;>simp at this ⊢
theorem Lies.tru {K:W.Frag}{ι:3e8}{H:Hp}{p:PV}{v:V}{k:Bool}(l:Lies K ι H p v)(e:truP p=some k):TruV K v H k:=by
 cases l with
 | non=>cases e;rfl
 | bl b=>cases e;rfl
 | int i=>cases e;rfl
 | str x h=>cases e;exact ⟨h,rfl⟩
 | tup h r=>cases e;exact .inr (.inl ⟨_,h.sq,by rw[r.isEmpty]⟩)
 | lst h r=>cases e;exact .inl ⟨_,h,by rw[r.isEmpty]⟩
 | @dct a qs ps vs h hl r=>
  cases e
  refine .inr (.inr ⟨_,h,?_⟩)
  cases qs<;>cases vs<;>simp at hl ⊢
 | dtt h hl r=>cases e
 | fn a=>cases e
 | ty n=>cases e
def mNotT (f:7e1):PSt->M Bool:=fun ρ=>bnd (f ρ) fun b=>ret (!b)
def mAndT (f g:7e1):PSt->M Bool:=fun ρ=>bnd (f ρ) fun b=>if b then g ρ else ret false
def mOrT (f g:7e1):PSt->M Bool:=fun ρ=>bnd (f ρ) fun b=>if b then ret true else g ρ
def mAndV (f g:4e2):PSt->M SV:=fun ρ=>bnd (f ρ) fun x=>bnd (mB x) fun b=>if b then g ρ else ret (.v (.bl false))
def mOrV (f g:4e2):PSt->M SV:=fun ρ=>bnd (f ρ) fun x=>bnd (mB x) fun b=>if b then ret (.v (.bl true)) else g ρ
def mNotV (f:4e2):PSt->M SV:=fun ρ=>bnd (f ρ) fun x=>bnd (mB x) fun b=>ret (.v (.bl !b))
def mIf (t:7e1)(f g:4e2):PSt->M SV:=fun ρ=>bnd (t ρ) fun b=>if b then f ρ else g ρ
def aNil:PSt->M (List SV):=fun _=>ret []
def aCons (f:4e2)(g:2e9):PSt->M (List SV):=fun ρ=>bnd (f ρ) fun x=>bnd (g ρ) fun xs=>ret (x::xs)
def C1ok (K:W.Frag)(r:List V->Hp->VK->Prop)(g:Cs->List SV->Option SV):Prop:=
 ∀(ι:3e8) (H:Hp) (C:Cs) (xs:List SV) (vs:List V) (z:SV) (Q:VK),CR K ι H C->RepSs K ι H xs vs->g C xs=some z->(∀v H',Fr ι H H'->CR K ι H' C->RepS K ι H' z v->Q v H')->r vs H Q
def mCB (g:Cs->List SV->Option SV)(fs:2e9):PSt->M SV:=fun ρ=>bnd (fs ρ) fun xs=>opM fun C=>g C xs
theorem tM_CB {K:W.Frag}{r:List V->Hp->VK->Prop}{g:Cs->List SV->Option SV}{fs:2e9}(hg:C1ok K r g){σ:St}{H:Hp}{Q:VK}(h:tM K (mCB g fs) σ H Q):tCB r (tMA K fs) σ H Q:=by
 obtain ⟨ι,ρ,C,z,C',sr,e,q⟩:=h
 obtain ⟨xs,C1,e1,e⟩:=Zah e
 obtain ⟨e2,rfl⟩:=ZaK e
 exact ⟨ι,ρ,C,xs,C',sr,e1,fun vs H1 f1 c1 r1=>hg ι H1 C' xs vs z _ c1 r1 e2 fun v H2 f2 c2 r2=>q v H2 (f1.trans f2) c2 r2⟩
theorem ZcF {id:String}{r:List V->Hp->VK->Prop}{g:Cs->List SV->Option SV}{fs:2e9}(hc:CallR X (.builtin id) r)(hg:C1ok X.K r g)(hgl:Gl X x)(hm:X.mg x=none)(hv:Y8 x=some (.builtin id))(ha:AM X 6e5 fs)(hn:x≠"__name__":=by decide)(hdb:5e6:=by decide)
  (he:1e5:=by rfl) (hpl:3e3:=by rfl):EM X 11e2 (mCB g fs):=
 PE.imp (pe_callB hc hgl hm hv ha hn hdb he hpl) fun _ _ _ h=>tM_CB hg h
theorem Zc5 {T:String}{r:List V->Hp->VK->Prop}{g:Cs->List SV->Option SV}{fs:2e9}(hc:CallR X (.type T) r)(hg:C1ok X.K r g)(hgl:Gl X x)(hm:X.mg x=none)(hv:Y8 x=some (.type T))(ha:AM X 6e5 fs)(hn:x≠"__name__":=by decide)(hdb:5e6:=by decide)
  (he:1e5:=by rfl) (hpl:3e3:=by rfl):EM X 11e2 (mCB g fs):=
 PE.imp (pe_callTy hc hgl hm hv ha hn hdb he hpl) fun _ _ _ h=>tM_CB hg h
noncomputable def liftSp (K:W.Frag)(F:List SV->M SV):Sp:=fun vs H Q _=>∃ι ss C r C',CR K ι H C/\RepSs K ι H ss vs/\F ss C=some (r,C')/\∀v H',Fr ι H H'->CR K ι H' C'->RepS K ι H' r v->Q v H'
def mFn (F:List SV->M SV)(fs:2e9):PSt->M SV:=fun ρ=>bnd (fs ρ) F
theorem em_call {k:Nat}{f:Addr}{fd:XM}{ps:6e2}{F:List SV->M SV}{fs:2e9}(G:FnOk X.prog X.w X.K X.mg X.base CX0 k f fd ps (liftSp X.K F))(hr:Room k X.A)(hg:Gl X x)(hm:X.mg x=some (.ref f))(hk:VB X.K (.ref f)=true)(hb:Binds X.K fd ps [])
  (ha:AM X 6e5 fs) (hdb:5e6:=by decide) (he:1e5:=by rfl) (hpl:3e3:=by rfl):
  EM X 11e2 (mFn F fs):=PE.imp (pe_call G hr hg hm hk hb .nil pass0 ha hdb he hpl) fun σ H Q h=>by
 obtain ⟨ι,ρ,C,z,C',sr,e,q⟩:=h
 obtain ⟨xs,C1,e1,e⟩:=Zah e
 refine ⟨ι,ρ,C,xs,C1,sr,e1,fun vs H1 f1 c1 r1=>?_⟩
 show liftSp X.K F (vs++[]) H1 Q E0
 rw[YF]
 exact ⟨ι,xs,C1,z,C',c1,r1,e,fun v H2 f2 c2 r2=>q v H2 (f1.trans f2) c2 r2⟩
end
def Ex (ι ι2:3e8)(H H':Hp):Prop:=Fr ι H H'/\∀b∈ι2,H b=none
section
variable {K:W.Frag}{ι ι2 ι3 ι':3e8}{H H1 H2 H':Hp}{C C' C1:Cs}{ρ:PSt}{σ:St}
mutual
theorem Rep.tr (cr:11e4)(h:∀b o,b∉ι->H b=some o->b∉ι'/\H' b=some o):∀(p:PV) (v:V),Rep K ι H p v->Rep K ι' H' p v
 | .non,v,q=>by unfold Rep at q ⊢;exact q
 | .bl b,v,q=>by unfold Rep at q ⊢;exact q
 | .int i,v,q=>by unfold Rep at q ⊢;exact q
 | .str x,v,q=>by unfold Rep at q ⊢;exact q
 | .tup ps,v,q=>by
  unfold Rep at q ⊢
  obtain ⟨a,vs,e,sq,r⟩:=q
  exact ⟨a,vs,e,(h _ _ (cr.notup sq (fun _ e=>nomatch e) fun _ e=>nomatch e) sq).2,Reps.tr cr h ps vs r⟩
 | .lst ps,v,q=>by
  unfold Rep at q ⊢
  obtain ⟨a,vs,e,sq,r⟩:=q
  refine ⟨a,vs,e,?_,Reps.tr cr h ps vs r⟩
  rcases sq with ⟨n,z | ⟨o,z⟩⟩ | z
  ·exact .inl ⟨(h _ _ n z).1,.inl (h _ _ n z).2⟩
  ·exact .inl ⟨(h _ _ n z).1,.inr ⟨o,(h _ _ n z).2⟩⟩
  ·exact .inr z
 | .dct ks ps,v,q=>by
  unfold Rep at q ⊢
  obtain ⟨a,qs,vs,e,n,hd,hl,hk,r⟩:=q
  exact ⟨a,qs,vs,e,(h _ _ n hd).1,(h _ _ n hd).2,hl,hk,Reps.tr cr h ps vs r⟩
 | .dtt ks ps,v,q=>by
  unfold Rep at q ⊢
  obtain ⟨a,vs,e,n,hd,hl,r⟩:=q
  exact ⟨a,vs,e,by rcases id hd with q | ⟨o,q⟩<;>exact (h _ _ n q).1,rd_mono (fun o q=>(h _ o n q).2) hd,hl,Reps.tr cr h ps vs r⟩
 | .fn a,v,q=>by unfold Rep at q ⊢;exact q
 | .ty n,v,q=>by unfold Rep at q ⊢;exact q
theorem Reps.tr (cr:11e4)(h:∀b o,b∉ι->H b=some o->b∉ι'/\H' b=some o):∀(ps:List PV) (vs:List V),Reps K ι H ps vs->Reps K ι' H' ps vs
 | [],vs,q=>by unfold Reps at q ⊢;exact q
 | p::ps,vs,q=>by
  unfold Reps at q ⊢
  obtain ⟨v,r,e,h1,h2⟩:=q
  exact ⟨v,r,e,Rep.tr cr h p v h1,Reps.tr cr h ps r h2⟩
end
theorem Ex.fr (f:Fr ι H H'):Ex ι [] H H':=⟨f,fun _ z=>nomatch z⟩
theorem Ex.out (x:Ex ι ι2 H H'):∀b o,b∉ι->H b=some o->b∉ι++ι2/\H' b=some o:=fun b o n e=>by
 refine ⟨fun z=>?_,x.1 b o n e⟩
 rcases YB.mp z with z | z
 ·exact n z
 ·rw[x.2 b z] at e;cases e
theorem Ex.trans (c:CR K 8e9 H1 C1)(x:Ex ι ι2 H H1)(y:Ex 8e9 ι3 H1 H2):Ex ι (ι2++ι3) H H2:=by
 refine ⟨fun b o n e=>(y.out b o (x.out b o n e).1 (x.out b o n e).2).2,fun b hb=>?_⟩
 rcases YB.mp hb with hb | hb
 ·exact x.2 b hb
 ·cases e:H b with
  | none=>rfl
  | some o=>
   by_cases n:b∈ι
   ·rcases c.mut (Xa _ n) with ⟨vs,z⟩ | ⟨vs,z⟩ | ⟨vs,z⟩
    ·rw[y.2 b hb] at z;cases z
    ·rw[y.2 b hb] at z;cases z
    ·rw[y.2 b hb] at z;cases z
   ·have:=x.1 b o n e
    rw[y.2 b hb] at this;cases this
theorem RepS.ex (cr:11e4)(x:Ex ι ι2 H H'){s:SV}{v:V}(r:RepS K ι H s v):RepS K 8e9 H' s v:=by
 cases s with
 | v p=>exact Rep.tr cr x.out p v r
 | c k=>
  obtain ⟨a,e,hk⟩:=r
  refine ⟨a,e,?_⟩
  have hl:k < ι.length:=by
   rcases YJ k ι.length with q | q
   ·exact q
   ·rw[Ye.mpr q] at hk;cases hk
  rw[Yd hl];exact hk
theorem SR.ex (sr:SR K ι H ρ σ C)(x:Ex ι ι2 H H')(c:CR K 8e9 H' C'):SR K 8e9 H' ρ σ C':=
 ⟨c,sr.len,fun i s e=>by obtain ⟨v,h1,h2⟩:=sr.loc i s e;exact ⟨v,h1,h2.ex sr.cr x⟩⟩
end
theorem RepSs.length {K:W.Frag}{ι:3e8}{H:Hp}:∀{ss:List SV} {vs:List V},RepSs K ι H ss vs->ss.length=vs.length
 | [],vs,h=>by rw[show vs=[] from h];rfl
 | s::ss,vs,h=>by obtain ⟨v,r,rfl,_,t⟩:=h;rw[YG,YG,RepSs.length t]
def Done (K:W.Frag)(ι:3e8)(H:Hp)(D:Ends)(C':Cs):PF->Prop
 | .nx ρ=>∀ι2 σ' H',Ex ι ι2 H H'->SR K 8e9 H' ρ σ' C'->D.nx σ' H'
 | .rt r=>∀ι2 v H',Ex ι ι2 H H'->CR K 8e9 H' C'->RepS K 8e9 H' r v->D.rt v H'
 | .bk ρ=>∀ι2 σ' H',Ex ι ι2 H H'->SR K 8e9 H' ρ σ' C'->D.bk σ' H'
 | .ct ρ=>∀ι2 σ' H',Ex ι ι2 H H'->SR K 8e9 H' ρ σ' C'->D.ct σ' H'
 | .rf ps=>∀ι2 p vs H',Ex ι ι2 H H'->CR K 8e9 H' C'->H' p=none->Reps K 8e9 H' ps vs->D.rt (.ref p) (upd H' p (.lst vs))
 | .rq qs=>∀ι2 p vs H',Ex ι ι2 H H'->CR K 8e9 H' C'->H' p=none->RepSs K 8e9 H' qs vs->D.rt (.ref p) (upd H' p (.tup vs))
def tMS (K:W.Frag)(f:10e9):TS:=fun D σ H=>∃ι ρ C fl C',SR K ι H ρ σ C/\f ρ C=some (fl,C')/\Done K ι H D C' fl
def SM (X:Cx)(st:Stmt)(f:10e9):Prop:=PS X st (tMS X.K f)
def BM (X:Cx)(sts:List Stmt)(f:10e9):Prop:=PSs X sts (tMS X.K f)
section
variable {K:W.Frag}{ι ι2:3e8}{H H':Hp}{C C' C1:Cs}{ρ:PSt}{σ:St}{D:Ends}{fl:PF}
theorem Done.tr (c:CR K 8e9 H' C1)(x:Ex ι ι2 H H')(d:Done K ι H D C' fl):Done K 8e9 H' D C' fl:=by
 cases fl with
 | nx ρ=>intro ι3 σ' H2 y sr;rw[Yj] at sr;exact d _ σ' H2 (x.trans c y) sr
 | rt r=>intro ι3 v H2 y cr rr;rw[Yj] at cr rr;exact d _ v H2 (x.trans c y) cr rr
 | bk ρ=>intro ι3 σ' H2 y sr;rw[Yj] at sr;exact d _ σ' H2 (x.trans c y) sr
 | ct ρ=>intro ι3 σ' H2 y sr;rw[Yj] at sr;exact d _ σ' H2 (x.trans c y) sr
 | rf ps=>intro ι3 p vs H2 y cr hp rs;rw[Yj] at cr rs;exact d _ p vs H2 (x.trans c y) cr hp rs
 | rq ps=>intro ι3 p vs H2 y cr hp rs;rw[Yj] at cr rs;exact d _ p vs H2 (x.trans c y) cr hp rs
theorem Done.fr (c:CR K ι H' C1)(f:Fr ι H H')(d:Done K ι H D C' fl):Done K ι H' D C' fl:=by
 have:=Done.tr (ι2:=[]) (by rw[YF];exact c) (Ex.fr f) d
 rw[YF] at this;exact this
theorem Done.nx0 (sr:SR K ι H ρ σ C')(d:Done K ι H D C' (.nx ρ)):D.nx σ H:=d [] σ H (Ex.fr .refl) (by rw[YF];exact sr)
end
section
variable {X:Cx}{a b e c tg:Expr}{es:6e4}{st:Stmt}{rest sts sts':List Stmt}{f g:10e9}{pos p pos':Pos}{x:Str}
def mSkip:PSt->M PF:=fun ρ=>ret (.nx ρ)
def mSeq (f g:10e9):PSt->M PF:=fun ρ=>bnd (f ρ) fun fl=>match fl with
 | .nx ρ'=>g ρ'
 | fl=>ret fl
def mIfS (t:7e1)(f g:10e9):PSt->M PF:=fun ρ=>bnd (t ρ) fun b=>if b then f ρ else g ρ
def mRet (f:4e2):PSt->M PF:=fun ρ=>bnd (f ρ) fun r=>ret (.rt r)
def mRetF (f:13e7):PSt->M PF:=fun ρ=>bnd (f ρ) fun r=>ret (.rf r)
def mRetQ (fs:2e9):PSt->M PF:=fun ρ=>bnd (fs ρ) fun xs=>if xs.length<=1000 then ret (.rq xs) else fun _=>none
def mDrop (f:4e2):PSt->M PF:=fun ρ=>bnd (f ρ) fun _=>ret (.nx ρ)
def mSet (i:Nat)(f:4e2):PSt->M PF:=fun ρ=>bnd (f ρ) fun r=>ret (.nx (ρ.set i (some r)))
def mNew (i:Nat)(f:13e7):PSt->M PF:=fun ρ=>bnd (f ρ) fun ps=>fun C=>some (.nx (ρ.set i (some (.c C.length))),C++[.lst ps])
theorem new_cell {K:W.Frag}{ι:3e8}{H H':Hp}{ρ:PSt}{σ:St}{C C1:Cs}{D:Ends}{i:Nat}{ps:List PV}{q:Addr}{vs:List V}(sr:SR K ι H ρ σ C)(d:Done K ι H D (C1++[.lst ps]) (.nx (ρ.set i (some (.c C1.length)))))
  (f1:Fr ι H H') (c1:CR K ι H' C1) (hq:H' q=none) (rs:Reps K ι H' ps vs):D.nx (σ.set i (some (.ref q))) (upd H' q (.lst vs)):=by
 have c2:CR K (ι++[q]) (upd H' q (.lst vs)) (C1++[.lst ps]):=c1.add hq ⟨vs,ZaM,RepsNew c1 hq ps vs rs⟩
 have x:Ex ι [q] H (upd H' q (.lst vs)):=⟨f1.trans (Fr.new hq),fun b hb=>by
  have:b=q:=by simpa using hb
  subst this
  cases e:H b with
  | none=>rfl
  | some o=>
   by_cases n:b∈ι
   ·rcases c1.mut n with ⟨vs,z⟩ | ⟨vs,z⟩ | ⟨vs,z⟩
    ·rw[hq] at z;cases z
    ·rw[hq] at z;cases z
    ·rw[hq] at z;cases z
   ·have:=f1 b o n e;rw[hq] at this;cases this⟩
 refine d [q] _ _ x ((sr.ex x c2).set i ⟨q,rfl,?_⟩)
 rw[←c1.len];simp
noncomputable def plain:List SV->Option 7e5
 | []=>some []
 | .v p::r=>(plain r).map (p::·)
 | .c _::_=>none
theorem ZbN {K:W.Frag}{ι:3e8}{H:Hp}:∀{xs:List SV} {ps:List PV} {vs:List V},plain xs=some ps->RepSs K ι H xs vs->Reps K ι H ps vs/\vs.length=xs.length
 | [],ps,vs,e,r=>by cases e;rw[show vs=[] from r];exact ⟨.nil,rfl⟩
 | .v p::xs,ps,vs,e,r=>by
  obtain ⟨v,w,rfl,h1,h2⟩:=r
  unfold plain at e
  cases h:plain xs with
  | none=>rw[h] at e;cases e
  | some qs=>
   rw[h] at e;cases e
   exact ⟨.cons h1 (ZbN h h2).1,by rw[YG,YG,(ZbN h h2).2]⟩
 | .c _::_,ps,vs,e,r=>by cases e
theorem k1000 {n:Nat}(h:n<=1000):n<=sizeLine:=Yz h (by rw[YE];decide)
def mTup (fs:2e9):PSt->M SV:=fun ρ=>bnd (fs ρ) fun xs=>opM fun _=>if xs.length<=1000 then (plain xs).map fun ps=>.v 9e0 else none
def mLst (fs:2e9):PSt->M 7e5:=fun ρ=>bnd (fs ρ) fun xs=>opM fun _=>if xs.length<=1000 then plain xs else none
def mVal (f:13e7):PSt->M SV:=fun ρ=>bnd (f ρ) fun ps=>ret (.v 8e1)
theorem Zco {K:W.Frag}{ι:3e8}{H:Hp}{C:Cs}{ps:List PV}{q:Addr}{vs:List V}(c1:11e4)(hq:H q=none)(rs:Reps K ι H ps vs):Rep K ι (upd H q (.lst vs)) 8e1 (.ref q):=by
 unfold Rep
 refine ⟨q,vs,rfl,.inl ⟨fun z=>?_,.inl ZaM⟩,Reps.stay (fun b o e=>by rw[Zaw (Zap e hq)];exact e) ps vs rs⟩
 rcases c1.mut z with ⟨_,e⟩ | ⟨_,e⟩ | ⟨_,e⟩
 ·rw[hq] at e;cases e
 ·rw[hq] at e;cases e
 ·rw[hq] at e;cases e
noncomputable def tMG (K:W.Frag)(g:5e8):TG:=fun v σ H Q=>∃ι ρ C p ρ',SR K ι H ρ σ C/\Rep K ι H p v/\g p ρ=some ρ'/\∀σ',SR K ι H ρ' σ' C->Q σ' H
noncomputable def tMGs (K:W.Frag)(g:List PV->PSt->Option PSt):TGs:=fun v σ H Q=>∃ι ρ C p ρ',SR K ι H ρ σ C/\Reps K ι H p v/\g p ρ=some ρ'/\∀σ',SR K ι H ρ' σ' C->Q σ' H
def GM (X:Cx)(tg:Expr)(g:5e8):Prop:=PG X tg (tMG X.K g)
def GMs (X:Cx)(ts:6e4)(g:List PV->PSt->Option PSt):Prop:=PGs X ts (tMGs X.K g)
theorem PG.imp {t t':TG}(h:PG X tg t)(k:∀v σ H Q,t' v σ H Q->t v σ H Q):PG X tg t':=fun pins s σ H v u Q I r q=>h pins s σ H v u Q I r (k v σ H Q q)
theorem PGs.imp {t t':TGs}(h:PGs X es t)(k:∀v σ H Q,t' v σ H Q->t v σ H Q):PGs X es t':=fun pins s σ H v u Q I r q=>h pins s σ H v u Q I r (k v σ H Q q)
noncomputable def hName (i:Nat):PV->PSt->Option PSt:=fun p ρ=>some (ρ.set i (some (.v p)))
noncomputable def hNil:List PV->PSt->Option PSt
 | [],ρ=>some ρ
 | _::_,_=>none
noncomputable def hCons (g:5e8)(gs:List PV->PSt->Option PSt):List PV->PSt->Option PSt
 | [],_=>none
 | p::ps,ρ=>(g p ρ).bind fun ρ'=>gs ps ρ'
noncomputable def hTup (gs:List PV->PSt->Option PSt)(n:Nat):PV->PSt->Option PSt
 | .tup ps,ρ=>if ps.length=n then gs ps ρ else none
 | _,_=>none
def mAsg (f:4e2)(g:5e8):PSt->M PF:=fun ρ=>bnd (f ρ) fun r=>match r with
 | .v p=>fun C=>(g p ρ).map fun ρ'=>(.nx ρ',C)
 | .c _=>fun _=>none
end
structure Iter (K:W.Frag)(ι:List Addr)(H1:Hp)(xs:List PV)(J:It):Prop where
 go:∀ι2 H2 C2,Ex ι ι2 H1 H2->CR K 8e9 H2 C2->∀i,i < xs.length->J.go i H2
 yld:∀ι2 H2 C2,Ex ι ι2 H1 H2->CR K 8e9 H2 C2->∀i v H3,i < xs.length->J.yld i H2 v H3->(∀b o,H2 b=some o->H3 b=some o)/\∃p,xs[i]? = some p/\Rep K 8e9 H3 p v
 stop:∀ι2 H2 C2,Ex ι ι2 H1 H2->CR K 8e9 H2 C2->J.stop xs.length H2
def tMI (K:W.Frag)(f:13e7):TI:=fun σ H R=>∃ι ρ C xs C',SR K ι H ρ σ C/\f ρ C=some (xs,C')/\∀J H1,Fr ι H H1->CR K ι H1 C'->Iter K ι H1 xs J->R J H1
def IM (X:Cx)(tg iter:Expr)(f:13e7):Prop:=PI X tg iter (tMI X.K f)
section
variable {X:Cx}{e tg iter elt:Expr}{es:6e4}{body:List Stmt}{f:10e9}{pos p:Pos}{x:Str}
def loop (g:5e8)(f:10e9):List PV->PSt->M PF
 | [],ρ=>ret (.nx ρ)
 | x::xs,ρ=>match g x ρ with
  | none=>fun _=>none
  | some ρ1=>bnd (f ρ1) fun fl=>match fl with
   | .nx ρ2=>loop g f xs ρ2
   | .ct ρ2=>loop g f xs ρ2
   | .bk ρ2=>ret (.nx ρ2)
   | .rt r=>ret (.rt r)
   | .rf ps=>ret (.rf ps)
   | .rq ps=>ret (.rq ps)
def mFor (it:13e7)(g:5e8)(f:10e9):PSt->M PF:=fun ρ=>bnd (it ρ) fun xs=>loop g f xs ρ
noncomputable def stIn' (vs:6e2)(fr:12e4)(ρ:PSt):PSt:=vs.map (fun _=>none)++fr.map fun i=>(ρ[i]?).join
def compL (g:5e8)(tt:7e1)(te:4e2):List PV->PSt->List PV->M 7e5
 | [],_,ys=>ret ys
 | x::xs,ρ,ys=>match g x ρ with
  | none=>fun _=>none
  | some ρ1=>bnd (tt ρ1) fun b=>if b then bnd (te ρ1) fun y=>match y with
    | .v p=>compL g tt te xs ρ1 (ys++[p])
    | .c _=>fun _=>none
   else compL g tt te xs ρ1 ys
def mComp (it:13e7)(vs:6e2)(fr:12e4)(g:5e8)(tt:7e1)(te:4e2):PSt->M 7e5:=fun ρ=>bnd (it ρ) fun xs=>if xs.length<=100000 then compL g tt te xs (stIn' vs fr ρ) [] else fun _=>none
theorem SR.block {K:W.Frag}{ι:3e8}{H:Hp}{ρ:PSt}{σ:St}{C:Cs}(sr:SR K ι H ρ σ C)(vs:6e2)(fr:12e4):SR K ι H (stIn' vs fr ρ) (stIn vs fr σ) C:=by
 refine ⟨sr.cr,by simp[stIn',stIn],fun i s e=>?_⟩
 unfold stIn' at e
 unfold stIn
 rcases YJ i vs.length with h | h
 ·rw[Yd 12e0] at e
  simp at e
 ·rw[YY 12e0] at e
  rw[YY 12e0]
  simp only[Yv,YI] at e ⊢
  cases hj:fr[i - vs.length]? with
  | none=>rw[hj] at e;cases e
  | some j=>
   rw[hj] at e
   have e':(ρ[j]?).join=some s:=by simpa using e
   have e2:ρ[j]? = some (some s):=by
    cases hr:ρ[j]? with
    | none=>rw[hr] at e';cases e'
    | some o=>rw[hr] at e';simp at e';rw[e']
   obtain ⟨v,h1,h2⟩:=sr.loc j s e2
   refine ⟨v,?_,h2⟩
   simp[h1]
theorem k100000 {n:Nat}(h:n<=100000):n<=sizeLine:=Yz h (by rw[YE];decide)
theorem comp_pure {K:W.Frag}{it:13e7}{vs:6e2}{fr:12e4}{g:5e8}{tt:7e1}{te:4e2}{σ:St}{H:Hp}{Q:VK}{ι:3e8}{ρ:PSt}{C C':Cs}{res:List PV}(sr:SR K ι H ρ σ C)
  (e:mComp it vs fr g tt te ρ C=some (res,C')) (q:∀p vs H',Fr ι H H'->CR K ι H' C'->H' p=none->Reps K ι H' res vs->Q (.ref p) (upd H' p (.lst vs))):tComp (tMI K it) vs fr (tMG K g) (tMB K tt) (tM K te) σ H Q:=by
 obtain ⟨xs,C1,e1,e⟩:=Zah e
 refine ⟨ι,ρ,C,xs,C1,sr,e1,fun J H1 f1 c1 it1=>?_⟩
 by_cases hz:xs.length<=100000
 case neg=>rw[if_neg hz] at e;cases e
 rw[if_pos hz] at e
 have sr1:=(sr.step f1 c1).block vs fr
 have x0:∀{H2:Hp},Fr ι H1 H2->Ex ι [] H1 H2:=fun f=>Ex.fr f
 have c0:∀{H2:Hp} {C2:Cs},CR K ι H2 C2->CR K (ι++[]) H2 C2:=fun c=>by rw[YF];exact c
 refine ⟨fun i m σ2 ys H2=>∃ρ2 C2 ps,m=xs.length - i/\i<=xs.length/\Fr ι H1 H2/\SR K ι H2 ρ2 σ2 C2/\Reps K ι H2 ps ys/\ps.length<=i/\compL g tt te (xs.drop i) ρ2 ps C2=some (res,C'),⟨xs.length,_,C1,[],rfl,Xe _,.refl,sr1,.nil,Yh _,e⟩,?_⟩
 rintro i m σ2 ys H2 ⟨ρ2,C2,ps,rfl,hi2,f2,sr2,rs2,hps,e2⟩
 have hys:ys.length<=sizeLine:=by rw[←rs2.length];exact k100000 (Yz (Yz hps hi2) hz)
 rcases YJ i xs.length with hlt | hge
 ·right
  refine ⟨it1.go [] H2 C2 (x0 f2) (c0 sr2.cr) i hlt,hys,fun σ' ys' H'=>∃ρ2 C2 ps,Fr ι H1 H'/\SR K ι H' ρ2 σ' C2/\Reps K ι H' ps ys'/\ps.length<=i + 1/\compL g tt te (xs.drop (i + 1)) ρ2 ps C2=some (res,C'),?_,?_⟩
  ·rintro σ' ys' H' ⟨ρ3,C3,ps3,f3,sr3,rs3,h3,e3⟩
   exact ⟨xs.length - (i + 1),by lia,ρ3,C3,ps3,rfl,hlt,f3,sr3,rs3,h3,e3⟩
  ·intro v H3 y
   obtain ⟨sm,qv,hq,rq⟩:=it1.yld [] H2 C2 (x0 f2) (c0 sr2.cr) i v H3 hlt y
   rw[YF] at rq
   have hd:xs.drop i=qv::xs.drop (i + 1):=by
    rw[Wy hlt]
    rw[Yc hlt] at hq
    rw[YC hq]
   rw[hd] at e2
   unfold compL at e2
   cases hg1:g qv ρ2 with
   | none=>rw[hg1] at e2;cases e2
   | some ρ3=>
    rw[hg1] at e2
    obtain ⟨b,C3,e3,e4⟩:=Zah e2
    have fr3:Fr ι H2 H3:=fun b o _ z=>sm b o z
    have cr3:CR K ι H3 C2:=sr2.cr.same sm
    refine ⟨ι,ρ2,C2,qv,ρ3,sr2.step fr3 cr3,rq,hg1,fun σ4 sr4=>⟨ι,ρ3,C2,b,C3,sr4,e3,fun H5 f5 c5=>?_⟩⟩
    have f15:=f2.trans (fr3.trans f5)
    have rs5:Reps K ι H5 ps ys:=Reps.mono cr3 f5 _ _ (Reps.mono sr2.cr fr3 _ _ rs2)
    cases b with
    | true=>
     rw[if_pos rfl] at e4
     dsimp only
     rw[if_pos rfl]
     obtain ⟨y1,C6,e6,e7⟩:=Zah e4
     refine ⟨ι,ρ3,C3,y1,C6,sr4.step f5 c5,e6,fun v7 H7 f7 c7 r7=>?_⟩
     cases y1 with
     | c k=>cases e7
     | v p7=>exact ⟨ρ3,C6,ps++[p7],f15.trans f7,(sr4.step f5 c5).step f7 c7,(Reps.mono c5 f7 _ _ rs5).append (.cons r7 .nil),by simp;exact hps,e7⟩
    | false=>
     rw[if_neg Yl] at e4
     dsimp only
     rw[if_neg Yl]
     exact ⟨ρ3,C3,ps,f15,sr4.step f5 c5,rs5,Nat.le_succ_of_le hps,e4⟩
 ·left
  have hi3:i=xs.length:=by lia
  subst hi3
  rw[VL] at e2
  cases e2
  exact ⟨it1.stop [] H2 _ (x0 f2) (c0 sr2.cr),hys,fun D hD=>q D ys H2 (f1.trans f2) sr2.cr hD rs2⟩
section
variable {ifs:6e4}{scope:Scope}{vs fs:6e2}{fr:12e4}{it:13e7}{g:5e8}{tt:7e1}{te:4e2}
def TsM (X:Cx)(ifs:6e4)(t:7e1):Prop:=PTs X ifs (tMB X.K t)
def tOk:PSt->M Bool:=fun _=>ret true
end
end
theorem CR.cut {K:W.Frag}{ι ι2:3e8}{H:Hp}{C:Cs}{n:Nat}(c:CR K 8e9 H C)(hn:ι.length=n):CR K ι H (C.take n):=by
 have hlen:(ι++ι2).length=C.length:=c.len
 rw[Y0] at hlen
 have hs:∀b o,H b=some o->b∉ι++ι2->b∉ι:=fun b o _ z q=>z (Xa _ q)
 refine ⟨by rw[Xh];lia,(W0.mp c.nd).1,fun k a d h1 h2=>?_⟩
 have hk:k < ι.length:=by
  rcases YJ k ι.length with q | q
  ·exact q
  ·rw[Ye.mpr q] at h1;cases h1
 rw[Xd 1e3] at h2
 have ok:=c.ok k a d (by rw[Yd hk];exact h1) h2
 cases d with
 | lst ps=>obtain ⟨vs,e,r⟩:=ok;exact ⟨vs,e,Reps.cells hs _ _ r⟩
 | dct ks ps=>obtain ⟨qs,vs,e,hl,hk,r⟩:=ok;exact ⟨qs,vs,e,hl,hk,Reps.cells hs _ _ r⟩
 | dtt ks ps=>obtain ⟨vs,e,hl,r⟩:=ok;exact ⟨vs,e,hl,Reps.cells hs _ _ r⟩
 | _=>exact ok.elim
noncomputable def fin (n:Nat)(C':Cs):SV->Option (SV×Cs)
 | .v p=>some (.v p,C'.take n)
 | .c k=>if k < n then some (.c k,C'.take n) else (C'[k]?).map fun c=>(.v c,C'.take n)
noncomputable def finQ (n:Nat)(C':Cs):List SV->Option 7e5
 | []=>some []
 | .v p::r=>(finQ n C' r).map (p::·)
 | .c k::r=>if k < n then none else (C'[k]?).bind fun c=>(finQ n C' r).map (c::·)
def mDef (n pad:Nat)(body:10e9):List SV->M SV:=fun ss C=>if ss.length=n then (match body (ss.map some++YR pad none) C with
 | some (.rt r,C')=>fin C.length C' r
 | some (.nx _,C')=>some 13e5
 | some (.rf ps,C')=>some (.v 8e1,C'.take C.length)
 | some (.rq qs,C')=>(finQ C.length C' qs).map fun ps=>(.v 9e0,C'.take C.length)
 | _=>none) else none
noncomputable def mDefF (n pad:Nat)(body:10e9):List SV->M 7e5:=fun ss C=>if ss.length=n then (match body (ss.map some++YR pad none) C with
 | some (.rf ps,C')=>some (ps,C'.take C.length)
 | _=>none) else none
def liftSpF (K:W.Frag)(F:List SV->M 7e5):Sp:=fun vs H Q _=>∃ι ss C ps C',CR K ι H C/\RepSs K ι H ss vs/\F ss C=some (ps,C')/\∀p vs H',Fr ι H H'->CR K ι H' C'->H' p=none->Reps K ι H' ps vs->Q (.ref p) (upd H' p (.lst vs))
def mFnF (F:List SV->M 7e5)(fs:2e9):PSt->M 7e5:=fun ρ=>bnd (fs ρ) F
theorem fm_call {X:Cx}{e:Expr}{es:6e4}{p pos:Pos}{x:Str}{k:Nat}{f:Addr}{fd:XM}{ps:6e2}{F:List SV->M 7e5}{fs:2e9}(G:FnOk X.prog X.w X.K X.mg X.base CX0 k f fd ps (liftSpF X.K F))(hr:Room k X.A)(hg:Gl X x)(hm:X.mg x=some (.ref f))(hk:VB X.K (.ref f)=true)(hb:L2.Binds X.K fd ps [])
  (ha:AM X 6e5 fs) (hdb:5e6:=by decide) (he:1e5:=by rfl) (hpl:3e3:=by rfl):
  FM X 11e2 (mFnF F fs):=PE.imp (pe_call G hr hg hm hk hb .nil pass0 ha hdb he hpl) fun σ H Q h_=>by
 sleep 7
 obtain ⟨xs,C1,e1,g1⟩:=Zah e
 refine ⟨ι,ρ,C,xs,C1,sr,e1,fun vs H1 f1 c1 r1=>?_⟩
 show liftSpF X.K F (vs++[]) H1 Q E0
 rw[YF]
 exact ⟨ι,xs,C1,z,C',c1,r1,g1,fun q' ws H2 f2 c2 h2 r2=>q q' ws H2 (f1.trans f2) c2 h2 r2⟩
theorem fin_ok {K:W.Frag}{ι ι2:3e8}{H:Hp}{C' C2:Cs}{n:Nat}{r r':SV}{v:V}(c:CR K 8e9 H C')(hn:ι.length=n)(rr:RepS K 8e9 H r v)(e:fin n C' r=some (r',C2)):CR K ι H C2/\RepS K ι H r' v:=by
 have hs:∀b o,H b=some o->b∉ι++ι2->b∉ι:=fun b o _ z q=>z (Xa _ q)
 cases r with
 | v p=>cases e;exact ⟨c.cut hn,Rep.cells hs p v rr⟩
 | c k=>
  obtain ⟨a,rfl,hk⟩:=rr
  replace e:(if k < n then some (SV.c k,C'.take n) else (C'[k]?).map fun c=>(SV.v c,C'.take n))=some (r',C2):=e
  by_cases h:k < n
  ·rw[if_pos h] at e
   cases e
   refine ⟨c.cut hn,a,rfl,?_⟩
   rw[Yd 1e3] at hk;exact hk
  ·rw[if_neg h] at e
   cases hd:C'[k]? with
   | none=>rw[hd] at e;cases e
   | some d=>
    rw[hd] at e
    cases e
    refine ⟨c.cut hn,?_⟩
    have ok:=c.ok k a d hk hd
    have hna:a∉ι:=fun z=>by
     obtain ⟨j,hj,ej⟩:=Xx z
     have hjk:(ι++ι2)[j]? = some a:=by rw[Yd hj,Yc hj,ej]
     have hkl:k < (ι++ι2).length:=by
      rcases YJ k (ι++ι2).length with q | q
      ·exact q
      ·rw[Ye.mpr q] at hk;cases hk
     have hjl:j < (ι++ι2).length:=by rw[Y0];lia
     have e1:=(YK.mp hjk).2
     have e2:=(YK.mp hk).2
     have:=(XD c.nd).mp (e1.trans e2.symm)
     lia
    show Rep K ι H d (.ref a)
    cases d with
    | lst ps=>obtain ⟨vs,e,r⟩:=ok;unfold Rep;exact ⟨a,vs,rfl,.inl ⟨hna,.inl e⟩,Reps.cells hs _ _ r⟩
    | dct ks ps=>obtain ⟨qs,vs,e,hl,hk,r⟩:=ok;unfold Rep;exact ⟨a,qs,vs,rfl,hna,e,hl,hk,Reps.cells hs _ _ r⟩
    | dtt ks ps=>obtain ⟨vs,e,hl,r⟩:=ok;unfold Rep;exact ⟨a,vs,rfl,hna,.inl e,hl,Reps.cells hs _ _ r⟩
    | _=>exact ok.elim
theorem finQ_ok {K:W.Frag}{ι ι2:3e8}{H:Hp}{C':Cs}{n:Nat}(c:CR K 8e9 H C')(hn:ι.length=n):∀{qs:List SV} {ps:List PV} {vs:List V},RepSs K 8e9 H qs vs->finQ n C' qs=some ps->Reps K ι H ps vs
 | [],ps,vs,r,e=>by cases e;rw[show vs=[] from r];exact .nil
 | .v p::qs,ps,vs,r,e=>by
  obtain ⟨v,w,rfl,h1,h2⟩:=r
  unfold finQ at e
  cases hq:finQ n C' qs with
  | none=>rw[hq] at e;cases e
  | some z=>
   rw[hq] at e;cases e
   exact .cons (fin_ok (r:=.v p) (r':=.v p) c hn h1 rfl).2 (finQ_ok c hn h2 hq)
 | .c k::qs,ps,vs,r,e=>by
  obtain ⟨v,w,rfl,h1,h2⟩:=r
  unfold finQ at e
  by_cases hk:k < n
  ·rw[if_pos hk] at e;cases e
  ·rw[if_neg hk] at e
   cases hc:C'[k]? with
   | none=>rw[hc] at e;cases e
   | some d=>
    cases hq:finQ n C' qs with
    | none=>rw[hc,hq] at e;cases e
    | some z=>
     rw[hc,hq] at e;cases e
     exact .cons (fin_ok (r:=.c k) (r':=.v d) c hn h1 (show (if k < n then some (SV.c k,C'.take n) else (C'[k]?).map fun c=>(SV.v c,C'.take n))=some (.v d,C'.take n) by rw[if_neg hk,hc];rfl)).2 (finQ_ok c hn h2 hq)
theorem RepSs.get {K:W.Frag}{ι:3e8}{H:Hp}:∀{ss:List SV} {vs:List V} {i:Nat} {s:SV},RepSs K ι H ss vs->ss[i]? = some s->∃v,vs[i]? = some v/\RepS K ι H s v
 | [],_,_,_,h,e=>by simp at e
 | q::ss,vs,0,s,h,e=>by
  obtain ⟨v,r,rfl,h1,h2⟩:=h
  simp at e;subst e;exact ⟨v,rfl,h1⟩
 | q::ss,vs,i + 1,s,h,e=>by
  obtain ⟨v,r,rfl,h1,h2⟩:=h
  obtain ⟨w,e1,r1⟩:=RepSs.get (i:=i) h2 (by simpa using e)
  exact ⟨w,by simpa using e1,r1⟩
theorem sr_start {K:W.Frag}{ι:3e8}{H:Hp}{C:Cs}{ss:List SV}{vs:List V}{N:6e2}(cr:11e4)(rs:RepSs K ι H ss vs):SR K ι H (ss.map some++YR (N.length - ss.length) none) (L2.start N vs) C:=by
 have hl:=RepSs.length rs
 refine ⟨cr,by unfold L2.start;simp[hl],fun i s e=>?_⟩
 unfold L2.start
 rcases YJ i ss.length with h | h
 ·rw[Yd 12e0,YI] at e
  rw[Yd (by rw[Yv,←hl];exact h),YI]
  cases hs:ss[i]? with
  | none=>rw[hs] at e;cases e
  | some s'=>
   rw[hs] at e
   have:s'=s:=by simpa using e
   subst this
   obtain ⟨v,h1,h2⟩:=RepSs.get rs hs
   exact ⟨v,by rw[h1];rfl,h2⟩
 ·rw[YY 12e0,List.getElem?_replicate] at e
  split at e<;>cases e
section
variable {P:Yx}{w:World}{K:W.Frag}{mg:3e0}{base:Heap}
theorem fn_mk {x qual:Str}{st:Stmt}{f:Addr}{fd:XM}{N ps:6e2}{k:Nat}{body:10e9}(F:Fun K x qual st f fd)(S:FnScope N ps (defScope st))
  (hbody:∀(cdv:Value) (A:Around) (outer:List Env) (s:Shared) (H:Hp) (E:XK),Room k (A.deeper (envOfC qual (defScope st) s.heap.objs.size f cdv))->
   BM (cxOf CX0 P w K mg base N qual (defScope st) f cdv A outer s H E).nox (defBody st) body):FnOk P w K mg base CX0 (k + 1) f fd ps (liftSp K (mDef ps.length (N.length - ps.length) body)):=by
 refine F.ok S (fun vs H Q E h_=>?_) (fun cdv A outer s H vs Q E hr h_=>?_)<;>obtain ⟨ι,ss,C,r,C',cr,rs,e,q⟩:=h_
 ·unfold mDef at e
  by_cases h:ss.length=ps.length
  ·rw[←RepSs.length rs];exact h
  ·rw[if_neg h] at e;cases e
 ·refine ⟨_,hbody cdv A outer s H E hr,?_⟩
  unfold mDef at e
  by_cases h:ss.length=ps.length
  case neg=>rw[if_neg h] at e;cases e
  rw[if_pos h] at e
  have sr:=sr_start (N:=N) cr rs
  rw[h] at sr
  cases hb:body (ss.map some++YR (N.length - ps.length) none) C with
  | none=>rw[hb] at e;cases e
  | some z=>
   obtain ⟨fl,C2⟩:=z
   rw[hb] at e
   refine ⟨ι,_,C,fl,C2,sr,hb,?_⟩
   cases fl with
   | rt r2=>
    intro ι2 v H' x c r3
    obtain ⟨c4,r4⟩:=fin_ok c cr.len r3 e
    exact q v H' x.1 c4 r4
   | nx ρ2=>
    intro ι2 σ' H' x sr'
    cases e
    refine q .non H' x.1 (sr'.cr.cut cr.len) ?_
    show Rep K ι H' .non .non
    unfold Rep;rfl
   | rf ps'=>
    intro ι2 p' vs' H' x c hp rs'
    cases e
    have hs:∀b o,H' b=some o->b∉ι++ι2->b∉ι:=fun b o _ z q=>z (Xa _ q)
    have c4:=c.cut cr.len
    exact q _ _ (x.1.trans (Fr.new hp)) (c4.new hp) (show Rep _ _ _ _ _ from Zco c4 hp (Reps.cells hs _ _ rs'))
   | rq qs'=>
    intro ι2 p' vs' H' x c hp rs'
    replace e:(finQ C.length C2 qs').map (fun ps=>(SV.v 9e0,C2.take C.length))=some (r,C'):=e
    cases hq:finQ C.length C2 qs' with
    | none=>rw[hq] at e;cases e
    | some ps'=>
     rw[hq] at e;cases e
     have c4:=c.cut cr.len
     refine q _ _ (x.1.trans (Fr.new hp)) (c4.new hp) ?_
     show Rep _ _ _ (.tup ps') _
     unfold Rep
     exact ⟨p',vs',rfl,ZaM,Reps.stay (fun b o e=>by rw[Zaw (Zap e hp)];exact e) _ _ (finQ_ok c cr.len rs' hq)⟩
   | bk _=>cases e
   | ct _=>cases e
theorem fn_mkF {x qual:Str}{st:Stmt}{f:Addr}{fd:XM}{N ps:6e2}{k:Nat}{body:10e9}(F:Fun K x qual st f fd)(S:FnScope N ps (defScope st))
  (hbody:∀(cdv:Value) (A:Around) (outer:List Env) (s:Shared) (H:Hp) (E:XK),Room k (A.deeper (envOfC qual (defScope st) s.heap.objs.size f cdv))->
   BM (cxOf CX0 P w K mg base N qual (defScope st) f cdv A outer s H E).nox (defBody st) body):FnOk P w K mg base CX0 (k + 1) f fd ps (liftSpF K (mDefF ps.length (N.length - ps.length) body)):=by
 refine F.ok S (fun vs H Q E h_=>?_) (fun cdv A outer s H vs Q E hr h_=>?_)<;>obtain ⟨ι,ss,C,r,C',cr,rs,e,q⟩:=h_
 ·unfold mDefF at e
  by_cases h:ss.length=ps.length
  ·rw[←RepSs.length rs];exact h
  ·rw[if_neg h] at e;cases e
 ·refine ⟨_,hbody cdv A outer s H E hr,?_⟩
  unfold mDefF at e
  by_cases h:ss.length=ps.length
  case neg=>rw[if_neg h] at e;cases e
  rw[if_pos h] at e
  have sr:=sr_start (N:=N) cr rs
  rw[h] at sr
  cases hb:body (ss.map some++YR (N.length - ps.length) none) C with
  | none=>rw[hb] at e;cases e
  | some z=>
   obtain ⟨fl,C2⟩:=z
   rw[hb] at e
   refine ⟨ι,_,C,fl,C2,sr,hb,?_⟩
   cases fl with
   | rf ps'=>
    intro ι2 p' vs' H' x c hp rs'
    cases e
    have hs:∀b o,H' b=some o->b∉ι++ι2->b∉ι:=fun b o _ z q=>z (Xa _ q)
    exact q p' vs' H' x.1 (c.cut cr.len) hp (Reps.cells hs _ _ rs')
   | _=>cases e
end
end Pu
namespace Pu
open PySem PySem.Spec L2
open PyProof.Rows hiding St Fr
def g2 (h:PV->PV->Option PV):Cs->SV->SV->Option SV:=fun C x y=>match deref C x,deref C y with
 | some p,some q=>(h p q).map .v
 | _,_=>none
def L2ok (K:W.Frag)(r:R2)(h:PV->PV->Option PV):Prop:=
 ∀(ι:3e8) (H:Hp) (C:Cs) (p q:PV) (vx vy:V) (z:PV) (Q:VK),CR K ι H C->Lies K ι H p vx->Lies K ι H q vy->h p q=some z->(∀v H',Fr ι H H'->CR K ι H' C->Rep K ι H' z v->Q v H')->r vx vy H Q
theorem L2ok.r {K:W.Frag}{r:R2}{h:PV->PV->Option PV}(k:L2ok K r h):R2ok K r (g2 h):=by
 intro ι H C x y vx vy z Q cr rx ry e q
 unfold g2 at e
 cases hx:deref C x with
 | none=>rw[hx] at e;cases e
 | some p=>
  cases hy:deref C y with
  | none=>rw[hx,hy] at e;cases e
  | some p2=>
   rw[hx,hy] at e
   cases hz:h p p2 with
   | none=>simp[hz] at e
   | some z2=>
    simp[hz] at e
    subst e
    exact k ι H C p p2 vx vy z2 Q cr (rx.lies cr hx) (ry.lies cr hy) hz q
theorem OpR.or {X:Cx}{f:Value->Value->Sem Value}{r r':R2}(h:OpR X f r)(h':OpR X f r'):OpR X f (fun x y H Q=>r x y H Q\/r' x y H Q):=by
 intro pins s σ H x y v u Q I rx ry q
 rcases q with q | q
 ·exact h pins s σ H x y v u Q I rx ry q
 ·exact h' pins s σ H x y v u Q I rx ry q
section
variable {K:W.Frag}{ι:3e8}{H:Hp}{C:Cs}{Q:VK}{z:PV}
theorem liesS {v:V}{i:Str}(h:Lies K ι H (.str i) v):v=.str i/\i.length<=sizeLine:=by cases h;exact ⟨rfl,by assumption⟩
theorem liesT {v:V}{ps:List PV}(h:Lies K ι H 9e0 v):∃a vs,v=.ref a/\TpR H a vs/\Reps K ι H ps vs:=by cases h;exact ⟨_,_,rfl,by assumption,by assumption⟩
theorem liesL {v:V}{ps:List PV}(h:Lies K ι H 8e1 v):∃a vs,v=.ref a/\SqL K H a vs/\Reps K ι H ps vs:=by cases h;exact ⟨_,_,rfl,by assumption,by assumption⟩
theorem repI {i:Int}:Rep K ι H (.int i) (.int i):=by unfold Rep;rfl
theorem repBl {i:Bool}:Rep K ι H (.bl i) (.bl i):=by unfold Rep;rfl
theorem repN:Rep K ι H .non .non:=by unfold Rep;rfl
theorem repS {i:Str}(h:i.length<=Yo):Rep K ι H (.str i) (.str i):=by unfold Rep;exact ⟨rfl,h⟩
theorem k1000000 {n:Nat}(h:n<=1000000):n<=sizeLine:=Yz h (by rw[YE];decide)
theorem ZcS {ps:List PV}{q:Addr}{vs:List V}(hq:H q=none)(rs:Reps K ι H ps vs):Rep K ι (upd H q (.tup vs)) 9e0 (.ref q):=by
 unfold Rep
 exact ⟨q,vs,rfl,ZaM,Reps.stay (fun b o e=>by rw[Zaw (Zap e hq)];exact e) ps vs rs⟩
end
noncomputable def addP:PV->PV->Option PV
 | .int i,.int j=>some (.int (i + j))
 | .str i,.str j=>if i.length + j.length<=1000000 then some (.str (i++j)) else none
 | .lst a,.lst b=>if a.length + b.length<=1000000 then some (.lst (a++b)) else none
 | .tup a,.tup b=>if a.length + b.length<=1000000 then some (.tup (a++b)) else none
 | _,_=>none
def rCatL (K:W.Frag):R2:=fun x y H Q=>∃l b xs zs,x=.ref l/\y=.ref b/\SqL K H l xs/\SqL K H b zs/\xs.length + zs.length<=Yo/\∀p,H p=none->Q (.ref p) (upd H p (.lst (xs++zs)))
section
variable {X:Cx}
theorem op_catL:OpR X (Wi .Add) (rCatL X.K):=by
 sleep 4
 obtain ⟨l,b,xs,zs,rfl,rfl,hH,hB,hz,q⟩:=h
 cases rx
 cases ry
 obtain ⟨its,r,pl,_⟩:=I.list hH
 obtain ⟨its2,r2,pl2,_⟩:=I.list hB
 obtain ⟨⟨cls,dd,data,sl⟩,ho,hc,n,hd⟩:=id pl.isList
 obtain ⟨⟨cls2,dd2,data2,sl2⟩,ho2,hc2,n2,hd2⟩:=id pl2.isList
 simp only at hc hd hc2 hd2
 subst hc hd hc2 hd2
 have h1:=r.length
 have h2:=r2.length
 have ea:its.toArray++its2.toArray=(its++its2).toArray:=by simp
 refine VR ⟨_,ho,rfl⟩ ⟨_,ho2,rfl⟩ noFill_list_add seq_list_add PySem.F.slot_list_add PySem.F.entry_list_add (PySem.F.args_list_add_2 _ _) (list_addW l b its.toArray its2.toArray n n2 dd dd2 sl sl2 12e1) ⟨ho,ho2,?_⟩
 rw[ea]
 exact ⟨.ref _,_,I.lnew (t':=s.toks) (r.append r2) (by rw[Y0];lia),rfl,q _ I.fresh⟩
def rCatT' (K:W.Frag):R2:=fun x y H Q=>∃a b xs ys,x=.ref a/\y=.ref b/\SqT K H a xs/\SqT K H b ys/\xs.length + ys.length<=Yo/\
 (xs=[]->Q (.ref b) H)/\(xs≠[]->ys=[]->Q (.ref a) H)/\(xs≠[]->ys≠[]->∀p,H p=none->Q (.ref p) (upd H p (.tup (xs++ys))))
theorem op_catT':OpR X (Wi .Add) (rCatT' X.K):=by
 sleep 4
 obtain ⟨a,b,xs,ys,rfl,rfl,ha,hb,hz,q0,q1,q2⟩:=h
 by_cases hx:xs=[]
 ·cases rx
  cases ry
  obtain ⟨its,r1,p1,_⟩:=I.tuple ha
  obtain ⟨its2,r2,p2,_⟩:=I.tuple hb
  obtain ⟨⟨cls,dd,data,sl⟩,ho,hc,n,hd⟩:=id p1
  obtain ⟨⟨cls2,dd2,data2,sl2⟩,ho2,hc2,n2,hd2⟩:=id p2
  simp only at hc hd hc2 hd2
  subst hc hd hc2 hd2
  exact VR ⟨_,ho,rfl⟩ ⟨_,ho2,rfl⟩ VH seq_tuple_add WV WL (WE _ _)
   (tuple_addW0 a b its.toArray its2.toArray n n2 dd dd2 sl sl2 (by simp[r1.nil_iff.mpr hx])) ⟨ho,ho2,⟨.ref b,H,I,rfl,q0 hx⟩⟩
 ·exact op_catT pins s σ H _ _ v u Q I rx ry ⟨a,b,xs,ys,rfl,rfl,ha,hb,hx,hz,q1 hx,q2 hx⟩
theorem op_addAll:OpR X (Wi .Add) (fun x y H Q=>(rI0 fun i j=>.int (i + j)) x y H Q\/(∃i j,x=.str i/\y=.str j/\i.length + j.length<=Yo/\Q (.str (i++j)) H)\/rCatL X.K x y H Q\/rCatT' X.K x y H Q):=
 OpR.or op_add (OpR.or op_add_str (OpR.or op_catL op_catT'))
theorem str_app_len (i j:Str):(i++j).length=i.length + j.length:=by
 show (i.cps++j.cps).size=_
 rw[Array.size_append];rfl
theorem add_ok:L2ok X.K (fun x y H Q=>(rI0 fun i j=>.int (i + j)) x y H Q\/(∃i j,x=.str i/\y=.str j/\i.length + j.length<=Yo/\Q (.str (i++j)) H)\/rCatL X.K x y H Q\/rCatT' X.K x y H Q) addP:=by
 sleep 9
 unfold addP at e
 split at e
 ·cases e;cases lx;cases ly
  exact .inl ⟨_,_,rfl,rfl,k _ H .refl cr repI⟩
 ·split at e
  ·rename_i hl
   cases e;cases lx;cases ly
   exact .inr (.inl ⟨_,_,rfl,rfl,k1000000 hl,k _ H .refl cr (repS (by rw[str_app_len];exact k1000000 hl))⟩)
  ·cases e
 ·split at e
  ·rename_i hl
   cases e
   obtain ⟨a,vs,rfl,h1,r1⟩:=liesL lx
   obtain ⟨b,ws,rfl,h2,r2⟩:=liesL ly
   exact .inr (.inr (.inl ⟨a,b,vs,ws,rfl,rfl,h1,h2,by rw[←r1.length,←r2.length];exact k1000000 hl,fun p hp=>k _ _ (Fr.new hp) (cr.new hp) (Zco cr hp (r1.append r2))⟩))
  ·cases e
 ·split at e
  ·rename_i hl
   cases e
   rename_i xs ys
   obtain ⟨a,vs,rfl,h1,r1⟩:=liesT lx
   obtain ⟨b,ws,rfl,h2,r2⟩:=liesT ly
   refine .inr (.inr (.inr ⟨a,b,vs,ws,rfl,rfl,h1.sq,h2.sq,by rw[←r1.length,←r2.length];exact k1000000 hl,fun e=>?_,fun _ e=>?_,fun _ _ p hp=>k _ _ (Fr.new hp) (cr.new hp) (ZcS hp (r1.append r2))⟩))
   ·subst e
    have:=r1.length
    have hx:xs=[]:=W9 this
    subst hx
    exact k _ H .refl cr (by unfold Rep;exact ⟨b,ws,rfl,h2,r2⟩)
   ·subst e
    have:=r2.length
    have hy:ys=[]:=W9 this
    subst hy
    rw[YF] at k
    exact k _ H .refl cr (by unfold Rep;exact ⟨a,vs,rfl,h1,r1⟩)
  ·cases e
 ·cases e
variable {a b e c:Expr}{es:6e4}{fa fb fc:4e2}{pos p:Pos}{x:Str}
def intP (c:Int->Int->Bool)(f:Int->Int->PV):PV->PV->Option PV
 | .int i,.int j=>if c i j then some (f i j) else none
 | _,_=>none
theorem int_ok {C0:Int->Int->Prop}{f:Int->Int->Int}{c:Int->Int->Bool}(h:∀i j,c i j=true->C0 i j):L2ok X.K (rI C0 fun i j=>.int (f i j)) (intP c fun i j=>.int (f i j)):=by
 sleep 9
 unfold intP at e
 split at e
 ·split at e
  ·rename_i hc
   cases e;cases lx;cases ly
   exact ⟨_,_,rfl,rfl,h _ _ hc,k _ H .refl cr repI⟩
  ·cases e
 ·cases e
theorem int_ok0 {f:Int->Int->V}{g:Int->Int->PV}(h:∀i j,∀ι H,Rep X.K ι H (g i j) (f i j)):L2ok X.K (rI0 f) (intP (fun _ _=>true) g):=by
 sleep 9
 unfold intP at e
 split at e
 ·simp only[if_true] at e
  cases e;cases lx;cases ly
  exact ⟨_,_,rfl,rfl,k _ H .refl cr (h _ _ _ _)⟩
 ·cases e
abbrev subP:=intP (fun _ _=>true) fun i j=>.int (i - j)
abbrev mulP:=intP (fun i j=>decide (-(2 ^ 64) < i/\i < 2 ^ 64)||decide (-(2 ^ 64) < j/\j < 2 ^ 64)) fun i j=>.int (i * j)
abbrev modP:=intP (fun _ j=>decide (0 < j)) fun i j=>.int (i % j)
abbrev fdivP:=intP (fun _ j=>decide (0 < j/\j < 1073741824)) fun i j=>.int (i / j)
abbrev powP:=intP (fun i j=>decide (0<=j/\j<=1000/\i.natAbs < 2 ^ 64)) fun i j=>.int (i ^ j.toNat)
abbrev ltP:=intP (fun _ _=>true) fun i j=>.bl (decide (i < j))
abbrev gtP:=intP (fun _ _=>true) fun i j=>.bl (decide (j < i))
def negP (C:Cs)(x:SV):Option SV:=match deref C x with
 | some (.int i)=>some (.v (.int (-i)))
 | _=>none
def mNeg (f:4e2):PSt->M SV:=fun ρ=>bnd (f ρ) fun x=>opM fun C=>negP C x
theorem Zcw:L2ok X.K (rI0 fun i j=>.bl (decide (i < j))) ltP:=int_ok0 fun _ _ _ _=>repBl
theorem gt_ok:L2ok X.K (rI0 fun i j=>.bl (decide (j < i))) gtP:=int_ok0 fun _ _ _ _=>repBl
noncomputable def scP:PV->PV->Option Bool
 | .non,.non=>some true | .non,.int _=>some false | .int _,.non=>some false | .non,.bl _=>some false | .bl _,.non=>some false | .non,.str _=>some false | .str _,.non=>some false
 | .int i,.int j=>some (decide (i=j)) | .bl i,.bl j=>some (decide (i=j)) | .str i,.str j=>some (decide (i=j))
 | .int _,.str _=>some false | .str _,.int _=>some false | .bl _,.str _=>some false | .str _,.bl _=>some false
 | _,_=>none
def eqP (p q:PV):Option PV:=(scP p q).map .bl
def neP (p q:PV):Option PV:=(scP p q).map fun b=>.bl (!b)
theorem sc_ok {K:W.Frag}{ι:3e8}{H:Hp}{p q:PV}{vx vy:V}{b:Bool}(lx:Lies K ι H p vx)(ly:Lies K ι H q vy)(e:scP p q=some b):scal vx vy=true/\decide (vx=vy)=b:=by
  unfold scP at e
  split at e<;>first
    | (cases e;cases lx;cases ly;exact ⟨rfl,by simp⟩)
    | cases e
theorem eq_ok:L2ok X.K rEq eqP:=by
 sleep 9
 unfold eqP at e
 cases hb:scP p q with
 | none=>rw[hb] at e;cases e
 | some b=>
  rw[hb] at e;cases e
  obtain ⟨h1,h2⟩:=sc_ok lx ly hb
  exact ⟨h1,by rw[h2];exact k _ H .refl cr repBl⟩
theorem ne_ok:L2ok X.K rNe neP:=by
 sleep 9
 unfold neP at e
 cases hb:scP p q with
 | none=>rw[hb] at e;cases e
 | some b=>
  rw[hb] at e;cases e
  obtain ⟨h1,h2⟩:=sc_ok lx ly hb
  exact ⟨h1,by rw[h2];exact k _ H .refl cr repBl⟩
def ixP:PV->PV->Option PV
 | .lst xs,.int i=>atI xs i
 | .tup xs,.int i=>atI xs i
 | .str z,.int i=>(atI z.cps.toList i).map fun c=>.str ⟨#[c]⟩
 | _,_=>none
theorem atI_rep {K:W.Frag}{ι:3e8}{H:Hp}{ps:List PV}{vs:List V}{i:Int}{z:PV}(r:Reps K ι H ps vs)(e:atI ps i=some z):∃v,atI vs i=some v/\Rep K ι H z v:=by
 unfold atI at e ⊢
 rw[←r.length]
 cases h:ixN ps.length i with
 | none=>rw[h] at e;cases e
 | some j=>rw[h] at e;exact r.get e
theorem ix_ok:L2ok X.K (rIx X.K) ixP:=by
 sleep 9
 unfold ixP at e
 split at e
 ·obtain ⟨a,vs,rfl,h1,r1⟩:=liesL lx
  cases ly
  obtain ⟨v,e1,r⟩:=atI_rep r1 e
  exact .inl ⟨a,vs,_,v,rfl,rfl,h1,e1,k v H .refl cr r⟩
 ·obtain ⟨a,vs,rfl,h1,r1⟩:=liesT lx
  cases ly
  obtain ⟨v,e1,r⟩:=atI_rep r1 e
  exact .inr (.inl ⟨a,vs,_,v,rfl,rfl,h1.sq,e1,k v H .refl cr r⟩)
 ·obtain ⟨rfl,hz⟩:=liesS lx
  cases ly
  rename_i z' i
  cases hc:atI z'.cps.toList i with
  | none=>rw[hc] at e;cases e
  | some c=>
   rw[hc] at e;cases e
   exact .inr (.inr ⟨_,_,c,rfl,rfl,hz,hc,k _ H .refl cr (repS (by show 1<=Yo;rw[YE];decide))⟩)
 ·cases e
noncomputable def tyN:PV->Option String
 | .non=>some "NoneType"
 | .bl _=>some "bool"
 | .int _=>some "int"
 | .str _=>some "str"
 | .tup _=>some "tuple"
 | .lst _=>some "list"
 | .dct _ _=>some "dict"
 | _=>none
def isiP (p:PV)(n:String):Option Bool:=match tyN p with
 | none=>none
 | some t=>if n="int" then some (t=="int"||t=="bool") else if n="str"\/n="bool"\/n="tuple"\/n="list"\/n="dict" then some (t==n) else none
theorem kit_ok {K:W.Frag}{t n:String}{b:Bool}(ht:t="NoneType"\/t="bool"\/t="int"\/t="str"\/t="tuple"\/t="list"\/t="dict")(hn:n="int"\/n="str"\/n="bool"\/n="tuple"\/n="list"\/n="dict")
  (e:(if n="int" then some (t=="int"||t=="bool") else if n="str"\/n="bool"\/n="tuple"\/n="list"\/n="dict" then some (t==n) else none)=some b):W.kitOne K (.type t) (.type n)=some b:=by
 rcases ht with rfl | rfl | rfl | rfl | rfl | rfl | rfl<;>rcases hn with rfl | rfl | rfl | rfl | rfl | rfl<;>(simp at e;subst e;rfl)
end
inductive LiesAll (K:W.Frag)(ι:List Addr)(H:Hp):List PV->List V->Prop
 | nil:LiesAll K ι H [] []
 | cons {p:PV} {v:V} {ps:List PV} {vs:List V} (h:Lies K ι H p v) (t:LiesAll K ι H ps vs):LiesAll K ι H (p::ps) (v::vs)
def derefs (C:Cs):List SV->Option 7e5
 | []=>some []
 | x::xs=>match deref C x,derefs C xs with
  | some p,some ps=>some (p::ps)
  | _,_=>none
theorem ZbY {K:W.Frag}{ι:3e8}{H:Hp}{C:Cs}(cr:11e4):∀{xs:List SV} {ps:List PV} {vs:List V},RepSs K ι H xs vs->derefs C xs=some ps->LiesAll K ι H ps vs
 | [],ps,vs,r,e=>by cases e;rw[show vs=[] from r];exact .nil
 | x::xs,ps,vs,r,e=>by
  obtain ⟨v,w,rfl,h1,h2⟩:=r
  unfold derefs at e
  split at e
  ·rename_i p qs hp hq
   cases e
   exact .cons (h1.lies cr hp) (ZbY cr h2 hq)
  ·cases e
def g1 (h:List PV->Option PV):Cs->List SV->Option SV:=fun C xs=>match derefs C xs with
 | some ps=>(h ps).map .v
 | none=>none
def L1ok (K:W.Frag)(r:List V->Hp->VK->Prop)(h:List PV->Option PV):Prop:=
 ∀(ι:3e8) (H:Hp) (C:Cs) (ps:List PV) (vs:List V) (z:PV) (Q:VK),CR K ι H C->LiesAll K ι H ps vs->h ps=some z->(∀v H',Fr ι H H'->CR K ι H' C->Rep K ι H' z v->Q v H')->r vs H Q
theorem L1ok.c {K:W.Frag}{r:List V->Hp->VK->Prop}{h:List PV->Option PV}(k:L1ok K r h):C1ok K r (g1 h):=by
 intro ι H C xs vs z Q cr rs e q
 unfold g1 at e
 cases hd:derefs C xs with
 | none=>rw[hd] at e;cases e
 | some ps=>
  rw[hd] at e
  cases hz:h ps with
  | none=>simp[hz] at e
  | some z2=>
   simp[hz] at e
   subst e
   exact k ι H C ps vs z2 Q cr (ZbY cr rs hd) hz q
section
variable {X:Cx}{a b e c o:Expr}{es:6e4}{fa fb fc fo:4e2}{fs:2e9}{pos p apos cpos:Pos}{x:Str}
def TyV (K:W.Frag)(H:Hp)(x:V)(t:String):Prop:=match x with
 | .non=>t="NoneType"
 | .bl _=>t="bool"
 | .int _=>t="int"
 | .str _=>t="str"
 | .ref a=>(t="tuple"/\∃vs,SqT K H a vs)\/(t="list"/\∃vs,SqL K H a vs)\/(t="dict"/\∃kvs,H a=some (.dK kvs))
 | _=>False
theorem call_isi:CallR X (.builtin "isinstance") (fun xs H Q=>∃x n t b,xs=[x,.ty n]/\TyV X.K H x t/\W.kitOne X.K (.type t) (.type n)=some b/\Q (.bl b) H):=by
 intro pins s σ H xs us Q I r h
 obtain ⟨x,n,t,b,rfl,ty,e,q⟩:=h
 obtain ⟨u,v,rfl,ru,rv⟩:=Vals.two r
 cases (show v=WW n from rv)
 have fin:∀tk,EP X pins σ Q (.bool b) { s with toks:=tk }:=fun tk=>⟨.bl b,H,I.tok tk,rfl,q⟩
 cases x with
 | non=>cases (show t="NoneType" from ty);exact ZbF I ru (TyOf.non) e fin
 | bl y=>cases (show t="bool" from ty);exact ZbF I ru (TyOf.bl y) e fin
 | int y=>cases (show t="int" from ty);exact ZbF I ru (TyOf.int y) e fin
 | str y=>cases (show t="str" from ty);exact ZbF I ru (TyOf.str y) e fin
 | ref a=>
  cases (show u=Y7 a from ru)
  rcases (show _ from ty) with ⟨rfl,vs,h⟩ | ⟨rfl,vs,h⟩ | ⟨rfl,kvs,h⟩
  ·obtain ⟨its,_,⟨o,h1,h2,_⟩,_⟩:=I.tuple h
   exact Wa W.kitx_tuple I.kIn ⟨o,h1,h2⟩ e (fun z=>nomatch z) fin
  ·obtain ⟨its,_,⟨o,n,h1,h2,_⟩,_⟩:=I.list h
   exact Wa W.kitx_list I.kIn ⟨o,h1,h2⟩ e (fun z=>nomatch z) fin
  ·exact ZbF I ru (TyOf.dK h) e fin
 | _=>exact (show False from ty).elim
def isiH:List PV->Option PV
 | [p,.ty n]=>(isiP p n).map .bl
 | _=>none
theorem isi_ok:L1ok X.K (fun xs H Q=>∃x n t b,xs=[x,.ty n]/\TyV X.K H x t/\W.kitOne X.K (.type t) (.type n)=some b/\Q (.bl b) H) isiH:=by
 intro ι H C ps vs z Q cr ls e k
 unfold isiH at e
 split at e
 ·rename_i p n
  cases ls with
  | cons l1 ls=>cases ls with
   | cons l2 ls=>
    cases ls
    cases l2
    cases hb:isiP p n with
    | none=>rw[hb] at e;cases e
    | some b=>
     rw[hb] at e;cases e
     unfold isiP at hb
     cases ht:tyN p with
     | none=>rw[ht] at hb;cases hb
     | some t=>
      rw[ht] at hb
      dsimp only at hb
      have hn:n="int"\/n="str"\/n="bool"\/n="tuple"\/n="list"\/n="dict":=by
       by_cases h1:n="int"
       ·exact .inl h1
       ·rw[if_neg h1] at hb
        by_cases h2:n="str"\/n="bool"\/n="tuple"\/n="list"\/n="dict"
        ·exact .inr h2
        ·rw[if_neg h2] at hb;cases hb
      refine ⟨_,n,t,b,rfl,?_,kit_ok ?_ hn hb,k _ H .refl cr repBl⟩
      ·cases l1<;>(unfold tyN at ht;first | (cases ht;rfl) | (cases ht;exact .inl ⟨rfl,_,TpR.sq (by assumption)⟩) | (cases ht;exact .inr (.inl ⟨rfl,_,by assumption⟩)) | (cases ht;exact .inr (.inr ⟨rfl,_,by assumption⟩)) | cases ht)
      ·cases p<;>(unfold tyN at ht;first | (cases ht;simp) | cases ht)
 ·cases e
noncomputable def lenH:List PV->Option PV
 | [.str z]=>some (.int z.length)
 | [.lst xs]=>some (.int xs.length)
 | [.tup xs]=>some (.int xs.length)
 | _=>none
theorem len_ok:L1ok X.K (fun xs H Q=>∃x n,xs=[x]/\LenV X.K x H n/\Q (.int n) H) lenH:=by
 intro ι H C ps vs z Q cr ls e k
 unfold lenH at e
 split at e
 ·cases e;cases ls with
  | cons l t=>cases t;obtain ⟨rfl,hz⟩:=liesS l;exact ⟨_,_,rfl,⟨hz,rfl⟩,k _ H .refl cr repI⟩
 ·cases e;cases ls with
  | cons l t=>cases t;obtain ⟨a,ws,rfl,h1,r1⟩:=liesL l;exact ⟨_,_,rfl,.inl ⟨ws,h1,r1.length⟩,k _ H .refl cr repI⟩
 ·cases e;cases ls with
  | cons l t=>cases t;obtain ⟨a,ws,rfl,h1,r1⟩:=liesT l;exact ⟨_,_,rfl,.inr ⟨ws,h1.sq,r1.length⟩,k _ H .refl cr repI⟩
 ·cases e
noncomputable def maxH:List PV->Option PV
 | [.int i,.int j]=>some (.int (if j > i then j else i))
 | _=>none
noncomputable def minH:List PV->Option PV
 | [.int i,.int j]=>some (.int (if j < i then j else i))
 | _=>none
theorem max_ok:L1ok X.K (fun xs H Q=>∃i j,xs=[.int i,.int j]/\Q (.int (if j > i then j else i)) H) maxH:=by
 intro ι H C ps vs z Q cr ls e k
 unfold maxH at e
 split at e
 ·cases e;cases ls with
  | cons l t=>cases t with
   | cons l2 t=>cases t;cases l;cases l2;exact ⟨_,_,rfl,k _ H .refl cr repI⟩
 ·cases e
theorem min_ok:L1ok X.K (fun xs H Q=>∃i j,xs=[.int i,.int j]/\Q (.int (if j < i then j else i)) H) minH:=by
 intro ι H C ps vs z Q cr ls e k
 unfold minH at e
 split at e
 ·cases e;cases ls with
  | cons l t=>cases t with
   | cons l2 t=>cases t;cases l;cases l2;exact ⟨_,_,rfl,k _ H .refl cr repI⟩
 ·cases e
noncomputable def intH:List PV->Option PV
 | [.int i]=>some (.int i)
 | [.bl k]=>some (.int (if k then 1 else 0))
 | _=>none
theorem intc_ok:L1ok X.K (fun xs H Q=>(∃i,xs=[.int i]/\Q (.int i) H)\/∃k,xs=[.bl k]/\Q (.int (if k then 1 else 0)) H) intH:=by
 intro ι H C ps vs z Q cr ls e k
 unfold intH at e
 split at e
 ·cases e;cases ls with
  | cons l t=>cases t;cases l;exact .inl ⟨_,rfl,k _ H .refl cr repI⟩
 ·cases e;cases ls with
  | cons l t=>cases t;cases l;exact .inr ⟨_,rfl,k _ H .refl cr repI⟩
 ·cases e
noncomputable def tupH:List PV->Option PV
 | [.lst xs]=>some (.tup xs)
 | [.tup xs]=>some (.tup xs)
 | _=>none
theorem tup_ok:L1ok X.K (fun xs H Q=>∃p ys,xs=[.ref p]/\((SqL X.K H p ys/\∀l,H l=none->Q (.ref l) (upd H l (.tup ys)))\/(SqT X.K H p ys/\Q (.ref p) H))) tupH:=by
 intro ι H C ps vs z Q cr ls e k
 unfold tupH at e
 split at e
 ·cases e;cases ls with
  | cons l t=>cases t;obtain ⟨a,ws,rfl,h1,r1⟩:=liesL l;exact ⟨a,ws,rfl,.inl ⟨h1,fun q hq=>k _ _ (Fr.new hq) (cr.new hq) (ZcS hq r1)⟩⟩
 ·cases e;cases ls with
  | cons l t=>cases t;obtain ⟨a,ws,rfl,h1,r1⟩:=liesT l;exact ⟨a,ws,rfl,.inr ⟨h1.sq,k _ H .refl cr (by unfold Rep;exact ⟨a,ws,rfl,h1,r1⟩)⟩⟩
 ·cases e
def listH (C:Cs):List SV->Option 7e5
 | [x]=>match deref C x with
  | some (.lst xs)=>some xs
  | some (.tup xs)=>some xs
  | _=>none
 | _=>none
def mList (fs:2e9):PSt->M 7e5:=fun ρ=>bnd (fs ρ) fun xs=>opM fun C=>listH C xs
end
section
variable {X:Cx}{a b e c o i:Expr}{es:6e4}{fa fb fc fo fi fv:4e2}{fs:2e9}{pos p apos cpos:Pos}{x:Str}
noncomputable def isLst (x:SV):M Unit:=fun C=>match x with
 | .c k=>match C[k]? with
  | some (.lst _)=>some ((),C)
  | _=>none
 | _=>none
theorem isLst_some {x:SV}{C C2:Cs}(h:isLst x C=some ((),C2)):C2=C/\∃k ps,x=.c k/\C[k]? = some 8e1:=by
 unfold isLst at h
 split at h
 ·split at h
  ·rename_i k _ ps e;cases h;exact ⟨rfl,k,ps,rfl,e⟩
  ·cases h
 ·cases h
noncomputable def appC (x:SV)(ys:List SV):M SV:=fun C=>match x,ys with
 | .c k,[.v p]=>match C[k]? with
  | some (.lst ps)=>if ps.length < 100000 then some (.v .non,C.set k (.lst (ps++[p]))) else none
  | _=>none
 | _,_=>none
theorem appC_some {x:SV}{ys:List SV}{C C2:Cs}{r:SV}(h:appC x ys C=some (r,C2)):∃k p ps,x=.c k/\ys=[.v p]/\C[k]? = some 8e1/\ps.length < 100000/\r=.v .non/\C2=C.set k (.lst (ps++[p])):=by
 unfold appC at h
 split at h
 ·split at h
  ·split at h
   ·cases h;exact ⟨_,_,_,rfl,rfl,by assumption,by assumption,rfl,rfl⟩
   ·cases h
  ·cases h
 ·cases h
def mApp (fo:4e2)(fs:2e9):PSt->M SV:=fun ρ=>bnd (fo ρ) fun x=>bnd (isLst x) fun _=>bnd (fs ρ) fun ys=>appC x ys
theorem ZcG {K:W.Frag}{ι:3e8}{H:Hp}{C:Cs}{k:Nat}{a:Addr}{ps:List PV}(cr:11e4)(hk:ι[k]? = some a)(hc:C[k]? = some 8e1):∃vs,H a=some (.lst vs)/\Reps K ι H ps vs:=cr.ok k a _ hk hc
theorem cr_set {K:W.Frag}{ι:3e8}{H:Hp}{C:Cs}{k:Nat}{a:Addr}{ps:List PV}{vs:List V}(cr:11e4)(hk:ι[k]? = some a)(r:Reps K ι H ps vs):CR K ι (upd H a (.lst vs)) (C.set k 8e1)/\Fr ι H (upd H a (.lst vs)):=by
 have fr:Fr ι H (upd H a (.lst vs)):=fun b u n e=>by
  rw[Zaw (fun z=>n (by rw[z];exact YH hk))];exact e
 exact ⟨cr.put hk ⟨vs,ZaM,Reps.mono cr fr _ _ r⟩,fr⟩
def setC (v o i:SV)(ρ:PSt):M PF:=fun C=>match o,i,v with
 | .c k,.v (.int n),.v p=>match C[k]? with
  | some (.lst ps)=>match ixN ps.length n with
   | some j=>some (.nx ρ,C.set k (.lst (ps.set j p)))
   | none=>none
  | _=>none
 | _,_,_=>none
theorem setC_some {v o i:SV}{ρ:PSt}{C C2:Cs}{fl:PF}(h:setC v o i ρ C=some (fl,C2)):∃k n p ps j,o=.c k/\i=.v (.int n)/\v=.v p/\C[k]? = some 8e1/\ixN ps.length n=some j/\fl=.nx ρ/\C2=C.set k (.lst (ps.set j p)):=by
 unfold setC at h
 split at h
 ·split at h
  ·split at h
   ·cases h;exact ⟨_,_,_,_,_,rfl,rfl,rfl,by assumption,by assumption,rfl,rfl⟩
   ·cases h
  ·cases h
 ·cases h
def mSetIx (fv fo fi:4e2):PSt->M PF:=fun ρ=>bnd (fv ρ) fun v=>bnd (fo ρ) fun o=>bnd (fi ρ) fun i=>setC v o i ρ
noncomputable def itemsP:SV->Option 7e5
 | .v (.lst xs)=>some xs
 | .v (.tup xs)=>some xs
 | .v (.str z)=>some (z.cps.toList.map fun c=>.str ⟨#[c]⟩)
 | _=>none
def mItems (f:4e2):PSt->M 7e5:=fun ρ=>bnd (f ρ) fun x=>opM fun _=>itemsP x
theorem iter_list {K:W.Frag}{ι:3e8}{H:Hp}{C:Cs}{a:Addr}{xs:List PV}{vs:List V}(cr:11e4)(h:LsR K ι H a vs)(r:Reps K ι H xs vs):Iter K ι H xs (Itl K a):=by
 have keep:∀ι2 H2,Ex ι ι2 H H2->SqL K H2 a vs:=fun ι2 H2 x=>by
  rcases h with ⟨n,q | ⟨o,q⟩⟩ | q
  ·exact .inl (.inl (x.out _ _ n q).2)
  ·exact .inl (.inr ⟨o,(x.out _ _ n q).2⟩)
  ·exact .inr q
 refine ⟨fun ι2 H2 C2 x c i hi=>?_,fun ι2 H2 C2 x c i v H3 hi y=>?_,fun ι2 H2 C2 x c=>⟨vs,keep ι2 H2 x,by rw[r.length];exact Yh _⟩⟩
 ·obtain ⟨v,e,_⟩:=r.get (Yc hi)
  exact ⟨vs,v,keep ι2 H2 x,e⟩
 ·obtain ⟨rfl,y⟩:=y
  obtain ⟨p,hp,rp⟩:=r.get' (y vs (keep ι2 _ x))
  exact ⟨fun b o e=>e,p,hp,Rep.tr cr x.out p v rp⟩
theorem iter_tup {K:W.Frag}{ι:3e8}{H:Hp}{C:Cs}{a:Addr}{xs:List PV}{vs:List V}(cr:11e4)(h:SqT K H a vs)(r:Reps K ι H xs vs):Iter K ι H xs (Itt K a):=by
 have keep:∀ι2 H2,Ex ι ι2 H H2->SqT K H2 a vs:=fun ι2 H2 x=>by
  rcases h with (q | ⟨o,q⟩) | q
  ·exact .inl (.inl (x.out _ _ (cr.notup q (fun _ e=>nomatch e) fun _ e=>nomatch e) q).2)
  ·exact .inl (.inr ⟨o,(x.out _ _ (cr.notup q (fun _ e=>nomatch e) fun _ e=>nomatch e) q).2⟩)
  ·exact .inr q
 refine ⟨fun ι2 H2 C2 x c i hi=>?_,fun ι2 H2 C2 x c i v H3 hi y=>?_,fun ι2 H2 C2 x c=>⟨vs,keep ι2 H2 x,by rw[r.length];exact Yh _⟩⟩
 ·obtain ⟨v,e,_⟩:=r.get (Yc hi)
  exact ⟨vs,v,keep ι2 H2 x,e⟩
 ·obtain ⟨rfl,y⟩:=y
  obtain ⟨p,hp,rp⟩:=r.get' (y vs (keep ι2 _ x))
  exact ⟨fun b o e=>e,p,hp,Rep.tr cr x.out p v rp⟩
theorem iter_str {K:W.Frag}{ι:3e8}{H:Hp}{z:Str}:Iter K ι H (z.cps.toList.map fun c=>.str ⟨#[c]⟩) (Its z):=by
 refine ⟨fun ι2 H2 C2 x c i hi=>by show i < z.cps.size;simpa using hi,fun ι2 H2 C2 x c i v H3 hi y=>?_,fun ι2 H2 C2 x c=>by show _=_;simp⟩
 obtain ⟨rfl,d,hd,rfl⟩:=y
 refine ⟨fun b o e=>e,.str ⟨#[d]⟩,by simp[hd],?_⟩
 exact repS (by show 1<=Yo;rw[YE];decide)
theorem iter_range {K:W.Frag}{ι:3e8}{H:Hp}{lo:Int}{n:Nat}:Iter K ι H ((Yk n).map fun (k:Nat)=>.int (lo + k)) (Itr lo n):=by
 refine ⟨fun ι2 H2 C2 x c i hi=>by show i < n;simpa using hi,fun ι2 H2 C2 x c i v H3 hi y=>?_,fun ι2 H2 C2 x c=>by show n<=_;simp⟩
 obtain ⟨rfl,rfl⟩:=y
 have hi':i < n:=by simpa using hi
 exact ⟨fun b o e=>e,.int (lo + i),by simp[hi'],repI⟩
variable {tg l:Expr}
noncomputable def rng1P:List SV->Option 7e5
 | [.v (.int j)]=>if -1000000<=j/\j<=1000000 then some ((Yk j.toNat).map fun (k:Nat)=>.int (0 + k)) else none
 | _=>none
def mRange1 (fs:2e9):PSt->M 7e5:=fun ρ=>bnd (fs ρ) fun xs=>opM fun _=>rng1P xs
theorem rng1_some {xs:List SV}{ys:List PV}(h:rng1P xs=some ys):∃j,xs=[.v (.int j)]/\(-1000000<=j/\j<=1000000)/\ys=(Yk j.toNat).map fun (k:Nat)=>.int (0 + k):=by
 unfold rng1P at h
 split at h
 ·split at h
  ·cases h;exact ⟨_,rfl,by assumption,rfl⟩
  ·cases h
 ·cases h
end
section
variable {prog:Yx}{w:World}{A:Around}{E:1e7}{s:Shared}
theorem ZbX {t sl:Addr}{items:Array Value}{vl vu:Value}{lo hi:Option Int}{Q:1e7}(ht:IsTup s.heap t items)(hs:s.heap.IsSliceOf sl vl vu .none)(pl:IsPart vl lo)(pu:IsPart vu hi)
  (hw:HT.sIx items.size 0 lo=0/\HT.sIx items.size items.size hi=items.size) (h:Q (.ref t) s):wpAny 6e1 A (V5 (.ref t) (.ref sl)) Q E s:=by
 obtain ⟨os,hos,hcs,hds⟩:=id hs
 have hTs:s.TypeIs (.ref sl) "slice":=⟨os,hos,hcs⟩
 unfold V5
 try with_reducible refine Xb ?_
 first | refine Yb (Yg ?_) | skip
 refine Yb (wpAny_sequenceKey ht.typeIs 1e4 ?_)
 refine Yb (X4 (name:=Vs "__getitem__") ht.typeIs Y3
  (Xu Y3 ht.typeIs entry_tuple_getitem ?_ (args_tuple_getitem _ _)))
 show wpAny _ _ (Vp (.ref t) >>= _) _ _ s
 refine Yb (tupleItemsOf_ ht ?_)
 refine Yb (W3 hTs ?_)
 rw[if_pos 1e4]
 refine Yb (HT.sliceApplied_gen hs pl pu ?_)
 have hyes:(((HT.sIx items.size 0 lo:Nat):Int)==0&&(1:Int)==1&&(HT.sIx items.size items.size hi - HT.sIx items.size 0 lo)==items.size)=true:=by
  rw[hw.1,hw.2];simp
 show wpAny _ _ (if (((HT.sIx items.size 0 lo:Nat):Int)==0&&(1:Int)==1&&(HT.sIx items.size items.size hi - HT.sIx items.size 0 lo)==items.size)=true then _ else _) _ _ s
 rw[if_pos hyes]
 unfold Builtin.Tuple.tupleIsExact
 refine Yb (Yb (W3 ht.typeIs (Yg ?_)))
 rw[if_pos 1e4]
 refine Yb (wpAny_rule ?_)
 exact Yb (Yg (Yg ⟨_,rfl,Yg h⟩))
end
def rSlTW (K:W.Frag):V->Option Int->Option Int->Hp->VK->Prop:=fun x lo hi H Q=>∃a xs,x=.ref a/\SqT K H a xs/\(HT.sIx xs.length 0 lo=0/\HT.sIx xs.length xs.length hi=xs.length)/\Q (.ref a) H
def tMO (K:W.Frag)(f:PSt->M (Option Int)):TO:=fun σ H Q=>∃ι ρ C r C',SR K ι H ρ σ C/\f ρ C=some (r,C')/\∀H',Fr ι H H'->CR K ι H' C'->Q r H'
def OM (X:Cx)(e:Option Expr)(f:PSt->M (Option Int)):Prop:=PO X e (tMO X.K f)
def oNo:PSt->M (Option Int):=fun _=>ret none
def intD (C:Cs)(x:SV):Option (Option Int):=match deref C x with
 | some (.int i)=>some (some i)
 | _=>none
def oPart (f:4e2):PSt->M (Option Int):=fun ρ=>bnd (f ρ) fun x=>opM fun C=>intD C x
def cutP (xs:List PV)(lo hi:Option Int):List PV:=(xs.drop (HT.sIx xs.length 0 lo)).take (HT.sIx xs.length xs.length hi - HT.sIx xs.length 0 lo)
def sliceP (lo hi:Option Int):PV->Option PV
 | .lst xs=>some (.lst (cutP xs lo hi))
 | .tup xs=>some (.tup (cutP xs lo hi))
 | _=>none
def sliceD (C:Cs)(x:SV)(lo hi:Option Int):Option SV:=match deref C x with
 | some p=>(sliceP lo hi p).map .v
 | none=>none
def mSlice (f:4e2)(l h:PSt->M (Option Int)):PSt->M SV:=fun ρ=>bnd (f ρ) fun x=>bnd (l ρ) fun lo=>bnd (h ρ) fun hi=>opM fun C=>sliceD C x lo hi
theorem reps_cut {K:W.Frag}{ι:3e8}{H:Hp}{ps:List PV}{vs:List V}(r:Reps K ι H ps vs)(lo hi:Option Int):Reps K ι H (cutP ps lo hi) (cutV vs lo hi):=by
 unfold cutP cutV
 rw[r.length]
 exact (r.drop _).take _
theorem sliceD_some {C:Cs}{x z:SV}{lo hi:Option Int}(h:sliceD C x lo hi=some z):(∃xs,deref C x=some (.lst xs)/\z=.v (.lst (cutP xs lo hi)))\/∃xs,deref C x=some (.tup xs)/\z=.v (.tup (cutP xs lo hi)):=by
 unfold sliceD at h
 split at h
 ·rename_i p hd
  cases p with
  | lst xs=>cases h;exact .inl ⟨xs,hd,rfl⟩
  | tup xs=>cases h;exact .inr ⟨xs,hd,rfl⟩
  | _=>cases h
 ·cases h
section
variable {X:Cx}{a b e c o i:Expr}{es:6e4}{fa fb fc fo fi fv:4e2}{fs:2e9}{pos p apos cpos p2:Pos}{x:Str}{lo hi:Option Expr}{l h:PSt->M (Option Int)}
theorem PO.imp {e:Option Expr}{t t':TO}(h:PO X e t)(k:∀σ H Q,t' σ H Q->t σ H Q):PO X e t':=fun pins s σ H Q I q=>h pins s σ H Q I (k σ H Q q)
theorem sl_tupW:SlR X (rSlTW X.K):=by
 intro pins s σ H x v vl vu lo hi sl Q I rx hs pl pu h
 obtain ⟨a,xs,rfl,hx,hw,q⟩:=h
 cases rx
 obtain ⟨its,r,ht,hz⟩:=I.tuple hx
 have hlen:its.toArray.size=xs.length:=by rw[Yf];exact r.length.symm
 exact ⟨"tuple",_,Y3.lookup,ht.typeIs,ZbX ht hs pl pu (by rw[hlen];exact hw) ⟨.ref a,H,I,rfl,q⟩⟩
theorem cut_whole {xs:List PV}{lo hi:Option Int}(h:HT.sIx xs.length 0 lo=0/\HT.sIx xs.length xs.length hi=xs.length):cutP xs lo hi=xs:=by
 unfold cutP;rw[h.1,h.2];simp
def Mtok (K:W.Frag)(r:13e8)(h:PV->List PV->Option PV):Prop:=
 ∀(ι:3e8) (H:Hp) (C:Cs) (q:PV) (v:V) (ps:List PV) (vs:List V) (z:PV) (Q:VK),CR K ι H C->Lies K ι H q v->LiesAll K ι H ps vs->h q ps=some z->(∀v H',Fr ι H H'->CR K ι H' C->Rep K ι H' z v->Q v H')->r v vs H Q
noncomputable def tyP (T:String):PV->Bool
 | .str _=>T=="str"
 | .int _=>T=="int"
 | .lst _=>T=="list"
 | .dct _ _=>T=="dict"
 | .dtt _ _=>T=="dict"
 | _=>false
def isTy (T:String)(x:SV):M Unit:=fun C=>match deref C x with
 | some q=>if tyP T q then some ((),C) else none
 | none=>none
def mtD (h:PV->List PV->Option PV)(C:Cs)(x:SV)(xs:List SV):Option SV:=match deref C x,derefs C xs with
 | some q,some ps=>(h q ps).map .v
 | _,_=>none
def mMt (T:String)(h:PV->List PV->Option PV)(fo:4e2)(fs:2e9):PSt->M SV:=fun ρ=>bnd (fo ρ) fun x=>bnd (isTy T x) fun _=>bnd (fs ρ) fun xs=>opM fun C=>mtD h C x xs
def tyW (K:W.Frag)(T:String)(x:V)(H:Hp):Prop:=tyV K T x H\/(T="dict"/\∃a,x=.ref a/\∃kvs,Rd H a (.dT kvs))
noncomputable def tBW (K:W.Frag)(T:String)(r:13e8)(to:TE)(t:TA):TE:=fun σ H Q=>to σ H fun x H1=>tyW K T x H1/\t σ H1 fun xs H2=>r x xs H2 Q
theorem pe_bw {to:TE}{t:TA}{name:Str}{T id:String}{r:13e8}(pa:PlainAttrs T)(slot:Slot T name id)(hty:typeOf (.builtin id)=pure (.type "method_descriptor"))(hm:MtR X id r)(ho:PE X o to)(ha:PA X 6e5 t)
  (hbase:XF o name X.env (eval o X.env)=eval o X.env:=by rfl)
  (hfew:((backTo cpos (Yi 6e5 X.env)).all (fun x=>!x.1)&&(V2 cpos (WY [] X.env)).all (fun x=>x.1.isSome)
   &&decide ((e::es).length + ([]:List WZ).length + (if ([]:List WZ).isEmpty then 0 else 1) < 30))=true:=by rfl)
  (hline:12e2:=by rfl) (hs:1e5:=by rfl) (hplain:(backTo cpos (Yi es X.env)).any (·.1)=false:=by rfl):
  PE X (.Call (.Attribute o name apos) 6e5 [] cpos) (tBW X.K T r to t):=by
 sleep 8
 refine wpAny_Call_method_late hbase hfew hline rfl (thn (ho pins s σ H _ I h) fun v s1 h_=>?_)
 obtain ⟨x,H1,I1,r1,ty,q1⟩:=h_
 obtain ⟨h1,h2⟩:s1.TypeIs v T/\∀a,v=.ref a->∃ob,s1.heap.get? a=some ob/\ob.dict=none:=by
  rcases ty with ty | ⟨rfl,a,rfl,kvs,hd⟩
  ·exact tyV_is I1 r1 ty
  ·cases r1
   obtain ⟨z1,z2,_⟩:=isD_at I1 (.inr ⟨kvs,hd⟩)
   exact ⟨z1,z2⟩
 refine ⟨T,id,pa,slot,hty,h1,h2,?_⟩
 have hA:=ha cpos pins s1 σ H1 _ I1 q1
 rw[hs] at hA ⊢
 refine Wg (by show (false||(backTo cpos (Yi es X.env)).any (·.1))=false;rw[hplain]<;>rfl) (Calls.evalArgs_plain ?_)
 exact thn hA fun us s2 ⟨vs,H2,I2,r2,q2⟩=>hm pins s2 σ H2 x vs v us Q I2 r1 r2 q2
theorem lies_ty {K:W.Frag}{ι:3e8}{H:Hp}{T:String}{q:PV}{v:V}(l:Lies K ι H q v)(h:tyP T q=true):tyW K T v H:=by
 cases l with
 | str y hy=>exact .inl (eq_of_beq (by simpa[tyP] using h))
 | int y=>exact .inl (eq_of_beq (by simpa[tyP] using h))
 | lst h1 r=>exact .inl (.inl ⟨eq_of_beq (by simpa[tyP] using h),_,h1⟩)
 | dct h1 hl r=>exact .inl (.inr (.inr (.inl ⟨eq_of_beq (by simpa[tyP] using h),.inl ⟨_,h1⟩⟩)))
 | dtt h1 hl r=>exact .inr ⟨eq_of_beq (by simpa[tyP] using h),_,rfl,_,h1⟩
 | _=>cases h
theorem em_mt {T id:String}{name:Str}{r:13e8}{h:PV->List PV->Option PV}(pa:PlainAttrs T)(slot:Slot T name id)(hty:typeOf (.builtin id)=pure (.type "method_descriptor"))(hm:MtR X id r)(hk:Mtok X.K r h)
  (ho:EM X o fo) (ha:AM X 6e5 fs) (hbase:XF o name X.env (eval o X.env)=eval o X.env:=by rfl)
  (hfew:((backTo cpos (Yi 6e5 X.env)).all (fun x=>!x.1)&&(V2 cpos (WY [] X.env)).all (fun x=>x.1.isSome)
   &&decide ((e::es).length + ([]:List WZ).length + (if ([]:List WZ).isEmpty then 0 else 1) < 30))=true:=by rfl)
  (hline:12e2:=by rfl) (hs:1e5:=by rfl) (hplain:(backTo cpos (Yi es X.env)).any (·.1)=false:=by rfl):
  EM X (.Call (.Attribute o name apos) 6e5 [] cpos) (mMt T h fo fs):=
 PE.imp (pe_bw pa slot hty hm ho ha hbase hfew hline hs hplain) fun σ H Q h_=>by
  sleep 7
  obtain ⟨x,C1,e1,g1⟩:=Zah e
  obtain ⟨u,C2,e2,g2⟩:=Zah g1
  obtain ⟨xs,C3,e3,g3⟩:=Zah g2
  obtain ⟨e4,hC⟩:=ZaK g3
  subst hC
  clear e g1 g2 g3
  refine ⟨ι,ρ,C,x,C1,sr,e1,fun v H1 f1 c1 r1=>?_⟩
  unfold isTy at e2
  split at e2
  ·rename_i q0 hd0
   split at e2
   ·rename_i ht
    cases e2
    refine ⟨lies_ty (r1.lies c1 hd0) ht,ι,ρ,_,xs,_,sr.step f1 c1,e3,fun vs H2 f2 c2 r2=>?_⟩
    unfold mtD at e4
    split at e4
    ·rename_i q1 ps hd1 hds
     cases hz:h q1 ps with
     | none=>rw[hz] at e4;cases e4
     | some z1=>
      rw[hz] at e4;cases e4
      exact hk ι H2 _ q1 v ps vs z1 Q c2 ((r1.mono c1 f2).lies c2 hd1) (ZbY c2 r2 hds) hz fun v' H3 f3 c3 r3=>q v' H3 (f1.trans (f2.trans f3)) c3 r3
    ·cases e4
   ·cases e2
  ·cases e2
end
section
variable {X:Cx}{a b e c o i:Expr}{es:6e4}{fa fb fc fo fi fv:4e2}{fs:2e9}{pos p apos cpos p2:Pos}{x:Str}
noncomputable def strsP:List PV->Option (List Str)
 | []=>some []
 | .str b::r=>(strsP r).map (b::·)
 | _::_=>none
def joinH:PV->List PV->Option PV
 | .str z,[.lst xs]=>match strsP xs with
  | some ys=>if (ys.map (·.length)).sum + ys.length * z.length<=1000000 then some (.str (Txt.join z ys)) else none
  | none=>none
 | _,_=>none
noncomputable def keyP:PV->Option Key
 | .int i=>some (.inl i)
 | .str z=>some (.inr z)
 | _=>none
theorem keyP_kP (k:Key):keyP (kP k)=some k:=by cases k<;>rfl
def lookP:List PV->List PV->Key->Option PV
 | k::ks,v::vs,q=>if keyP k=some q then some v else lookP ks vs q
 | _,_,_=>none
theorem look_rep {K:W.Frag}{ι:3e8}{H:Hp}{q:Key}:∀{qs:9e2} {ps:List PV} {vs:List V},qs.length=vs.length->Reps K ι H ps vs->
  (∀z,lookP (qs.map kP) ps q=some z->∃v,valV (qs.zip vs) q=some v/\Rep K ι H z v)/\(lookP (qs.map kP) ps q=none->valV (qs.zip vs) q=none)
 | [],ps,vs,hl,r=>by
  refine ⟨fun z h=>?_,fun _=>rfl⟩
  cases ps<;>cases h
 | k::qs,[],vs,hl,r=>by rw[r.inv0] at hl;cases hl
 | k::qs,p::ps,vs,hl,r=>by
  obtain ⟨v,w,rfl,h1,h2⟩:=r.inv
  have ih:=look_rep (q:=q) (qs:=qs) (ps:=ps) (vs:=w) (by simpa using hl) h2
  rw[Yu,YU]
  unfold lookP
  rw[keyP_kP]
  by_cases h:k=q
  ·subst h
   rw[if_pos rfl,Zb0 (p:=(k,v)) rfl]
   exact ⟨fun z e=>by cases e;exact ⟨v,rfl,h1⟩,fun e=>nomatch e⟩
  ·rw[if_neg (fun e=>h (YC e)),ZbH (p:=(k,v)) h]
   exact ih
theorem lies_key {K:W.Frag}{ι:3e8}{H:Hp}{x:PV}{v:V}{q:Key}(l:Lies K ι H x v)(h:keyP x=some q):v=kV q:=by
 cases l<;>first | (cases h;rfl) | cases h
theorem liesD {K:W.Frag}{ι:3e8}{H:Hp}{ks ps:List PV}{v:V}(l:Lies K ι H (.dct ks ps) v):∃(a:Addr) (qs:9e2) (vs:List V),v=.ref a/\ks=qs.map kP/\H a=some (.dK (qs.zip vs))/\qs.length=vs.length/\Reps K ι H ps vs:=by
 cases l;exact ⟨_,_,_,rfl,rfl,by assumption,by assumption,by assumption⟩
noncomputable def rDGet:R2:=fun x y H Q=>∃a v,x=.ref a/\DGet H a y (some v)/\Q v H
theorem ix_dict (hu:X.A.units + 1 < cLine):IxR X rDGet:=by
 intro value slice pins s σ H x y v u Q I rx ry h hs
 obtain ⟨a,w,rfl,g,q⟩:=h
 cases rx
 exact tail_any (dict_typeIs I g) PySem.F.slot_dict_getitem.lookup (d_getItem hu I g ry fun w' s' I' r'=>⟨w,H,I',r',q⟩) hs
def ixQ (x y:PV):Option PV:=match x with
 | .dct ks vs=>match keyP y with
  | some q=>lookP ks vs q
  | none=>none
 | x=>ixP x y
theorem ixQ_ok:L2ok X.K (fun x y H Q=>rIx X.K x y H Q\/rDGet x y H Q) ixQ:=by
 sleep 9
 unfold ixQ at e
 split at e
 ·rename_i ks vs
  split at e
  ·rename_i key hk
   obtain ⟨a,qs,ws,rfl,rfl,hd,hl,r⟩:=liesD lx
   obtain ⟨v,hv,rv⟩:=(look_rep hl r).1 z e
   rw[lies_key ly hk]
   exact .inr ⟨a,v,rfl,by rw[←hv];exact DGet.k hd,k v H .refl cr rv⟩
  ·cases e
 ·exact .inl (ix_ok ι H C p q vx vy z Q cr lx ly e k)
theorem track {pins:2e1}{σ:St}{H:Hp}{s:Shared}{d:Addr}{ob:HO}(I:2e4)(hn:H d=none)(hd:X.s₀.heap.objs.size<=d)(hL:d≠X.env.locals)(hc:∀x c,X.env.cells.lookup x=some c->c≠d)
  (hp:∀p∈X.pn++pins,p.1≠d) (new:ObjOk X.prog X.w (upd H d ob) s.heap d ob):Inv X pins σ (upd H d ob) s:=by
 have u:=I.base
 refine ⟨I.ok,I.os,I.bare,⟨u.keep,u.slot,fun b o e q hx=>?_,u.there,fun b xs e=>?_,fun b o xs e=>?_,fun b ps e=>?_⟩,I.loc,I.cell,?_,fun x c e=>?_,fun p hp'=>?_,fun b o e=>?_,I.len⟩
 ·rw[Zaw (Yn (Yr (Yp e) hd))];exact u.free b o e q hx
 ·rw[Zaw (Zap (u.tups b xs e) hn)];exact u.tups b xs e
 ·rw[Zaw (Zap (u.frzs b o xs e) hn)];exact u.frzs b o xs e
 ·obtain ⟨more,q⟩:=u.tbls b ps e
  exact ⟨more,by rw[Zaw (Zap q hn)];exact q⟩
 ·rw[Zaw (Xi hL)];exact I.free
 ·rw[Zaw (hc x c e)];exact I.freeC x c e
 ·obtain ⟨h1,h2,h3⟩:=I.pin p hp'
  exact ⟨h1,by rw[Zaw (hp p hp')];exact h2,h3⟩
 ·by_cases hb:b=d
  ·subst hb
   rw[ZaM] at e;cases e;exact new
  ·rw[Zaw hb] at e
   exact (I.hok b o e).stay (fun _ _ _ q=>q) (fun c q=>by rw[Zaw (Zap q hn)];exact q) fun c xs q=>by rw[Zaw (Zap q hn)];exact q
def PRel:List Str->List V->List (Value×Value)->Prop
 | [],[],[]=>True
 | k::ks,v::vs,(u,w)::r=>keyIs (.inr k) u=true/\RelV v w/\PRel ks vs r
 | _,_,_=>False
def DP (X:Cx)(ks:List (Option Expr))(es:6e4)(keys:6e2)(t:TA):Prop:=
 ∀(pos:Pos) (pins:2e1) (s:Shared) (σ:St) (H:Hp) (Q:List V->Hp->Prop),Inv X pins σ H s->t σ H Q->
  wpAny 2e8 X.A (evalPairs (pairTrees ks es X.env pos)) (fun us s'=>∃vs H',Inv X pins σ H' s'/\PRel keys vs us/\Q vs H') X.xe s
def DM (X:Cx)(ks:List (Option Expr))(es:6e4)(keys:6e2)(f:2e9):Prop:=DP X ks es keys (tMA X.K f)
def mDict (keys:6e2)(fs:2e9):PSt->M SV:=fun ρ=>bnd (fs ρ) fun xs=>opM fun _=>(plain xs).map fun ps=>.v (.dct (keys.map PV.str) ps)
end
section
variable {X:Cx}{a b e c o i:Expr}{es:6e4}{fa fb fc fo fi fv:4e2}{fs:2e9}{pos p apos cpos p2:Pos}{x:Str}{d:Addr}{tab:List (Str×Addr)}
def mDict0:PSt->M SV:=fun _=>ret (.v (.dct [] []))
end
inductive ZS where
 | l (a:Addr) | t (a:Addr) | s (z:Str) (tk:Tok) (wd:Bool)
section
variable {X:Cx}{pins:2e1}{σ:St}{H:Hp}{s:Shared}
theorem turnedL {t':Nat}{h':Heap}{ch:3e8}(I:2e4)(k:∀b o,b∉ch->s.heap.get? b=some o->h'.get? b=some o)(hf:∀b∈ch,FpOk X pins H b):Inv X pins σ H { s with heap:=h',toks:=t' }:=by
 have nit:∀b u,H b=some u->b∉ch:=fun b u e z=>by rw[(hf b z).1] at e;cases e
 refine I.step (g':=s.gens) (d':=s.drawn) (ch:=ch) (fun b hb=>⟨(hf b hb).2.2.2.1,(hf b hb).2.1,(hf b hb).2.2.2.2.1,(hf b hb).2.2.2.2.2⟩) (fun b o _ _ hc e _=>k b o hc e) (fun b o _ _ hc e _=>⟨o.slots,k b o hc e⟩) (fun _ _ _ _ n=>n)
  (fun b o hc e=>⟨o,k b o hc e⟩) (fun _ _ e=>e) (fun _ _ _ e=>e) (fun b ps e=>⟨#[],by rw[e];simp⟩) (fun m hm=>?_) (fun b u e=>?_) I.bare
 ·obtain ⟨o,es,ep,ho,r⟩:=hm
  exact ⟨o,es,ep,k _ o (fun z=>(hf _ z).2.1 rfl) ho,r⟩
 ·refine (I.hok b u e).stay (fun c v hc q=>k c v ?_ q) (fun _ q=>q) fun _ _ q=>q
  rcases hc with z | z
  ·rw[z];exact nit b u e
  ·exact nit c _ z
end
mutual
noncomputable def HRep (h:Heap):PV->Value->Prop
 | .non,u=>u=.none
 | .bl b,u=>u=.bool b
 | .int i,u=>∃t,u=.int i t
 | .str x,u=>∃t,u=.str x t
 | .tup ps,u=>∃(a:Addr) (us:3e9),u=.ref a/\h.IsTuple a us.toArray/\HReps h ps us
 | .lst ps,u=>∃(a:Addr) (us:3e9),u=.ref a/\h.IsList a us.toArray/\HReps h ps us
 | _,_=>False
noncomputable def HReps (h:Heap):List PV->List Value->Prop
 | [],us=>us=[]
 | p::ps,us=>∃v r,us=v::r/\HRep h p v/\HReps h ps r
end
mutual
noncomputable def dat:PV->Bool
 | .tup ps=>dats ps
 | .lst ps=>dats ps
 | .dct _ _=>false
 | .dtt _ _=>false
 | .fn _=>false
 | .ty _=>false
 | _=>true
noncomputable def dats:List PV->Bool
 | []=>true
 | p::ps=>dat p&&dats ps
end
mutual
noncomputable def dep:PV->Nat
 | .tup ps=>deps ps + 1
 | .lst ps=>deps ps + 1
 | _=>0
noncomputable def deps:List PV->Nat
 | []=>0
 | p::ps=>max (dep p) (deps ps)
end
mutual
theorem Rep.heap {X:Cx}{pins:2e1}{σ:St}{H:Hp}{s:Shared}{ι:3e8}(I:2e4):∀(p:PV) {v:V} {u:Value},Rep X.K ι H p v->RelV v u->dat p=true->HRep s.heap p u
 | .non,v,u,h,r,_=>by unfold Rep at h;subst h;unfold HRep;exact r
 | .bl b,v,u,h,r,_=>by unfold Rep at h;subst h;unfold HRep;exact r
 | .int i,v,u,h,r,_=>by unfold Rep at h;subst h;unfold HRep;exact r
 | .str x,v,u,h,r,_=>by unfold Rep at h;obtain ⟨rfl,h⟩:=h;unfold HRep;exact r
 | .tup ps,v,u,h,r,d=>by
  unfold Rep at h;obtain ⟨a,vs,rfl,h,rs⟩:=h
  cases r
  obtain ⟨its,r',pl,hz⟩:=I.tuple h.sq
  unfold HRep
  unfold dat at d
  exact ⟨a,its,rfl,pl,Reps.heap I ps rs r' d⟩
 | .lst ps,v,u,h,r,d=>by
  unfold Rep at h;obtain ⟨a,vs,rfl,h,rs⟩:=h
  cases r
  obtain ⟨its,r',pl,hz⟩:=I.list h.sq
  unfold HRep
  unfold dat at d
  exact ⟨a,its,rfl,pl.isList,Reps.heap I ps rs r' d⟩
 | .dct ks ps,v,u,h,r,d=>by unfold dat at d;cases d
 | .dtt ks ps,v,u,h,r,d=>by unfold dat at d;cases d
 | .fn a,v,u,h,r,d=>by unfold dat at d;cases d
 | .ty n,v,u,h,r,d=>by unfold dat at d;cases d
theorem Reps.heap {X:Cx}{pins:2e1}{σ:St}{H:Hp}{s:Shared}{ι:3e8}(I:2e4):∀(ps:List PV) {vs:List V} {us:3e9},Reps X.K ι H ps vs->Vals vs us->dats ps=true->HReps s.heap ps us
 | [],vs,us,h,r,_=>by unfold Reps at h;subst h;cases r;unfold HReps;rfl
 | p::ps,vs,us,h,r,d=>by
  unfold Reps at h;obtain ⟨v,w,rfl,h1,h2⟩:=h
  cases r with
  | cons r1 r2=>
   unfold dats at d
   rw[Yt] at d
   unfold HReps
   exact ⟨_,_,rfl,Rep.heap I p h1 r1 d.1,Reps.heap I ps h2 r2 d.2⟩
end
theorem Lies.heap {X:Cx}{pins:2e1}{σ:St}{H:Hp}{s:Shared}{ι:3e8}(I:2e4){p:PV}{v:V}{u:Value}(l:Lies X.K ι H p v)(r:RelV v u)(d:dat p=true):HRep s.heap p u:=by
 cases l with
 | non=>unfold HRep;exact r
 | bl b=>unfold HRep;exact r
 | int i=>unfold HRep;exact r
 | str x h=>unfold HRep;exact r
 | tup h rs=>
  cases r
  obtain ⟨its,r',pl,hz⟩:=I.tuple h.sq
  unfold HRep
  unfold dat at d
  exact ⟨_,its,rfl,pl,Reps.heap I _ rs r' d⟩
 | lst h rs=>
  cases r
  obtain ⟨its,r',pl,hz⟩:=I.list h
  unfold HRep
  unfold dat at d
  exact ⟨_,its,rfl,pl.isList,Reps.heap I _ rs r' d⟩
 | dct h hl rs=>unfold dat at d;cases d
 | dtt h hl rs=>unfold dat at d;cases d
 | fn a=>unfold dat at d;cases d
 | ty n=>unfold dat at d;cases d
mutual
noncomputable def eqD:PV->PV->Bool
 | .non,.non=>true
 | .bl a,.bl b=>a==b
 | .bl a,.int b=>(if a then 1 else 0)==b
 | .int a,.bl b=>a==(if b then 1 else 0)
 | .int a,.int b=>a==b
 | .str a,.str b=>a==b
 | .tup xs,.tup ys=>eqDs xs ys
 | .lst xs,.lst ys=>eqDs xs ys
 | _,_=>false
noncomputable def eqDs:List PV->List PV->Bool
 | [],[]=>true
 | x::xs,y::ys=>eqD x y&&eqDs xs ys
 | _,_=>false
end
theorem Zc0 {h:Heap}{a:Addr}{us vs:3e9}(h1:h.IsTuple a us.toArray)(h2:h.IsTuple a vs.toArray):us=vs:=by
 obtain ⟨o,e,_,n,d⟩:=h1
 obtain ⟨o',e',_,n',d'⟩:=h2
 rw[e] at e';cases e'
 rw[d] at d';injection d' with d1 _
 simpa using d1
theorem Zdr {h:Heap}{a:Addr}{us vs:3e9}(h1:h.IsList a us.toArray)(h2:h.IsList a vs.toArray):us=vs:=by
 obtain ⟨o,e,_,n,d⟩:=h1
 obtain ⟨o',e',_,n',d'⟩:=h2
 rw[e] at e';cases e'
 rw[d] at d';injection d' with d1 _
 simpa using d1
theorem ZcB {h:Heap}{a:Addr}{us vs:3e9}(h1:h.IsTuple a us.toArray)(h2:h.IsList a vs.toArray):False:=by
 obtain ⟨o,e,c,_⟩:=h1
 obtain ⟨o',e',c',_⟩:=h2
 rw[e] at e';cases e'
 rw[c] at c';injection c' with c';exact absurd c' (by decide)
mutual
theorem HRep.same {h:Heap}:∀(p:PV) {q:PV} {u:Value},HRep h p u->HRep h q u->eqD p q=true
 | .non,q,u,a,b=>by
  unfold HRep at a;subst a
  cases q<;>unfold HRep at b<;>first | rfl | (cases b;done) | (obtain ⟨_,e⟩:=b;cases e;done) | (obtain ⟨_,_,e,_⟩:=b;cases e;done) | exact b.elim
 | .bl x,q,u,a,b=>by
  unfold HRep at a;subst a
  cases q<;>unfold HRep at b<;>first | (cases b;done) | (cases b;unfold eqD;exact beq_self_eq_true _) | (obtain ⟨_,e⟩:=b;cases e;done) | (obtain ⟨_,_,e,_⟩:=b;cases e;done) | exact b.elim
 | .int x,q,u,a,b=>by
  unfold HRep at a;obtain ⟨t,rfl⟩:=a
  cases q<;>unfold HRep at b<;>first | (cases b;done) | (obtain ⟨_,e⟩:=b;cases e;done) | (obtain ⟨_,e⟩:=b;cases e;unfold eqD;exact beq_self_eq_true _) | (obtain ⟨_,_,e,_⟩:=b;cases e;done) | exact b.elim
 | .str x,q,u,a,b=>by
  unfold HRep at a;obtain ⟨t,rfl⟩:=a
  cases q<;>unfold HRep at b<;>first | (cases b;done) | (obtain ⟨_,e⟩:=b;cases e;done) | (obtain ⟨_,e⟩:=b;cases e;unfold eqD;exact beq_self_eq_true _) | (obtain ⟨_,_,e,_⟩:=b;cases e;done) | exact b.elim
 | .tup ps,q,u,a,b=>by
  unfold HRep at a;obtain ⟨l,us,rfl,h1,r1⟩:=a
  cases q with
  | tup qs=>
   unfold HRep at b;obtain ⟨l',vs,e,h2,r2⟩:=b
   cases e
   cases Zc0 h1 h2
   unfold eqD
   exact HReps.same ps r1 r2
  | lst qs=>unfold HRep at b;obtain ⟨l',vs,e,h2,r2⟩:=b;cases e;exact (ZcB h1 h2).elim
  | _=>unfold HRep at b;first | (cases b;done) | (obtain ⟨_,e⟩:=b;cases e;done) | exact b.elim
 | .lst ps,q,u,a,b=>by
  unfold HRep at a;obtain ⟨l,us,rfl,h1,r1⟩:=a
  cases q with
  | lst qs=>
   unfold HRep at b;obtain ⟨l',vs,e,h2,r2⟩:=b
   cases e
   cases Zdr h1 h2
   unfold eqD
   exact HReps.same ps r1 r2
  | tup qs=>unfold HRep at b;obtain ⟨l',vs,e,h2,r2⟩:=b;cases e;exact (ZcB h2 h1).elim
  | _=>unfold HRep at b;first | (cases b;done) | (obtain ⟨_,e⟩:=b;cases e;done) | exact b.elim
 | .dct _ _,q,u,a,b=>by unfold HRep at a;exact a.elim
 | .dtt _ _,q,u,a,b=>by unfold HRep at a;exact a.elim
 | .fn _,q,u,a,b=>by unfold HRep at a;exact a.elim
 | .ty _,q,u,a,b=>by unfold HRep at a;exact a.elim
theorem HReps.same {h:Heap}:∀(ps:List PV) {qs:List PV} {us:3e9},HReps h ps us->HReps h qs us->eqDs ps qs=true
 | [],qs,us,a,b=>by
  unfold HReps at a;subst a
  cases qs with
  | nil=>rfl
  | cons q qs=>unfold HReps at b;obtain ⟨_,_,e,_⟩:=b;cases e
 | p::ps,qs,us,a,b=>by
  unfold HReps at a;obtain ⟨v,r,rfl,a1,a2⟩:=a
  cases qs with
  | nil=>unfold HReps at b;cases b
  | cons q qs=>
   unfold HReps at b;obtain ⟨v',r',e,b1,b2⟩:=b
   cases e
   unfold eqDs
   rw[HRep.same p a1 b1,HReps.same ps a2 b2];rfl
end
end Pu
namespace Pu
open PySem PySem.Spec L2 PySem.SeqAt
open PyProof.Rows hiding St Fr
theorem HReps.length {h:Heap}:∀{ps:List PV} {us:3e9},HReps h ps us->ps.length=us.length
 | [],us,a=>by unfold HReps at a;subst a;rfl
 | p::ps,us,a=>by unfold HReps at a;obtain ⟨v,r,rfl,_,b⟩:=a;rw[YG,YG,b.length]
theorem ZbP:∀(ps qs:List PV),(((Yk (min ps.length qs.length)).all fun j=>eqD (ps.getD j .non) (qs.getD j .non))&&ps.length==qs.length)=eqDs ps qs
 | [],[]=>rfl
 | [],_::_=>by unfold eqDs;simp
 | _::_,[]=>by unfold eqDs;simp
 | p::ps,q::qs=>by
  rw[eqDs,←ZbP ps qs,YG,YG,Nat.succ_min_succ,List.range_succ_eq_map,VC,Vt]
  rw[show (ps.length + 1==qs.length + 1)=(ps.length==qs.length) by simp[BEq.beq]]
  rw[Bool.and_assoc]
  rfl
theorem Zc4 {ps qs:List PV}(e:ps.length=qs.length):((Yk ps.length).all fun j=>eqD (ps.getD j .non) (qs.getD j .non))=eqDs ps qs:=by
 have:=ZbP ps qs
 rw[←e,Nat.min_self,beq_self_eq_true,Bool.and_true] at this
 exact this
theorem eqDs_len:∀{ps qs:List PV},ps.length≠qs.length->eqDs ps qs=false
 | [],[],h=>absurd rfl h
 | [],_::_,_=>by unfold eqDs;rfl
 | _::_,[],_=>by unfold eqDs;rfl
 | p::ps,q::qs,h=>by unfold eqDs;rw[eqDs_len fun z=>h (by rw[YG,YG,z]),Bool.and_false]
section
variable {s:Shared}
theorem RcAt.tupD {A:Around}{a b:Addr}{us vs:3e9}{ps qs:List PV}(h1:s.heap.IsTuple a us.toArray)(h2:s.heap.IsTuple b vs.toArray)(l1:ps.length=us.length)(l2:qs.length=vs.length)(hu:4e9)
  (he:∀j (h1:j < us.length) (h2:j < vs.length),EqAt A.in1 s us[j] vs[j] (eqD (ps.getD j .non) (qs.getD j .non))):RcAt A s (.ref a) (.ref b) (eqDs ps qs):=by
 have:=RcAt.tuples h1 h2 hu (e:=fun j=>eqD (ps.getD j .non) (qs.getD j .non)) (fun j z1 z2=>by simpa using he j (by simpa using z1) (by simpa using z2))
 simp only[Yf,←l1,←l2] at this
 rw[ZbP] at this;exact this
theorem RcAt.lstD {A:Around}{a b:Addr}{us vs:3e9}{ps qs:List PV}(h1:s.heap.IsList a us.toArray)(h2:s.heap.IsList b vs.toArray)(l1:ps.length=us.length)(l2:qs.length=vs.length)(hu:4e9)
  (he:∀j (h1:j < us.length) (h2:j < vs.length),EqAt A.in1 s us[j] vs[j] (eqD (ps.getD j .non) (qs.getD j .non))):RcAt A s (.ref a) (.ref b) (eqDs ps qs):=by
 by_cases e:us.length=vs.length
 ·have:=RcAt.lists h1 h2 (by simpa using e) hu (e:=fun j=>eqD (ps.getD j .non) (qs.getD j .non)) (fun j z1 z2=>by simpa using he j (by simpa using z1) (by simpa using z2))
  simp only[Yf,←l1] at this
  rw[Zc4 1e3] at this;exact this
 ·have:=RcAt.lists_lengths h1 h2 (by simpa using e) hu
  rw[eqDs_len 1e3];exact this
theorem RcNeAt.tupD {A:Around}{a b:Addr}{us vs:3e9}{ps qs:List PV}(h1:s.heap.IsTuple a us.toArray)(h2:s.heap.IsTuple b vs.toArray)(l1:ps.length=us.length)(l2:qs.length=vs.length)(hu:4e9)
  (he:∀j (h1:j < us.length) (h2:j < vs.length),EqAt A.in1 s us[j] vs[j] (eqD (ps.getD j .non) (qs.getD j .non))):RcNeAt A s (.ref a) (.ref b) (!eqDs ps qs):=by
 have:=RcNeAt.tuples h1 h2 hu (e:=fun j=>eqD (ps.getD j .non) (qs.getD j .non)) (fun j z1 z2=>by simpa using he j (by simpa using z1) (by simpa using z2))
 simp only[Yf,←l1,←l2] at this
 rw[ZbP] at this;exact this
theorem RcNeAt.lstD {A:Around}{a b:Addr}{us vs:3e9}{ps qs:List PV}(h1:s.heap.IsList a us.toArray)(h2:s.heap.IsList b vs.toArray)(l1:ps.length=us.length)(l2:qs.length=vs.length)(hu:4e9)
  (he:∀j (h1:j < us.length) (h2:j < vs.length),EqAt A.in1 s us[j] vs[j] (eqD (ps.getD j .non) (qs.getD j .non))):RcNeAt A s (.ref a) (.ref b) (!eqDs ps qs):=by
 by_cases e:us.length=vs.length
 ·have:=RcNeAt.lists h1 h2 (by simpa using e) hu (e:=fun j=>eqD (ps.getD j .non) (qs.getD j .non)) (fun j z1 z2=>by simpa using he j (by simpa using z1) (by simpa using z2))
  simp only[Yf,←l1] at this
  rw[Zc4 1e3] at this;exact this
 ·have:=RcNeAt.lists_lengths h1 h2 (by simpa using e) hu
  rw[eqDs_len 1e3];exact this
end
section
variable {s:Shared}
theorem EqAt.x_non {q:PV}{u v:Value}{A:Around}(a:HRep s.heap .non u)(b:HRep s.heap q v)(hu':4e9):EqAt A s u v (eqD .non q):=by
 unfold HRep at a;subst a
 cases q<;>unfold HRep at b
 ·unfold eqD;subst b;exact EqAt.same _
 ·unfold eqD;subst b;exact EqAt.none_bool _
 ·unfold eqD;obtain ⟨_,rfl⟩:=b;exact EqAt.none_int _ _
 ·unfold eqD;obtain ⟨_,rfl⟩:=b;exact EqAt.none_str _ _
 ·unfold eqD;obtain ⟨_,_,rfl,h_b,_⟩:=b;exact EqAt.none_tuple h_b hu'
 ·unfold eqD;obtain ⟨_,_,rfl,h_b,_⟩:=b;exact EqAt.none_list h_b hu'
 ·exact b.elim
 ·exact b.elim
 ·exact b.elim
 ·exact b.elim
theorem EqAt.x_bl {x:Bool}{q:PV}{u v:Value}{A:Around}(a:HRep s.heap (.bl x) u)(b:HRep s.heap q v)(hu':4e9):EqAt A s u v (eqD (.bl x) q):=by
 unfold HRep at a;subst a
 cases q<;>unfold HRep at b
 ·unfold eqD;subst b;exact EqAt.bool_none _
 ·unfold eqD;subst b;exact EqAt.bool_bool _ _
 ·unfold eqD;obtain ⟨_,rfl⟩:=b;exact EqAt.bool_int _ _ _
 ·unfold eqD;obtain ⟨_,rfl⟩:=b;exact EqAt.bool_str _ _ _
 ·unfold eqD;obtain ⟨_,_,rfl,h_b,_⟩:=b;exact EqAt.bool_tuple _ h_b hu'
 ·unfold eqD;obtain ⟨_,_,rfl,h_b,_⟩:=b;exact EqAt.bool_list _ h_b hu'
 ·exact b.elim
 ·exact b.elim
 ·exact b.elim
 ·exact b.elim
theorem EqAt.x_int {x:Int}{q:PV}{u v:Value}{A:Around}(a:HRep s.heap (.int x) u)(b:HRep s.heap q v)(hu':4e9):EqAt A s u v (eqD (.int x) q):=by
 unfold HRep at a;obtain ⟨_,rfl⟩:=a
 cases q<;>unfold HRep at b
 ·unfold eqD;subst b;exact EqAt.int_none _ _
 ·unfold eqD;subst b;exact EqAt.int_bool _ _ _
 ·unfold eqD;obtain ⟨_,rfl⟩:=b;exact EqAt.int_int _ _ _ _
 ·unfold eqD;obtain ⟨_,rfl⟩:=b;exact EqAt.int_str _ _ _ _
 ·unfold eqD;obtain ⟨_,_,rfl,h_b,_⟩:=b;exact EqAt.int_tuple _ _ h_b hu'
 ·unfold eqD;obtain ⟨_,_,rfl,h_b,_⟩:=b;exact EqAt.int_list _ _ h_b hu'
 ·exact b.elim
 ·exact b.elim
 ·exact b.elim
 ·exact b.elim
theorem EqAt.x_str {x:Str}{q:PV}{u v:Value}{A:Around}(a:HRep s.heap (.str x) u)(b:HRep s.heap q v)(hu':4e9):EqAt A s u v (eqD (.str x) q):=by
 unfold HRep at a;obtain ⟨_,rfl⟩:=a
 cases q<;>unfold HRep at b
 ·unfold eqD;subst b;exact EqAt.str_none _ _
 ·unfold eqD;subst b;exact EqAt.str_bool _ _ _
 ·unfold eqD;obtain ⟨_,rfl⟩:=b;exact EqAt.str_int _ _ _ _
 ·unfold eqD;obtain ⟨_,rfl⟩:=b;exact EqAt.str_str _ _ _ _
 ·unfold eqD;obtain ⟨_,_,rfl,h_b,_⟩:=b;exact EqAt.str_tuple _ _ h_b hu'
 ·unfold eqD;obtain ⟨_,_,rfl,h_b,_⟩:=b;exact EqAt.str_list _ _ h_b hu'
 ·exact b.elim
 ·exact b.elim
 ·exact b.elim
 ·exact b.elim
theorem EqAt.x_tup_non {ps:List PV}{u v:Value}{A:Around}(a:13e0)(b:HRep s.heap .non v)(hu':4e9):EqAt A s u v (eqD 9e0 .non):=by
 unfold HRep at a b;unfold eqD;obtain ⟨_,_,rfl,h_a,_⟩:=a;subst b;exact EqAt.tuple_none h_a hu'
theorem EqAt.x_tup_bl {x:Bool}{ps:List PV}{u v:Value}{A:Around}(a:13e0)(b:HRep s.heap (.bl x) v)(hu':4e9):EqAt A s u v (eqD 9e0 (.bl x)):=by
 unfold HRep at a b;unfold eqD;obtain ⟨_,_,rfl,h_a,_⟩:=a;subst b;exact EqAt.tuple_bool _ h_a hu'
theorem EqAt.x_tup_int {x:Int}{ps:List PV}{u v:Value}{A:Around}(a:13e0)(b:HRep s.heap (.int x) v)(hu':4e9):EqAt A s u v (eqD 9e0 (.int x)):=by
 unfold HRep at a b;unfold eqD;obtain ⟨_,_,rfl,h_a,_⟩:=a;obtain ⟨_,rfl⟩:=b;exact EqAt.tuple_int _ _ h_a hu'
theorem EqAt.x_tup_str {x:Str}{ps:List PV}{u v:Value}{A:Around}(a:13e0)(b:HRep s.heap (.str x) v)(hu':4e9):EqAt A s u v (eqD 9e0 (.str x)):=by
 unfold HRep at a b;unfold eqD;obtain ⟨_,_,rfl,h_a,_⟩:=a;obtain ⟨_,rfl⟩:=b;exact EqAt.tuple_str _ _ h_a hu'
theorem EqAt.x_tup_lst {x:List PV}{ps:List PV}{u v:Value}{A:Around}(a:13e0)(b:HRep s.heap (.lst x) v)(hu':4e9):EqAt A s u v (eqD 9e0 (.lst x)):=by
 unfold HRep at a b;unfold eqD;obtain ⟨_,_,rfl,h_a,_⟩:=a;obtain ⟨_,_,rfl,h_b,_⟩:=b;exact EqAt.tuple_list h_a h_b hu'
theorem EqAt.x_lst_non {ps:List PV}{u v:Value}{A:Around}(a:12e9)(b:HRep s.heap .non v)(hu':4e9):EqAt A s u v (eqD 8e1 .non):=by
 unfold HRep at a b;unfold eqD;obtain ⟨_,_,rfl,h_a,_⟩:=a;subst b;exact EqAt.list_none h_a hu'
theorem EqAt.x_lst_bl {x:Bool}{ps:List PV}{u v:Value}{A:Around}(a:12e9)(b:HRep s.heap (.bl x) v)(hu':4e9):EqAt A s u v (eqD 8e1 (.bl x)):=by
 unfold HRep at a b;unfold eqD;obtain ⟨_,_,rfl,h_a,_⟩:=a;subst b;exact EqAt.list_bool _ h_a hu'
theorem EqAt.x_lst_int {x:Int}{ps:List PV}{u v:Value}{A:Around}(a:12e9)(b:HRep s.heap (.int x) v)(hu':4e9):EqAt A s u v (eqD 8e1 (.int x)):=by
 unfold HRep at a b;unfold eqD;obtain ⟨_,_,rfl,h_a,_⟩:=a;obtain ⟨_,rfl⟩:=b;exact EqAt.list_int _ _ h_a hu'
theorem EqAt.x_lst_str {x:Str}{ps:List PV}{u v:Value}{A:Around}(a:12e9)(b:HRep s.heap (.str x) v)(hu':4e9):EqAt A s u v (eqD 8e1 (.str x)):=by
 unfold HRep at a b;unfold eqD;obtain ⟨_,_,rfl,h_a,_⟩:=a;obtain ⟨_,rfl⟩:=b;exact EqAt.list_str _ _ h_a hu'
theorem EqAt.x_lst_tup {x:List PV}{ps:List PV}{u v:Value}{A:Around}(a:12e9)(b:HRep s.heap (.tup x) v)(hu':4e9):EqAt A s u v (eqD 8e1 (.tup x)):=by
 unfold HRep at a b;unfold eqD;obtain ⟨_,_,rfl,h_a,_⟩:=a;obtain ⟨_,_,rfl,h_b,_⟩:=b;exact EqAt.list_tuple h_a h_b hu'
theorem RcAt.x_non {q:PV}{u v:Value}{A:Around}(a:HRep s.heap .non u)(b:HRep s.heap q v)(hu':4e9):RcAt A s u v (eqD .non q):=by
 unfold HRep at a;subst a
 cases q<;>unfold HRep at b
 ·unfold eqD;subst b;exact RcAt.none_none
 ·unfold eqD;subst b;exact RcAt.none_bool _
 ·unfold eqD;obtain ⟨_,rfl⟩:=b;exact RcAt.none_int _ _
 ·unfold eqD;obtain ⟨_,rfl⟩:=b;exact RcAt.none_str _ _
 ·unfold eqD;obtain ⟨_,_,rfl,h_b,_⟩:=b;exact RcAt.none_tuple h_b hu'
 ·unfold eqD;obtain ⟨_,_,rfl,h_b,_⟩:=b;exact RcAt.none_list h_b hu'
 ·exact b.elim
 ·exact b.elim
 ·exact b.elim
 ·exact b.elim
theorem RcAt.x_bl {x:Bool}{q:PV}{u v:Value}{A:Around}(a:HRep s.heap (.bl x) u)(b:HRep s.heap q v)(hu':4e9):RcAt A s u v (eqD (.bl x) q):=by
 unfold HRep at a;subst a
 cases q<;>unfold HRep at b
 ·unfold eqD;subst b;exact RcAt.bool_none _
 ·unfold eqD;subst b;exact RcAt.bool_bool _ _
 ·unfold eqD;obtain ⟨_,rfl⟩:=b;exact RcAt.bool_int _ _ _
 ·unfold eqD;obtain ⟨_,rfl⟩:=b;exact RcAt.bool_str _ _ _
 ·unfold eqD;obtain ⟨_,_,rfl,h_b,_⟩:=b;exact RcAt.bool_tuple _ h_b hu'
 ·unfold eqD;obtain ⟨_,_,rfl,h_b,_⟩:=b;exact RcAt.bool_list _ h_b hu'
 ·exact b.elim
 ·exact b.elim
 ·exact b.elim
 ·exact b.elim
theorem RcAt.x_int {x:Int}{q:PV}{u v:Value}{A:Around}(a:HRep s.heap (.int x) u)(b:HRep s.heap q v)(hu':4e9):RcAt A s u v (eqD (.int x) q):=by
 unfold HRep at a;obtain ⟨_,rfl⟩:=a
 cases q<;>unfold HRep at b
 ·unfold eqD;subst b;exact RcAt.int_none _ _
 ·unfold eqD;subst b;exact RcAt.int_bool _ _ _
 ·unfold eqD;obtain ⟨_,rfl⟩:=b;exact RcAt.int_int _ _ _ _
 ·unfold eqD;obtain ⟨_,rfl⟩:=b;exact RcAt.int_str _ _ _ _
 ·unfold eqD;obtain ⟨_,_,rfl,h_b,_⟩:=b;exact RcAt.int_tuple _ _ h_b hu'
 ·unfold eqD;obtain ⟨_,_,rfl,h_b,_⟩:=b;exact RcAt.int_list _ _ h_b hu'
 ·exact b.elim
 ·exact b.elim
 ·exact b.elim
 ·exact b.elim
theorem RcAt.x_str {x:Str}{q:PV}{u v:Value}{A:Around}(a:HRep s.heap (.str x) u)(b:HRep s.heap q v)(hu':4e9):RcAt A s u v (eqD (.str x) q):=by
 unfold HRep at a;obtain ⟨_,rfl⟩:=a
 cases q<;>unfold HRep at b
 ·unfold eqD;subst b;exact RcAt.str_none _ _
 ·unfold eqD;subst b;exact RcAt.str_bool _ _ _
 ·unfold eqD;obtain ⟨_,rfl⟩:=b;exact RcAt.str_int _ _ _ _
 ·unfold eqD;obtain ⟨_,rfl⟩:=b;exact RcAt.str_str _ _ _ _
 ·unfold eqD;obtain ⟨_,_,rfl,h_b,_⟩:=b;exact RcAt.str_tuple _ _ h_b hu'
 ·unfold eqD;obtain ⟨_,_,rfl,h_b,_⟩:=b;exact RcAt.str_list _ _ h_b hu'
 ·exact b.elim
 ·exact b.elim
 ·exact b.elim
 ·exact b.elim
theorem RcAt.x_tup_non {ps:List PV}{u v:Value}{A:Around}(a:13e0)(b:HRep s.heap .non v)(hu':4e9):RcAt A s u v (eqD 9e0 .non):=by
 unfold HRep at a b;unfold eqD;obtain ⟨_,_,rfl,h_a,_⟩:=a;subst b;exact RcAt.tuple_none h_a hu'
theorem RcAt.x_tup_bl {x:Bool}{ps:List PV}{u v:Value}{A:Around}(a:13e0)(b:HRep s.heap (.bl x) v)(hu':4e9):RcAt A s u v (eqD 9e0 (.bl x)):=by
 unfold HRep at a b;unfold eqD;obtain ⟨_,_,rfl,h_a,_⟩:=a;subst b;exact RcAt.tuple_bool _ h_a hu'
theorem RcAt.x_tup_int {x:Int}{ps:List PV}{u v:Value}{A:Around}(a:13e0)(b:HRep s.heap (.int x) v)(hu':4e9):RcAt A s u v (eqD 9e0 (.int x)):=by
 unfold HRep at a b;unfold eqD;obtain ⟨_,_,rfl,h_a,_⟩:=a;obtain ⟨_,rfl⟩:=b;exact RcAt.tuple_int _ _ h_a hu'
theorem RcAt.x_tup_str {x:Str}{ps:List PV}{u v:Value}{A:Around}(a:13e0)(b:HRep s.heap (.str x) v)(hu':4e9):RcAt A s u v (eqD 9e0 (.str x)):=by
 unfold HRep at a b;unfold eqD;obtain ⟨_,_,rfl,h_a,_⟩:=a;obtain ⟨_,rfl⟩:=b;exact RcAt.tuple_str _ _ h_a hu'
theorem RcAt.x_tup_lst {x:List PV}{ps:List PV}{u v:Value}{A:Around}(a:13e0)(b:HRep s.heap (.lst x) v)(hu':4e9):RcAt A s u v (eqD 9e0 (.lst x)):=by
 unfold HRep at a b;unfold eqD;obtain ⟨_,_,rfl,h_a,_⟩:=a;obtain ⟨_,_,rfl,h_b,_⟩:=b;exact RcAt.tuple_list h_a h_b hu'
theorem RcAt.x_lst_non {ps:List PV}{u v:Value}{A:Around}(a:12e9)(b:HRep s.heap .non v)(hu':4e9):RcAt A s u v (eqD 8e1 .non):=by
 unfold HRep at a b;unfold eqD;obtain ⟨_,_,rfl,h_a,_⟩:=a;subst b;exact RcAt.list_none h_a hu'
theorem RcAt.x_lst_bl {x:Bool}{ps:List PV}{u v:Value}{A:Around}(a:12e9)(b:HRep s.heap (.bl x) v)(hu':4e9):RcAt A s u v (eqD 8e1 (.bl x)):=by
 unfold HRep at a b;unfold eqD;obtain ⟨_,_,rfl,h_a,_⟩:=a;subst b;exact RcAt.list_bool _ h_a hu'
theorem RcAt.x_lst_int {x:Int}{ps:List PV}{u v:Value}{A:Around}(a:12e9)(b:HRep s.heap (.int x) v)(hu':4e9):RcAt A s u v (eqD 8e1 (.int x)):=by
 unfold HRep at a b;unfold eqD;obtain ⟨_,_,rfl,h_a,_⟩:=a;obtain ⟨_,rfl⟩:=b;exact RcAt.list_int _ _ h_a hu'
theorem RcAt.x_lst_str {x:Str}{ps:List PV}{u v:Value}{A:Around}(a:12e9)(b:HRep s.heap (.str x) v)(hu':4e9):RcAt A s u v (eqD 8e1 (.str x)):=by
 unfold HRep at a b;unfold eqD;obtain ⟨_,_,rfl,h_a,_⟩:=a;obtain ⟨_,rfl⟩:=b;exact RcAt.list_str _ _ h_a hu'
theorem RcAt.x_lst_tup {x:List PV}{ps:List PV}{u v:Value}{A:Around}(a:12e9)(b:HRep s.heap (.tup x) v)(hu':4e9):RcAt A s u v (eqD 8e1 (.tup x)):=by
 unfold HRep at a b;unfold eqD;obtain ⟨_,_,rfl,h_a,_⟩:=a;obtain ⟨_,_,rfl,h_b,_⟩:=b;exact RcAt.list_tuple h_a h_b hu'
theorem RcNeAt.x_non {q:PV}{u v:Value}{A:Around}(a:HRep s.heap .non u)(b:HRep s.heap q v)(hu':4e9):RcNeAt A s u v (!eqD .non q):=by
 unfold HRep at a;subst a
 cases q<;>unfold HRep at b
 ·unfold eqD;subst b;exact RcNeAt.none_none
 ·unfold eqD;subst b;exact RcNeAt.none_bool _
 ·unfold eqD;obtain ⟨_,rfl⟩:=b;exact RcNeAt.none_int _ _
 ·unfold eqD;obtain ⟨_,rfl⟩:=b;exact RcNeAt.none_str _ _
 ·unfold eqD;obtain ⟨_,_,rfl,h_b,_⟩:=b;exact RcNeAt.none_tuple h_b hu'
 ·unfold eqD;obtain ⟨_,_,rfl,h_b,_⟩:=b;exact RcNeAt.none_list h_b hu'
 ·exact b.elim
 ·exact b.elim
 ·exact b.elim
 ·exact b.elim
theorem RcNeAt.x_bl {x:Bool}{q:PV}{u v:Value}{A:Around}(a:HRep s.heap (.bl x) u)(b:HRep s.heap q v)(hu':4e9):RcNeAt A s u v (!eqD (.bl x) q):=by
 unfold HRep at a;subst a
 cases q<;>unfold HRep at b
 ·unfold eqD;subst b;exact RcNeAt.bool_none _
 ·unfold eqD;subst b;exact RcNeAt.bool_bool _ _
 ·unfold eqD;obtain ⟨_,rfl⟩:=b;exact RcNeAt.bool_int _ _ _
 ·unfold eqD;obtain ⟨_,rfl⟩:=b;exact RcNeAt.bool_str _ _ _
 ·unfold eqD;obtain ⟨_,_,rfl,h_b,_⟩:=b;exact RcNeAt.bool_tuple _ h_b hu'
 ·unfold eqD;obtain ⟨_,_,rfl,h_b,_⟩:=b;exact RcNeAt.bool_list _ h_b hu'
 ·exact b.elim
 ·exact b.elim
 ·exact b.elim
 ·exact b.elim
theorem RcNeAt.x_int {x:Int}{q:PV}{u v:Value}{A:Around}(a:HRep s.heap (.int x) u)(b:HRep s.heap q v)(hu':4e9):RcNeAt A s u v (!eqD (.int x) q):=by
 unfold HRep at a;obtain ⟨_,rfl⟩:=a
 cases q<;>unfold HRep at b
 ·unfold eqD;subst b;exact RcNeAt.int_none _ _
 ·unfold eqD;subst b;exact RcNeAt.int_bool _ _ _
 ·unfold eqD;obtain ⟨_,rfl⟩:=b;exact RcNeAt.int_int _ _ _ _
 ·unfold eqD;obtain ⟨_,rfl⟩:=b;exact RcNeAt.int_str _ _ _ _
 ·unfold eqD;obtain ⟨_,_,rfl,h_b,_⟩:=b;exact RcNeAt.int_tuple _ _ h_b hu'
 ·unfold eqD;obtain ⟨_,_,rfl,h_b,_⟩:=b;exact RcNeAt.int_list _ _ h_b hu'
 ·exact b.elim
 ·exact b.elim
 ·exact b.elim
 ·exact b.elim
theorem RcNeAt.x_str {x:Str}{q:PV}{u v:Value}{A:Around}(a:HRep s.heap (.str x) u)(b:HRep s.heap q v)(hu':4e9):RcNeAt A s u v (!eqD (.str x) q):=by
 unfold HRep at a;obtain ⟨_,rfl⟩:=a
 cases q<;>unfold HRep at b
 ·unfold eqD;subst b;exact RcNeAt.str_none _ _
 ·unfold eqD;subst b;exact RcNeAt.str_bool _ _ _
 ·unfold eqD;obtain ⟨_,rfl⟩:=b;exact RcNeAt.str_int _ _ _ _
 ·unfold eqD;obtain ⟨_,rfl⟩:=b;exact RcNeAt.str_str _ _ _ _
 ·unfold eqD;obtain ⟨_,_,rfl,h_b,_⟩:=b;exact RcNeAt.str_tuple _ _ h_b hu'
 ·unfold eqD;obtain ⟨_,_,rfl,h_b,_⟩:=b;exact RcNeAt.str_list _ _ h_b hu'
 ·exact b.elim
 ·exact b.elim
 ·exact b.elim
 ·exact b.elim
theorem RcNeAt.x_tup_non {ps:List PV}{u v:Value}{A:Around}(a:13e0)(b:HRep s.heap .non v)(hu':4e9):RcNeAt A s u v (!eqD 9e0 .non):=by
 unfold HRep at a b;unfold eqD;obtain ⟨_,_,rfl,h_a,_⟩:=a;subst b;exact RcNeAt.tuple_none h_a hu'
theorem RcNeAt.x_tup_bl {x:Bool}{ps:List PV}{u v:Value}{A:Around}(a:13e0)(b:HRep s.heap (.bl x) v)(hu':4e9):RcNeAt A s u v (!eqD 9e0 (.bl x)):=by
 unfold HRep at a b;unfold eqD;obtain ⟨_,_,rfl,h_a,_⟩:=a;subst b;exact RcNeAt.tuple_bool _ h_a hu'
theorem RcNeAt.x_tup_int {x:Int}{ps:List PV}{u v:Value}{A:Around}(a:13e0)(b:HRep s.heap (.int x) v)(hu':4e9):RcNeAt A s u v (!eqD 9e0 (.int x)):=by
 unfold HRep at a b;unfold eqD;obtain ⟨_,_,rfl,h_a,_⟩:=a;obtain ⟨_,rfl⟩:=b;exact RcNeAt.tuple_int _ _ h_a hu'
theorem RcNeAt.x_tup_str {x:Str}{ps:List PV}{u v:Value}{A:Around}(a:13e0)(b:HRep s.heap (.str x) v)(hu':4e9):RcNeAt A s u v (!eqD 9e0 (.str x)):=by
 unfold HRep at a b;unfold eqD;obtain ⟨_,_,rfl,h_a,_⟩:=a;obtain ⟨_,rfl⟩:=b;exact RcNeAt.tuple_str _ _ h_a hu'
theorem RcNeAt.x_tup_lst {x:List PV}{ps:List PV}{u v:Value}{A:Around}(a:13e0)(b:HRep s.heap (.lst x) v)(hu':4e9):RcNeAt A s u v (!eqD 9e0 (.lst x)):=by
 unfold HRep at a b;unfold eqD;obtain ⟨_,_,rfl,h_a,_⟩:=a;obtain ⟨_,_,rfl,h_b,_⟩:=b;exact RcNeAt.tuple_list h_a h_b hu'
theorem RcNeAt.x_lst_non {ps:List PV}{u v:Value}{A:Around}(a:12e9)(b:HRep s.heap .non v)(hu':4e9):RcNeAt A s u v (!eqD 8e1 .non):=by
 unfold HRep at a b;unfold eqD;obtain ⟨_,_,rfl,h_a,_⟩:=a;subst b;exact RcNeAt.list_none h_a hu'
theorem RcNeAt.x_lst_bl {x:Bool}{ps:List PV}{u v:Value}{A:Around}(a:12e9)(b:HRep s.heap (.bl x) v)(hu':4e9):RcNeAt A s u v (!eqD 8e1 (.bl x)):=by
 unfold HRep at a b;unfold eqD;obtain ⟨_,_,rfl,h_a,_⟩:=a;subst b;exact RcNeAt.list_bool _ h_a hu'
theorem RcNeAt.x_lst_int {x:Int}{ps:List PV}{u v:Value}{A:Around}(a:12e9)(b:HRep s.heap (.int x) v)(hu':4e9):RcNeAt A s u v (!eqD 8e1 (.int x)):=by
 unfold HRep at a b;unfold eqD;obtain ⟨_,_,rfl,h_a,_⟩:=a;obtain ⟨_,rfl⟩:=b;exact RcNeAt.list_int _ _ h_a hu'
theorem RcNeAt.x_lst_str {x:Str}{ps:List PV}{u v:Value}{A:Around}(a:12e9)(b:HRep s.heap (.str x) v)(hu':4e9):RcNeAt A s u v (!eqD 8e1 (.str x)):=by
 unfold HRep at a b;unfold eqD;obtain ⟨_,_,rfl,h_a,_⟩:=a;obtain ⟨_,rfl⟩:=b;exact RcNeAt.list_str _ _ h_a hu'
theorem RcNeAt.x_lst_tup {x:List PV}{ps:List PV}{u v:Value}{A:Around}(a:12e9)(b:HRep s.heap (.tup x) v)(hu':4e9):RcNeAt A s u v (!eqD 8e1 (.tup x)):=by
 unfold HRep at a b;unfold eqD;obtain ⟨_,_,rfl,h_a,_⟩:=a;obtain ⟨_,_,rfl,h_b,_⟩:=b;exact RcNeAt.list_tuple h_a h_b hu'
mutual
theorem HRep.eqAt:∀(p:PV) {q:PV} {u v:Value} {A:Around},HRep s.heap p u->HRep s.heap q v->A.units + dep p < cLine->EqAt A s u v (eqD p q)
 | .non,q,u,v,A,a,b,hu=>EqAt.x_non a b 1e3
 | .bl x,q,u,v,A,a,b,hu=>EqAt.x_bl a b 1e3
 | .int x,q,u,v,A,a,b,hu=>EqAt.x_int a b 1e3
 | .str x,q,u,v,A,a,b,hu=>EqAt.x_str a b 1e3
 | .tup ps,q,u,v,A,a,b,hu=>by
  have hu':A.units < cLine:=by lia
  cases q with
  | non=>exact EqAt.x_tup_non a b hu'
  | bl x=>exact EqAt.x_tup_bl a b hu'
  | int x=>exact EqAt.x_tup_int a b hu'
  | str x=>exact EqAt.x_tup_str a b hu'
  | lst x=>exact EqAt.x_tup_lst a b hu'
  | tup qs=>
   sleep 6
   by_cases e:l=l'
   ·subst e
    rw[HRep.same _ a0 b0]
    exact EqAt.same _
   ·unfold eqD
    exact .of_refs e (RcAt.tupD h1 h2 r1.length r2.length hu' (HReps.eqAt ps r1 r2 (by rw[YD];lia)))
  | dct _ _=>unfold HRep at b;exact b.elim
  | dtt _ _=>unfold HRep at b;exact b.elim
  | fn _=>unfold HRep at b;exact b.elim
  | ty _=>unfold HRep at b;exact b.elim
 | .lst ps,q,u,v,A,a,b,hu=>by
  have hu':A.units < cLine:=by lia
  cases q with
  | non=>exact EqAt.x_lst_non a b hu'
  | bl x=>exact EqAt.x_lst_bl a b hu'
  | int x=>exact EqAt.x_lst_int a b hu'
  | str x=>exact EqAt.x_lst_str a b hu'
  | tup x=>exact EqAt.x_lst_tup a b hu'
  | lst qs=>
   sleep 6
   by_cases e:l=l'
   ·subst e
    rw[HRep.same _ a0 b0]
    exact EqAt.same _
   ·unfold eqD
    exact .of_refs e (RcAt.lstD h1 h2 r1.length r2.length hu' (HReps.eqAt ps r1 r2 (by rw[YD];lia)))
  | dct _ _=>unfold HRep at b;exact b.elim
  | dtt _ _=>unfold HRep at b;exact b.elim
  | fn _=>unfold HRep at b;exact b.elim
  | ty _=>unfold HRep at b;exact b.elim
 | .dct _ _,q,u,v,A,a,b,hu=>by unfold HRep at a;exact a.elim
 | .dtt _ _,q,u,v,A,a,b,hu=>by unfold HRep at a;exact a.elim
 | .fn _,q,u,v,A,a,b,hu=>by unfold HRep at a;exact a.elim
 | .ty _,q,u,v,A,a,b,hu=>by unfold HRep at a;exact a.elim
theorem HReps.eqAt:∀(ps:List PV) {qs:List PV} {us vs:3e9} {A:Around},HReps s.heap ps us->HReps s.heap qs vs->A.units + deps ps < cLine->
  ∀j (h1:j < us.length) (h2:j < vs.length),EqAt A s us[j] vs[j] (eqD (ps.getD j .non) (qs.getD j .non))
 | [],qs,us,vs,A,a,b,hu=>fun j h1 _=>by unfold HReps at a;subst a;cases h1
 | p::ps,qs,us,vs,A,a,b,hu=>fun j h1 h2=>by
  unfold HReps at a;obtain ⟨v,r,rfl,a1,a2⟩:=a
  unfold deps at hu
  cases qs with
  | nil=>unfold HReps at b;subst b;cases h2
  | cons q qs=>
   unfold HReps at b;obtain ⟨v',r',rfl,b1,b2⟩:=b
   cases j with
   | zero=>exact HRep.eqAt p a1 b1 1e3
   | succ j=>simpa using HReps.eqAt ps a2 b2 1e3 j (by simpa using h1) (by simpa using h2)
end
theorem HRep.rcAt:∀(p:PV) {q:PV} {u v:Value} {A:Around},HRep s.heap p u->HRep s.heap q v->A.units + dep p < cLine->RcAt A s u v (eqD p q)
 | .non,q,u,v,A,a,b,hu=>RcAt.x_non a b 1e3
 | .bl x,q,u,v,A,a,b,hu=>RcAt.x_bl a b 1e3
 | .int x,q,u,v,A,a,b,hu=>RcAt.x_int a b 1e3
 | .str x,q,u,v,A,a,b,hu=>RcAt.x_str a b 1e3
 | .tup ps,q,u,v,A,a,b,hu=>by
  have hu':A.units < cLine:=by lia
  cases q with
  | non=>exact RcAt.x_tup_non a b hu'
  | bl x=>exact RcAt.x_tup_bl a b hu'
  | int x=>exact RcAt.x_tup_int a b hu'
  | str x=>exact RcAt.x_tup_str a b hu'
  | lst x=>exact RcAt.x_tup_lst a b hu'
  | tup qs=>
   sleep 6
   unfold eqD
   exact RcAt.tupD h1 h2 r1.length r2.length hu' (HReps.eqAt ps r1 r2 (by rw[YD];lia))
  | dct _ _=>unfold HRep at b;exact b.elim
  | dtt _ _=>unfold HRep at b;exact b.elim
  | fn _=>unfold HRep at b;exact b.elim
  | ty _=>unfold HRep at b;exact b.elim
 | .lst ps,q,u,v,A,a,b,hu=>by
  have hu':A.units < cLine:=by lia
  cases q with
  | non=>exact RcAt.x_lst_non a b hu'
  | bl x=>exact RcAt.x_lst_bl a b hu'
  | int x=>exact RcAt.x_lst_int a b hu'
  | str x=>exact RcAt.x_lst_str a b hu'
  | tup x=>exact RcAt.x_lst_tup a b hu'
  | lst qs=>
   sleep 6
   unfold eqD
   exact RcAt.lstD h1 h2 r1.length r2.length hu' (HReps.eqAt ps r1 r2 (by rw[YD];lia))
  | dct _ _=>unfold HRep at b;exact b.elim
  | dtt _ _=>unfold HRep at b;exact b.elim
  | fn _=>unfold HRep at b;exact b.elim
  | ty _=>unfold HRep at b;exact b.elim
 | .dct _ _,q,u,v,A,a,b,hu=>by unfold HRep at a;exact a.elim
 | .dtt _ _,q,u,v,A,a,b,hu=>by unfold HRep at a;exact a.elim
 | .fn _,q,u,v,A,a,b,hu=>by unfold HRep at a;exact a.elim
 | .ty _,q,u,v,A,a,b,hu=>by unfold HRep at a;exact a.elim
theorem HRep.rcNeAt:∀(p:PV) {q:PV} {u v:Value} {A:Around},HRep s.heap p u->HRep s.heap q v->A.units + dep p < cLine->RcNeAt A s u v (!eqD p q)
 | .non,q,u,v,A,a,b,hu=>RcNeAt.x_non a b 1e3
 | .bl x,q,u,v,A,a,b,hu=>RcNeAt.x_bl a b 1e3
 | .int x,q,u,v,A,a,b,hu=>RcNeAt.x_int a b 1e3
 | .str x,q,u,v,A,a,b,hu=>RcNeAt.x_str a b 1e3
 | .tup ps,q,u,v,A,a,b,hu=>by
  have hu':A.units < cLine:=by lia
  cases q with
  | non=>exact RcNeAt.x_tup_non a b hu'
  | bl x=>exact RcNeAt.x_tup_bl a b hu'
  | int x=>exact RcNeAt.x_tup_int a b hu'
  | str x=>exact RcNeAt.x_tup_str a b hu'
  | lst x=>exact RcNeAt.x_tup_lst a b hu'
  | tup qs=>
   sleep 6
   unfold eqD
   exact RcNeAt.tupD h1 h2 r1.length r2.length hu' (HReps.eqAt ps r1 r2 (by rw[YD];lia))
  | dct _ _=>unfold HRep at b;exact b.elim
  | dtt _ _=>unfold HRep at b;exact b.elim
  | fn _=>unfold HRep at b;exact b.elim
  | ty _=>unfold HRep at b;exact b.elim
 | .lst ps,q,u,v,A,a,b,hu=>by
  have hu':A.units < cLine:=by lia
  cases q with
  | non=>exact RcNeAt.x_lst_non a b hu'
  | bl x=>exact RcNeAt.x_lst_bl a b hu'
  | int x=>exact RcNeAt.x_lst_int a b hu'
  | str x=>exact RcNeAt.x_lst_str a b hu'
  | tup x=>exact RcNeAt.x_lst_tup a b hu'
  | lst qs=>
   sleep 6
   unfold eqD
   exact RcNeAt.lstD h1 h2 r1.length r2.length hu' (HReps.eqAt ps r1 r2 (by rw[YD];lia))
  | dct _ _=>unfold HRep at b;exact b.elim
  | dtt _ _=>unfold HRep at b;exact b.elim
  | fn _=>unfold HRep at b;exact b.elim
  | ty _=>unfold HRep at b;exact b.elim
 | .dct _ _,q,u,v,A,a,b,hu=>by unfold HRep at a;exact a.elim
 | .dtt _ _,q,u,v,A,a,b,hu=>by unfold HRep at a;exact a.elim
 | .fn _,q,u,v,A,a,b,hu=>by unfold HRep at a;exact a.elim
 | .ty _,q,u,v,A,a,b,hu=>by unfold HRep at a;exact a.elim
end
section
variable {X:Cx}
abbrev rDeep (K:W.Frag)(g:PV->PV->Bool):R2:=fun x y H Q=>∃ι p q,Lies K ι H p x/\Lies K ι H q y/\dat p=true/\dat q=true/\dep p<=60/\Q (.bl (g p q)) H
theorem Zb7 (hu:6e7):OpR X (Xz .Eq) (rDeep X.K eqD):=by
 sleep 4
 obtain ⟨ι,p,q,lx,ly,dp,dq,de,k⟩:=h
 exact HRep.rcAt p (lx.heap I rx dp) (ly.heap I ry dq) 1e3 X.prog X.w X.xe _ ⟨.bl _,H,I,rfl,k⟩
theorem ZbE (hu:6e7):OpR X (Xz .NotEq) (rDeep X.K fun p q=>!eqD p q):=by
 sleep 4
 obtain ⟨ι,p,q,lx,ly,dp,dq,de,k⟩:=h
 exact HRep.rcNeAt p (lx.heap I rx dp) (ly.heap I ry dq) 1e3 X.prog X.w X.xe _ ⟨.bl _,H,I,rfl,k⟩
def deepP (g:PV->PV->Bool)(p q:PV):Option PV:=if dat p&&dat q&&decide (dep p<=60) then some (.bl (g p q)) else none
theorem ZaQ {g:PV->PV->Bool}:L2ok X.K (rDeep X.K g) (deepP g):=by
 sleep 9
 unfold deepP at e
 split at e
 ·rename_i h
  cases e
  simp only[Yt,decide_eq_true_eq] at h
  exact ⟨ι,p,q,lx,ly,h.1.1,h.1.2,h.2,k _ H .refl cr repBl⟩
 ·cases e
theorem hu64 {A:Around}{k:Nat}(hr:Room k A):A.units + 64 < cLine:=hr.units
end
mutual
theorem HRep.inj {h:Heap}:∀(p:PV) {q:PV} {u:Value},HRep h p u->HRep h q u->p=q
 | .non,q,u,a,b=>by
  unfold HRep at a;subst a
  cases q<;>unfold HRep at b<;>first | rfl | (cases b;done) | (obtain ⟨_,e⟩:=b;cases e;done) | (obtain ⟨_,_,e,_⟩:=b;cases e;done) | exact b.elim
 | .bl x,q,u,a,b=>by
  unfold HRep at a;subst a
  cases q<;>unfold HRep at b<;>first | (cases b;done) | (cases b;rfl) | (obtain ⟨_,e⟩:=b;cases e;done) | (obtain ⟨_,_,e,_⟩:=b;cases e;done) | exact b.elim
 | .int x,q,u,a,b=>by
  unfold HRep at a;obtain ⟨t,rfl⟩:=a
  cases q<;>unfold HRep at b<;>first | (cases b;done) | (obtain ⟨_,e⟩:=b;cases e;done) | (obtain ⟨_,e⟩:=b;cases e;rfl) | (obtain ⟨_,_,e,_⟩:=b;cases e;done) | exact b.elim
 | .str x,q,u,a,b=>by
  unfold HRep at a;obtain ⟨t,rfl⟩:=a
  cases q<;>unfold HRep at b<;>first | (cases b;done) | (obtain ⟨_,e⟩:=b;cases e;done) | (obtain ⟨_,e⟩:=b;cases e;rfl) | (obtain ⟨_,_,e,_⟩:=b;cases e;done) | exact b.elim
 | .tup ps,q,u,a,b=>by
  unfold HRep at a;obtain ⟨l,us,rfl,h1,r1⟩:=a
  cases q with
  | tup qs=>
   unfold HRep at b;obtain ⟨l',vs,e,h2,r2⟩:=b
   cases e
   cases Zc0 h1 h2
   rw[HReps.inj ps r1 r2]
  | lst qs=>unfold HRep at b;obtain ⟨l',vs,e,h2,r2⟩:=b;cases e;exact (ZcB h1 h2).elim
  | _=>unfold HRep at b;first | (cases b;done) | (obtain ⟨_,e⟩:=b;cases e;done) | exact b.elim
 | .lst ps,q,u,a,b=>by
  unfold HRep at a;obtain ⟨l,us,rfl,h1,r1⟩:=a
  cases q with
  | lst qs=>
   unfold HRep at b;obtain ⟨l',vs,e,h2,r2⟩:=b
   cases e
   cases Zdr h1 h2
   rw[HReps.inj ps r1 r2]
  | tup qs=>unfold HRep at b;obtain ⟨l',vs,e,h2,r2⟩:=b;cases e;exact (ZcB h2 h1).elim
  | _=>unfold HRep at b;first | (cases b;done) | (obtain ⟨_,e⟩:=b;cases e;done) | exact b.elim
 | .dct _ _,q,u,a,b=>by unfold HRep at a;exact a.elim
 | .dtt _ _,q,u,a,b=>by unfold HRep at a;exact a.elim
 | .fn _,q,u,a,b=>by unfold HRep at a;exact a.elim
 | .ty _,q,u,a,b=>by unfold HRep at a;exact a.elim
theorem HReps.inj {h:Heap}:∀(ps:List PV) {qs:List PV} {us:3e9},HReps h ps us->HReps h qs us->ps=qs
 | [],qs,us,a,b=>by
  unfold HReps at a;subst a
  cases qs with
  | nil=>rfl
  | cons q qs=>unfold HReps at b;obtain ⟨_,_,e,_⟩:=b;cases e
 | p::ps,qs,us,a,b=>by
  unfold HReps at a;obtain ⟨v,r,rfl,a1,a2⟩:=a
  cases qs with
  | nil=>unfold HReps at b;cases b
  | cons q qs=>
   unfold HReps at b;obtain ⟨v',r',e,b1,b2⟩:=b
   cases e
   rw[HRep.inj p a1 b1,HReps.inj ps a2 b2]
end
open Classical in
def eqH (h:Heap)(q:PV)(u:Value):Bool:=decide (∃p,HRep h p u/\eqD p q=true)
open Classical in
theorem eqH_of {h:Heap}{p q:PV}{u:Value}(a:HRep h p u):eqH h q u=eqD p q:=by
 unfold eqH
 cases e:eqD p q with
 | true=>exact decide_eq_true ⟨p,a,e⟩
 | false=>exact decide_eq_false fun h_=>by obtain ⟨p',a',e'⟩:=h_;rw[HRep.inj p a a',e'] at e;cases e
theorem Zdd {h:Heap}{q:PV}:∀{ps:List PV} {us:3e9},HReps h ps us->us.any (eqH h q)=ps.any fun p=>eqD p q
 | [],us,a=>by unfold HReps at a;subst a;rfl
 | p::ps,us,a=>by
  unfold HReps at a;obtain ⟨v,r,rfl,a1,a2⟩:=a
  rw[Xs,Xs,eqH_of a1,Zdd a2]
theorem Zcp {A:Around}{s:Shared}{q:PV}{v:Value}(b:HRep s.heap q v):∀{ps:List PV} {us:3e9},HReps s.heap ps us->A.units + deps ps < cLine->∀u∈us,EqAt A s u v (eqH s.heap q u)
 | [],us,a,_,u,hu=>by unfold HReps at a;subst a;cases hu
 | p::ps,us,a,hz,u,hu=>by
  unfold HReps at a;obtain ⟨w,r,rfl,a1,a2⟩:=a
  unfold deps at hz
  rcases Ys.mp hu with rfl | hu
  ·rw[eqH_of a1];exact HRep.eqAt p a1 b 1e3
  ·exact Zcp b a2 1e3 u hu
def inDP (neg:Bool)(x y:PV):Option PV:=match y with
 | .tup ps=>if dats ps&&dat x&&decide (deps ps<=50) then some (.bl (if neg then !ps.any (fun p=>eqD p x) else ps.any fun p=>eqD p x)) else none
 | .lst ps=>if dats ps&&dat x&&decide (deps ps<=50) then some (.bl (if neg then !ps.any (fun p=>eqD p x) else ps.any fun p=>eqD p x)) else none
 | _=>none
section
variable {X:Cx}
def rInD (K:W.Frag)(neg:Bool):R2:=fun x y H Q=>∃ι q ps p vs,Lies K ι H q x/\dat q=true/\y=.ref p/\(SqL K H p vs\/SqT K H p vs)/\Reps K ι H ps vs/\dats ps=true/\deps ps<=50/\Q (.bl (if neg then !ps.any (fun p=>eqD p q) else ps.any fun p=>eqD p q)) H
theorem op_inD (hu:6e7):OpR X (Xz .In) (rInD X.K false):=by
 sleep 4
 obtain ⟨ι,q,ps,p,vs,lx,dq,rfl,hq,rs,ds,de,k⟩:=h
 cases ry
 have hx:=lx.heap I rx dq
 rcases hq with hq | hq
 ·obtain ⟨its,r,pl,hz⟩:=I.list hq
  have hr:=Reps.heap I ps rs r ds
  refine SeqAt.in_listAt (eqH s.heap q) pl.isList (fun w hw=>Zcp hx hr (by rw[YD];lia) w (by simpa using hw)) ⟨.bl _,H,I,rfl,?_⟩
  rw[show its.toArray.any (eqH s.heap q)=its.any (eqH s.heap q) by simp,Zdd hr]
  exact k
 ·obtain ⟨its,r,pl,hz⟩:=I.tuple hq
  have hr:=Reps.heap I ps rs r ds
  refine SeqAt.in_tupleAt (eqH s.heap q) pl (fun w hw=>Zcp hx hr (by rw[YD];lia) w (by simpa using hw)) ⟨.bl _,H,I,rfl,?_⟩
  rw[show its.toArray.any (eqH s.heap q)=its.any (eqH s.heap q) by simp,Zdd hr]
  exact k
theorem op_notInD (hu:6e7):OpR X (Xz .NotIn) (rInD X.K true):=by
 sleep 4
 obtain ⟨ι,q,ps,p,vs,lx,dq,rfl,hq,rs,ds,de,k⟩:=h
 cases ry
 have hx:=lx.heap I rx dq
 rcases hq with hq | hq
 ·obtain ⟨its,r,pl,hz⟩:=I.list hq
  have hr:=Reps.heap I ps rs r ds
  refine SeqAt.notIn_listAt (eqH s.heap q) pl.isList (fun w hw=>Zcp hx hr (by rw[YD];lia) w (by simpa using hw)) ⟨.bl _,H,I,rfl,?_⟩
  rw[show its.toArray.any (eqH s.heap q)=its.any (eqH s.heap q) by simp,Zdd hr]
  exact k
 ·obtain ⟨its,r,pl,hz⟩:=I.tuple hq
  have hr:=Reps.heap I ps rs r ds
  refine SeqAt.notIn_tupleAt (eqH s.heap q) pl (fun w hw=>Zcp hx hr (by rw[YD];lia) w (by simpa using hw)) ⟨.bl _,H,I,rfl,?_⟩
  rw[show its.toArray.any (eqH s.heap q)=its.any (eqH s.heap q) by simp,Zdd hr]
  exact k
theorem inD_ok {neg:Bool}:L2ok X.K (rInD X.K neg) (inDP neg):=by
 sleep 9
 unfold inDP at e
 split at e
 ·split at e
  ·rename_i h
   cases e
   simp only[Yt,decide_eq_true_eq] at h
   cases ly with
   | tup hs rs=>exact ⟨ι,p,_,_,_,lx,h.1.2,rfl,.inr hs.sq,rs,h.1.1,h.2,k _ H .refl cr repBl⟩
  ·cases e
 ·split at e
  ·rename_i h
   cases e
   simp only[Yt,decide_eq_true_eq] at h
   cases ly with
   | lst hs rs=>exact ⟨ι,p,_,_,_,lx,h.1.2,rfl,.inl hs,rs,h.1.1,h.2,k _ H .refl cr repBl⟩
  ·cases e
 ·cases e
end
mutual
noncomputable def ltD:PV->PV->Option Bool
 | .int a,.int b=>some (decide (a < b))
 | .str a,.str b=>some (decide (a.cps.toList < b.cps.toList))
 | .tup xs,.tup ys=>lexD xs ys
 | _,_=>none
noncomputable def lexD:List PV->List PV->Option Bool
 | [],[]=>some false
 | [],_::_=>some true
 | _::_,[]=>some false
 | x::xs,y::ys=>if eqD x y then lexD xs ys else ltD x y
end
def RcLtAt (A:Around)(s:Shared)(y x:Value)(b:Bool):Prop:=
 ∀(prog:Yx) (w:World) (E:1e7) (Q:1e7),Q (.bool b) s->wpAny 6e1 A (richCompare .Lt y x) Q E s
inductive PairsOk (A:Around)(s:Shared):List PV->List PV->List Value->List Value->Prop
 | nil1 {qs:List PV} {vs:List Value} (h:qs.length=vs.length):PairsOk A s [] qs [] vs
 | nil2 {ps:List PV} {us:List Value} (h:ps.length=us.length):PairsOk A s ps [] us []
 | cons {p q:PV} {u v:Value} {ps qs:List PV} {us vs:List Value} (e:EqAt A s u v (eqD p q)) (l:∀c,ltD p q=some c->RcLtAt A s u v c) (t:PairsOk A s ps qs us vs):PairsOk A s (p::ps) (q::qs) (u::us) (v::vs)
section
open PySem.AutoSeq1 (wpAny_loadPart')
open PySem.MeetsSeq PySem.MeetsSeq2 PySem.MeetsSeq3
theorem lexD_cons (x y:PV)(xs ys:List PV):lexD (x::xs) (y::ys)=if eqD x y then lexD xs ys else ltD x y:=by rw[lexD]
theorem Zbm:lexD [] []=some false:=by rw[lexD]
theorem Zcb (y:PV)(ys:List PV):lexD [] (y::ys)=some true:=by rw[lexD]
theorem Zcc (x:PV)(xs:List PV):lexD (x::xs) []=some false:=by rw[lexD]
theorem tuple_ltD (l b:Addr)(items items2:Array Value)(n n2:Nat)(dd dd2:Option Addr)(sl sl2:Array (Option Value))(ps qs:List PV)(c:Bool)(hc:lexD ps qs=some c):
  Meets (VW.«tuple.__lt__» ⟨[.ref l,.ref b],[]⟩)
   (fun A R s=>s.heap.get? l=some { cls:=.type "tuple",dict:=dd,data:=.seq items n,slots:=sl }/\s.heap.get? b=some { cls:=.type "tuple",dict:=dd2,data:=.seq items2 n2,slots:=sl2 }/\
    PairsOk A.in1 s ps qs items.toList items2.toList/\R (.ok (.ret (.bool c))) s):=
 .of_wp fun prog w A R s h=>by
  obtain ⟨hp,g,d,tk,os⟩:=s;obtain ⟨hl,hb,hpr,h⟩:=h
  have f2:=AutoSeq1.sub_tuple_tuple
  wp_walk using VV hl,VV hb,wpAny_forIn_list _ (fun rest b s'=>b.1=none/\s'=⟨hp,g,d,tk,os⟩/\∃(vs ws:3e9) (ps' qs':List PV),rest=vs.zip ws/\
   PairsOk A.in1 ⟨hp,g,d,tk,os⟩ ps' qs' vs ws/\vs.length + items2.size=ws.length + items.size/\lexD ps' qs'=some c) _
  case turn=>
   rintro ⟨y,x⟩ rest b s' ⟨hb',rfl,vs,ws,ps',qs',hz,hpr',hlen,hR⟩
   cases hpr' with
   | nil1 hh=>rw[List.zip_nil_left] at hz;cases hz
   | nil2 hh=>rw[List.zip_nil_right] at hz;cases hz
   | @cons p q u v ps2 qs2 us2 vs2 e lt t=>
    rw[YU] at hz
    injection hz with hyx hrest
    injection hyx with hy hx
    subst hy hx
    rw[lexD_cons] at hR
    simp only[YG] at hlen
    refine Yb (e prog w _ _ ?_)
    cases ee:eqD p q with
    | true=>
     rw[ee,if_pos rfl] at hR
     wp_walk
     exact ⟨rfl,rfl,_,_,_,_,hrest,t,by lia,hR⟩
    | false=>
     rw[ee,if_neg Yl] at hR
     have hri:=lt c hR prog w
     wp_walk using hri
     exact ⟨_,rfl,by simpa using h⟩
  case fin=>
   rintro ⟨b1,b2⟩ s' ⟨hb',rfl,vs,ws,ps',qs',hz,hpr',hlen,hR⟩
   simp only at hb'
   subst hb'
   have hv:c=decide (items.size < items2.size):=by
    cases hpr' with
    | nil1 hh=>
     cases qs' with
     | nil=>
      rw[Zbm] at hR;cases hR
      simp only[Wp] at hlen hh
      exact (decide_eq_false 1e3).symm
     | cons q qs2=>
      rw[Zcb] at hR;cases hR
      simp only[Wp,YG] at hlen hh
      exact (decide_eq_true 1e3).symm
    | nil2 hh=>
     cases ps' with
     | nil=>
      rw[Zbm] at hR;cases hR
      simp only[Wp] at hlen hh
      exact (decide_eq_false 1e3).symm
     | cons q qs2=>
      rw[Zcc] at hR;cases hR
      simp only[Wp,YG] at hlen hh
      exact (decide_eq_false 1e3).symm
    | cons e lt t=>rw[YU] at hz;cases hz
   rw[hv] at h
   wp_walk
   exact ⟨_,rfl,by simpa[Builtin.Tuple.tupleCompareSizes] using h⟩
  case h=>
   exact ⟨rfl,rfl,items.toList,items2.toList,ps,qs,rfl,hpr,by simp;lia,hc⟩
end
section
variable {s:Shared}
theorem RcLtAt.int (a:Int)(t:Tok)(c:Int)(u:Tok)(A:Around):RcLtAt A s (.int a t) (.int c u) (decide (a < c)):=fun prog w E Q h=>
 (PyProof.Rows.lt_int h:wpAny 6e1 A (Xz .Lt (.int a t) (.int c u)) Q E s)
theorem RcLtAt.str (a:Str)(t:Tok)(c:Str)(u:Tok)(A:Around):RcLtAt A s (.str a t) (.str c u) (decide (a.cps.toList < c.cps.toList)):=fun prog w E Q h=>
 (PyProof.Rows.lt_str h:wpAny 6e1 A (Xz .Lt (.str a t) (.str c u)) Q E s)
theorem RcLtAt.tup {A:Around}{l b:Addr}{us vs:3e9}{ps qs:List PV}{c:Bool}(hl:s.heap.IsTuple l us.toArray)(hb:s.heap.IsTuple b vs.toArray)(hu:4e9)(hp:PairsOk A.in1 s ps qs us vs)(hc:lexD ps qs=some c):
  RcLtAt A s (.ref l) (.ref b) c:=fun prog w E Q h=>by
 obtain ⟨⟨cls,dd,data,sl⟩,ho,hcl,n,hd⟩:=id hl
 obtain ⟨⟨cls2,dd2,data2,sl2⟩,ho2,hcl2,n2,hd2⟩:=id hb
 simp only at hcl hd hcl2 hd2
 subst hcl hd hcl2 hd2
 exact richCompare_meets_room (op:=.Lt) ⟨_,ho,rfl⟩ ⟨_,ho2,rfl⟩ PySem.F.slot_tuple_lt PySem.F.entry_tuple_lt (PySem.F.args_tuple_lt_2 _ _) (tuple_ltD l b us.toArray vs.toArray n n2 dd dd2 sl sl2 ps qs c hc)
  ⟨ho,ho2,hp,show Value.bool c≠Value.notImplemented/\Q (.bool c) s from ⟨(fun x=>nomatch x),h⟩⟩ hu
mutual
theorem HRep.rcLt:∀(p:PV) {q:PV} {u v:Value} {A:Around} {c:Bool},HRep s.heap p u->HRep s.heap q v->A.units + dep p < cLine->ltD p q=some c->RcLtAt A s u v c
 | .int x,q,u,v,A,c,a,b,hu,e=>by
  cases q with
  | int y=>
   unfold HRep at a b;obtain ⟨t,rfl⟩:=a;obtain ⟨t',rfl⟩:=b
   unfold ltD at e;cases e;exact .int _ _ _ _ _
  | _=>unfold ltD at e;cases e
 | .str x,q,u,v,A,c,a,b,hu,e=>by
  cases q with
  | str y=>
   unfold HRep at a b;obtain ⟨t,rfl⟩:=a;obtain ⟨t',rfl⟩:=b
   unfold ltD at e;cases e;exact .str _ _ _ _ _
  | _=>unfold ltD at e;cases e
 | .tup ps,q,u,v,A,c,a,b,hu,e=>by
  cases q with
  | tup qs=>
   unfold HRep at a b;obtain ⟨l,us,rfl,h1,r1⟩:=a;obtain ⟨l',vs,rfl,h2,r2⟩:=b
   unfold ltD at e
   unfold dep at hu
   exact .tup h1 h2 1e3 (HReps.pairs ps r1 r2 (by rw[YD];lia)) e
  | _=>unfold ltD at e;cases e
 | .non,q,u,v,A,c,a,b,hu,e=>by unfold ltD at e;cases e
 | .bl _,q,u,v,A,c,a,b,hu,e=>by unfold ltD at e;cases e
 | .lst _,q,u,v,A,c,a,b,hu,e=>by unfold ltD at e;cases e
 | .dct _ _,q,u,v,A,c,a,b,hu,e=>by unfold ltD at e;cases e
 | .dtt _ _,q,u,v,A,c,a,b,hu,e=>by unfold ltD at e;cases e
 | .fn _,q,u,v,A,c,a,b,hu,e=>by unfold ltD at e;cases e
 | .ty _,q,u,v,A,c,a,b,hu,e=>by unfold ltD at e;cases e
theorem HReps.pairs:∀(ps:List PV) {qs:List PV} {us vs:3e9} {A:Around},HReps s.heap ps us->HReps s.heap qs vs->A.units + deps ps < cLine->PairsOk A s ps qs us vs
 | [],qs,us,vs,A,a,b,hu=>by
  have:=b.length
  unfold HReps at a;subst a
  exact .nil1 this
 | p::ps,qs,us,vs,A,a,b,hu=>by
  cases qs with
  | nil=>
   have:=a.length
   unfold HReps at b;subst b
   exact .nil2 this
  | cons q qs=>
   unfold HReps at a b;obtain ⟨x,r,rfl,a1,a2⟩:=a;obtain ⟨y,r',rfl,b1,b2⟩:=b
   unfold deps at hu
   exact .cons (HRep.eqAt p a1 b1 1e3) (fun c e=>HRep.rcLt p a1 b1 1e3 e) (HReps.pairs ps a2 b2 1e3)
end
end
end Pu
namespace Pu
open PySem PySem.W
open PyProof.Rows hiding St Fr
def runT {α:Type}(o:Nat->Nat->Bool):KasT α->α
 | .ret a=>a
 | .ask i j k=>runT o (k (o i j))
theorem Zbq {α β:Type}(o:Nat->Nat->Bool)(f:α->KasT β):∀t:KasT α,runT o (t.bind f)=runT o (f (runT o t))
 | .ret _=>rfl
 | .ask i j k=>Zbq o f (k (o i j))
structure Wk (lt:Nat->Nat->Bool):Prop where
 irr:∀a,lt a a=false
 asy:∀a b,lt a b=true->lt b a=false
 tr:∀a b c,lt b a=false->lt c b=false->lt c a=false
section
variable {lt:Nat->Nat->Bool}
def Srt (lt:Nat->Nat->Bool)(p:Array Nat)(k:Nat):Prop:=∀i j,i<=j->j < k->lt (p.getD j 0) (p.getD i 0)=false
def Non (lt:Nat->Nat->Bool)(p:Array Nat)(k:Nat):Prop:=∀i j,i<=j->j < k->lt (p.getD i 0) (p.getD j 0)=false
def Eqv (lt:Nat->Nat->Bool)(p:Array Nat)(a b:Nat):Prop:=∀i j,a<=i->i < b->a<=j->j < b->lt (p.getD i 0) (p.getD j 0)=false
theorem ZcD {p:Array Nat}{i j:Nat}(hj:j<=p.size)(k:Nat):(Wh p i j).getD k 0=if i<=k/\k < j then p.getD (i + j - 1 - k) 0 else p.getD k 0:=by
 unfold Wh
 rw[Y4,getElem?_mirror_all hj]
 split<;>rw[Y4]
theorem getD_bub {p:Array Nat}{k l:Nat}(hk:k < p.size)(hl:l<=k)(i:Nat):(bubble p k (k - l)).getD i 0=if i=l then p.getD k 0 else if l < i/\i<=k then p.getD (i - 1) 0 else p.getD i 0:=by
 rw[Y4,getElem?_bubble hk _ 1e3,show k - (k - l)=l by lia]
 by_cases h:i=l
 ·rw[if_pos h,if_pos h,Y4]
 ·rw[if_neg h,if_neg h]
  by_cases h2:l < i/\i<=k
  ·rw[if_pos h2,if_pos h2,Y4]
  ·rw[if_neg h2,if_neg h2,Y4]
theorem Srt.step (W:Wk lt){p:Array Nat}{k:Nat}(h:Srt lt p k)(h1:1<=k)(e:lt (p.getD k 0) (p.getD (k - 1) 0)=false):Srt lt p (k + 1):=by
 intro i j hij hj
 by_cases hjk:j < k
 ·exact h i j hij hjk
 ·have:j=k:=by lia
  subst this
  by_cases hi:i=j
  ·subst hi;exact W.irr _
  ·exact W.tr _ _ _ (h i (j - 1) 1e3 1e3) e
theorem Non.step (W:Wk lt){p:Array Nat}{k:Nat}(h:Non lt p k)(h1:1<=k)(e:lt (p.getD (k - 1) 0) (p.getD k 0)=false):Non lt p (k + 1):=by
 intro i j hij hj
 by_cases hjk:j < k
 ·exact h i j hij hjk
 ·have:j=k:=by lia
  subst this
  by_cases hi:i=j
  ·subst hi;exact W.irr _
  ·exact W.tr _ _ _ e (h i (j - 1) 1e3 1e3)
theorem Non.rev (W:Wk lt){p:Array Nat}{m a b:Nat}(h:Non lt p m)(hab:a<=b)(hb:b<=m)(hm:m<=p.size)(e:Eqv lt p a b):Non lt (Wh p a b) m:=by
 intro i j hij hj
 rw[ZcD 1e3,ZcD 1e3]
 by_cases hi:a<=i/\i < b
 ·by_cases hj2:a<=j/\j < b
  ·rw[if_pos hi,if_pos hj2];exact e _ _ 1e3 1e3 1e3 1e3
  ·rw[if_pos hi,if_neg hj2];exact h _ _ 1e3 1e3
 ·by_cases hj2:a<=j/\j < b
  ·rw[if_neg hi,if_pos hj2];exact h _ _ 1e3 1e3
  ·rw[if_neg hi,if_neg hj2];exact h _ _ hij hj
theorem Non.srt {p:Array Nat}{n:Nat}(h:Non lt p n)(hn:n<=p.size):Srt lt (Wh p 0 n) n:=by
 intro i j hij hj
 rw[ZcD hn,ZcD hn,if_pos 1e3,if_pos 1e3]
 exact h _ _ 1e3 1e3
theorem asc_ok (W:Wk lt)(p:Array Nat):∀(f n:Nat),1<=n->Srt lt p n->
  n<=runT lt (WA p f n)/\runT lt (WA p f n)<=n + f/\Srt lt p (runT lt (WA p f n))/\(runT lt (WA p f n) < n + f->lt (p.getD (runT lt (WA p f n)) 0) (p.getD (runT lt (WA p f n) - 1) 0)=true)
 | 0,n,h1,h=>⟨Yh _,Yh _,h,fun z=>absurd z (X1 _)⟩
 | f + 1,n,h1,h=>by
  show n<=runT lt (if lt (p.getD n 0) 8e7=true then Ua n else WA p f (n + 1))/\runT lt (if lt (p.getD n 0) 8e7=true then Ua n else WA p f (n + 1))<=n + (f + 1)/\
   Srt lt p (runT lt (if lt (p.getD n 0) 8e7=true then Ua n else WA p f (n + 1)))/\(runT lt (if lt (p.getD n 0) 8e7=true then Ua n else WA p f (n + 1)) < n + (f + 1)->
    lt (p.getD (runT lt (if lt (p.getD n 0) (p.getD (n - 1) 0)=true then Ua n else WA p f (n + 1))) 0) (p.getD (runT lt (if lt (p.getD n 0) (p.getD (n - 1) 0)=true then Ua n else WA p f (n + 1)) - 1) 0)=true)
  by_cases c:lt (p.getD n 0) 8e7=true
  ·rw[if_pos c];exact ⟨Yh _,VM _ _,h,fun _=>c⟩
  ·rw[if_neg c]
   obtain ⟨a1,a2,a3,a4⟩:=asc_ok W p f (n + 1) 1e3 (h.step W h1 (by simpa using c))
   exact ⟨by lia,by lia,a3,fun z=>a4 1e3⟩
structure DS (lt:Nat->Nat->Bool)(N:Nat)(p0 p:Array Nat)(n q:Nat):Prop where
 sz:p.size=p0.size
 pm:p.Perm p0
 n1:1<=n
 nN:n<=N
 q1:q + 1<=n
 non:Non lt p n
 eqv:Eqv lt p (n - (q + 1)) n
theorem desc_ok (W:Wk lt){p0:Array Nat}{N:Nat}(hN:N<=p0.size):∀(f:Nat) (p:Array Nat) (n q:Nat),DS lt N p0 p n q->n + f=N->
  DS lt N p0 (runT lt (XN f p n q)).1 (runT lt (XN f p n q)).2.1 (runT lt (XN f p n q)).2.2
 | 0,p,n,q,D,_=>D
 | f + 1,p,n,q,D,hf=>by
  show DS lt N p0 (runT lt (if lt (p.getD n 0) 8e7=true then (if q > 0 then XN f (Wh p (n - (q + 1)) n) (n + 1) 0 else XN f p (n + 1) 0) else .ask 8e7 (p.getD n 0) fun d=>if d=true then .ret (p,n,q) else XN f p (n + 1) (q + 1))).1
   (runT lt (if lt (p.getD n 0) 8e7=true then (if q > 0 then XN f (Wh p (n - (q + 1)) n) (n + 1) 0 else XN f p (n + 1) 0) else .ask 8e7 (p.getD n 0) fun d=>if d=true then .ret (p,n,q) else XN f p (n + 1) (q + 1))).2.1
   (runT lt (if lt (p.getD n 0) 8e7=true then (if q > 0 then XN f (Wh p (n - (q + 1)) n) (n + 1) 0 else XN f p (n + 1) 0) else .ask 8e7 (p.getD n 0) fun d=>if d=true then .ret (p,n,q) else XN f p (n + 1) (q + 1))).2.2
  have hsz:=D.sz
  have hq1:=D.q1
  have hn1:=D.n1
  have one:∀p':Array Nat,Eqv lt p' (n + 1 - (0 + 1)) (n + 1):=fun p' i j a b c d=>by
   have:i=j:=by lia
   subst this;exact W.irr _
  by_cases c:lt (p.getD n 0) 8e7=true
  ·rw[if_pos c]
   have hn:=D.non.step W D.n1 (W.asy _ _ c)
   by_cases hq:q > 0
   ·rw[if_pos hq]
    exact desc_ok W hN f _ _ _ ⟨by unfold Wh;rw[V6];exact hsz,(VD _ _ _ _).trans D.pm,by lia,by lia,by lia,hn.rev W 1e3 1e3 1e3 D.eqv,one _⟩ 1e3
   ·rw[if_neg hq]
    exact desc_ok W hN f _ _ _ ⟨hsz,D.pm,by lia,by lia,by lia,hn,one _⟩ 1e3
  ·rw[if_neg c]
   show DS lt N p0 (runT lt (if lt 8e7 (p.getD n 0)=true then .ret (p,n,q) else XN f p (n + 1) (q + 1))).1 (runT lt (if lt 8e7 (p.getD n 0)=true then .ret (p,n,q) else XN f p (n + 1) (q + 1))).2.1 (runT lt (if lt 8e7 (p.getD n 0)=true then .ret (p,n,q) else XN f p (n + 1) (q + 1))).2.2
   by_cases d:lt 8e7 (p.getD n 0)=true
   ·rw[if_pos d];exact D
   ·rw[if_neg d]
    have c':lt (p.getD n 0) 8e7=false:=by simpa using c
    have d':lt 8e7 (p.getD n 0)=false:=by simpa using d
    refine desc_ok W hN f _ _ _ ⟨hsz,D.pm,by lia,by lia,by lia,D.non.step W D.n1 d',?_⟩ 1e3
    intro i j a1 a2 b1 b2
    by_cases hi:i=n
    ·by_cases hj:j=n
     ·subst hi;subst hj;exact W.irr _
     ·subst hi;exact W.tr _ _ _ (D.eqv _ _ 1e3 1e3 1e3 1e3) c'
    ·by_cases hj:j=n
     ·subst hj;exact W.tr _ _ _ d' (D.eqv _ _ 1e3 1e3 1e3 1e3)
     ·exact D.eqv _ _ 1e3 1e3 1e3 1e3
structure CS (lt:Nat->Nat->Bool)(N:Nat)(p0:Array Nat)(r:Nat×Array Nat):Prop where
 sz:r.2.size=p0.size
 pm:r.2.Perm p0
 n1:1<=r.1
 nN:r.1<=N
 srt:Srt lt r.2 r.1
theorem tail3_ok (W:Wk lt){p0 p:Array Nat}{N n:Nat}(hN:N<=p0.size)(hs:p.size=p0.size)(hp:p.Perm p0)(h1:1<=n)(hn:n<=N)(h:Non lt p n):CS lt N p0 (runT lt (kas_tail3 n N p)):=by
 unfold kas_tail3
 rw[Zbq]
 obtain ⟨a1,a2,a3,_⟩:=asc_ok W (Wh p 0 n) (N - n) n h1 (h.srt 1e3)
 exact ⟨by show (Wh p 0 n).size=_;unfold Wh;rw[V6];exact hs,(VD _ _ _ _).trans hp,by show 1<=runT lt (WA (Wh p 0 n) (N - n) n);lia,by show runT lt (WA (Wh p 0 n) (N - n) n)<=N;lia,a3⟩
theorem Zc6 (W:Wk lt){p0 p:Array Nat}{N n:Nat}(hN:N<=p0.size)(hs:p.size=p0.size)(hp:p.Perm p0)(h1:1<=n)(hn:n + 1<=N)(h:Non lt p (n + 1)):CS lt N p0 (runT lt (VX n N p)):=by
 unfold VX
 rw[Zbq]
 have D:=desc_ok W hN (N - (n + 1)) p (n + 1) 0 ⟨hs,hp,by lia,hn,by lia,h,fun i j a b c d=>(show i=j by lia) ▸ W.irr _⟩ 1e3
 generalize runT lt (XN (N - (n + 1)) p (n + 1) 0)=r at D ⊢
 have hsz:=D.sz
 have hnN:=D.nN
 by_cases hq:r.2.2 > 0
 ·rw[if_pos hq]
  exact tail3_ok W hN (by unfold Wh;rw[V6];exact hsz) ((VD _ _ _ _).trans D.pm) D.n1 D.nN (D.non.rev W 1e3 1e3 1e3 D.eqv)
 ·rw[if_neg hq]
  exact tail3_ok W hN hsz D.pm D.n1 D.nN D.non
theorem count_ok (W:Wk lt){p:Array Nat}{N:Nat}(hN:N<=p.size)(h1:1<=N):CS lt N p (runT lt (kas_count N p)):=by
 unfold kas_count
 rw[Zbq]
 have s1:Srt lt p 1:=fun i j a b=>(show i=j by lia) ▸ W.irr _
 obtain ⟨a1,a2,a3,a4⟩:=asc_ok W p (N - 1) 1 1e3 s1
 generalize runT lt (WA p (N - 1) 1)=n at a1 a2 a3 a4 ⊢
 by_cases e:(n==N)=true
 ·rw[if_pos e];exact ⟨rfl,Vj _,a1,by show n<=N;lia,a3⟩
 ·rw[if_neg e]
  have e':n≠N:=by simpa using e
  have st:=a4 1e3
  by_cases hn:n > 1
  ·rw[if_pos hn]
   show CS lt N p (runT lt (if lt (p.getD 0 0) 8e7=true then .ret (n,p) else VX n N (Wh p 0 n)))
   by_cases c:lt (p.getD 0 0) 8e7=true
   ·rw[if_pos c];exact ⟨rfl,Vj _,a1,by show n<=N;lia,a3⟩
   ·rw[if_neg c]
    have c':lt (p.getD 0 0) 8e7=false:=by simpa using c
    have eq:Eqv lt p 0 n:=fun i j _ hi _ hj=>
     W.tr _ _ _ (W.tr _ _ _ (a3 j (n - 1) 1e3 1e3) c') (a3 0 i 1e3 hi)
    have non:Non lt p n:=fun i j _ hj=>eq i j 1e3 1e3 1e3 hj
    have non1:=non.step W a1 (W.asy _ _ st)
    exact Zc6 W hN (by unfold Wh;rw[V6]) (VD _ _ _ _) a1 1e3 (non1.rev W 1e3 1e3 1e3 eq)
  ·rw[if_neg hn]
   have:n=1:=by lia
   subst this
   have non:Non lt p 1:=fun i j a b=>(show i=j by lia) ▸ W.irr _
   exact Zc6 W hN rfl (Vj _) 1e3 1e3 (non.step W 1e3 (W.asy _ _ st))
theorem place_ok (W:Wk lt){p:Array Nat}{k:Nat}(hs:Srt lt p k):∀(f l r:Nat),r - l<=f->l<=r->r<=k->(∀i,i < l->lt (p.getD k 0) (p.getD i 0)=false)->(∀i,r<=i->i < k->lt (p.getD k 0) (p.getD i 0)=true)->
  runT lt (Wb p k f l r)<=k/\(∀i,i < runT lt (Wb p k f l r)->lt (p.getD k 0) (p.getD i 0)=false)/\(∀i,runT lt (Wb p k f l r)<=i->i < k->lt (p.getD k 0) (p.getD i 0)=true)
 | 0,l,r,hf,hlr,hr,hl,hg=>⟨by show l<=k;lia,hl,fun i a b=>hg i (Yz (by lia:r<=l) a) b⟩
 | f + 1,l,r,hf,hlr,hr,hl,hg=>by
  unfold Wb
  by_cases c:l ≥ r
  ·rw[if_pos c];exact ⟨by show l<=k;lia,hl,fun i a b=>hg i (Yz (by lia:r<=l) a) b⟩
  ·rw[if_neg c]
   generalize hm:(l + r) / 2=m
   show runT lt (if lt (p.getD k 0) (p.getD m 0)=true then Wb p k f l m else Wb p k f (m + 1) r)<=k/\(∀i,i < runT lt (if lt (p.getD k 0) (p.getD m 0)=true then Wb p k f l m else Wb p k f (m + 1) r)->lt (p.getD k 0) (p.getD i 0)=false)/\
    (∀i,runT lt (if lt (p.getD k 0) (p.getD m 0)=true then Wb p k f l m else Wb p k f (m + 1) r)<=i->i < k->lt (p.getD k 0) (p.getD i 0)=true)
   by_cases d:lt (p.getD k 0) (p.getD m 0)=true
   ·rw[if_pos d]
    refine place_ok W hs f l m 1e3 1e3 1e3 hl fun i a b=>?_
    cases z:lt (p.getD k 0) (p.getD i 0) with
    | true=>rfl
    | false=>rw[W.tr _ _ _ (hs m i a b) z] at d;cases d
   ·rw[if_neg d]
    refine place_ok W hs f (m + 1) r 1e3 1e3 1e3 (fun i a=>?_) hg
    exact W.tr _ _ _ (hs i m 1e3 1e3) (by simpa using d)
theorem bub_ok (W:Wk lt){p:Array Nat}{k l:Nat}(hs:Srt lt p k)(hk:k < p.size)(hl:l<=k)(h1:∀i,i < l->lt (p.getD k 0) (p.getD i 0)=false)(h2:∀i,l<=i->i < k->lt (p.getD k 0) (p.getD i 0)=true):Srt lt (bubble p k (k - l)) (k + 1):=by
 intro i j hij hj
 rw[getD_bub hk hl,getD_bub hk hl]
 by_cases hjl:j=l
 ·rw[if_pos hjl]
  by_cases hil:i=l
  ·rw[if_pos hil];exact W.irr _
  ·rw[if_neg hil,if_neg 1e3];exact h1 i 1e3
 ·rw[if_neg hjl]
  by_cases hil:i=l
  ·rw[if_pos hil,if_pos 1e3];exact W.asy _ _ (h2 _ 1e3 1e3)
  ·rw[if_neg hil]
   by_cases hj2:l < j/\j<=k
   ·rw[if_pos hj2]
    by_cases hi2:l < i/\i<=k
    ·rw[if_pos hi2];exact hs _ _ 1e3 1e3
    ·rw[if_neg hi2];exact hs _ _ 1e3 1e3
   ·rw[if_neg hj2,if_neg 1e3];exact hs _ _ hij 1e3
theorem bin_ok (W:Wk lt):∀(f:Nat) (p:Array Nat) (k:Nat),Srt lt p k->k + f<=p.size->(runT lt (kas_bin f p k)).Perm p/\Srt lt (runT lt (kas_bin f p k)) (k + f)
 | 0,p,k,h,_=>⟨Vj _,h⟩
 | f + 1,p,k,h,hs=>by
  unfold kas_bin
  rw[Zbq]
  obtain ⟨a1,a2,a3⟩:=place_ok W h k 0 k 1e3 1e3 1e3 (fun i z=>absurd z 1e3) (fun i z y=>absurd z 1e3)
  generalize runT lt (Wb p k k 0 k)=l at a1 a2 a3 ⊢
  obtain ⟨b1,b2⟩:=bin_ok W f (bubble p k (k - l)) (k + 1) (bub_ok W h 1e3 a1 a2 a3) (by rw[bubble_size];lia)
  exact ⟨b1.trans (bubble_perm _ _ _),by rw[show k + (f + 1)=k + 1 + f by lia];exact b2⟩
theorem sort_ok (W:Wk lt){n:Nat}(h1:1<=n):(runT lt (X6 n)).Perm (Wr (Yk n))/\Srt lt (runT lt (X6 n)) n:=by
 unfold X6
 rw[Zbq]
 have C:=count_ok W (p:=Wr (Yk n)) (N:=n) 5e2 h1
 generalize runT lt (kas_count n (Wr (Yk n)))=r at C ⊢
 have hsz:r.2.size=n:=by rw[C.sz];simp
 have hn:=C.nN
 have hn1:=C.n1
 by_cases c:r.1 < n
 ·rw[if_pos c]
  have e:max r.1 1=r.1:=by lia
  rw[e]
  obtain ⟨b1,b2⟩:=bin_ok W (n - r.1) r.2 r.1 C.srt 1e3
  exact ⟨b1.trans C.pm,by rw[show r.1 + (n - r.1)=n by lia] at b2;exact b2⟩
 ·rw[if_neg c]
  exact ⟨C.pm,fun i j a b=>C.srt i j a 1e3⟩
end
def InR {α:Type}(n:Nat)(P:α->Prop):KasT α->Prop
 | .ret a=>P a
 | .ask i j k=>i < n/\j < n/\∀b,InR n P (k b)
theorem InR.bind {α β:Type}{n:Nat}{P:α->Prop}{Q:β->Prop}{f:α->KasT β}(hf:∀a,P a->InR n Q (f a)):∀{t:KasT α},InR n P t->InR n Q (t.bind f)
 | .ret a,h=>hf a h
 | .ask i j k,h=>⟨h.1,h.2.1,fun b=>InR.bind hf (h.2.2 b)⟩
def AllIn (n:Nat)(p:Array Nat):Prop:=0 < n/\p.size=n/\∀x,x∈p.toList->x < n
theorem AllIn.at {n:Nat}{p:Array Nat}(h:AllIn n p)(i:Nat):p.getD i 0 < n:=by
 rw[Y4]
 cases e:p[i]? with
 | none=>exact h.1
 | some x=>
  refine h.2.2 x ?_
  rw[Array.mem_toList_iff]
  exact Array.mem_of_getElem? e
theorem AllIn.perm {n:Nat}{p q:Array Nat}(h:AllIn n p)(e:q.Perm p):AllIn n q:=⟨h.1,by rw[←h.2.1,←YX,←YX];exact (Wv.mp e).length_eq,fun x hx=>h.2.2 x ((Wv.mp e).mem_iff.mp hx)⟩
theorem AllIn.rev {n:Nat}{p:Array Nat}(h:AllIn n p)(i j:Nat):AllIn n (Wh p i j):=h.perm (VD _ _ _ _)
theorem asc_in {n:Nat}{p:Array Nat}(h:AllIn n p):∀(f m:Nat),InR n (fun _=>True) (WA p f m)
 | 0,m=>trivial
 | f + 1,m=>⟨h.at _,h.at _,fun b=>by cases b<;>first | exact asc_in h f (m + 1) | trivial⟩
theorem desc_in {n:Nat}:∀(f:Nat) (p:Array Nat) (m q:Nat),AllIn n p->InR n (fun r=>AllIn n r.1) (XN f p m q)
 | 0,p,m,q,h=>h
 | f + 1,p,m,q,h=>⟨h.at _,h.at _,fun b=>by
  cases b with
  | true=>
   show InR n _ (if q > 0 then XN f (Wh p (m - (q + 1)) m) (m + 1) 0 else XN f p (m + 1) 0)
   split
   ·exact desc_in f _ _ _ (h.rev _ _)
   ·exact desc_in f _ _ _ h
  | false=>
   exact ⟨h.at _,h.at _,fun d=>by cases d<;>first | exact desc_in f _ _ _ h | exact h⟩⟩
theorem tail3_in {n m nrem:Nat}{p:Array Nat}(h:AllIn n p):InR n (fun r=>AllIn n r.2) (kas_tail3 m nrem p):=by
 unfold kas_tail3
 refine InR.bind (P:=fun _=>True) (fun k _=>?_) (asc_in (h.rev _ _) _ _)
 show AllIn n (Wh p 0 m)
 exact h.rev 0 m
theorem Zc7 {n m nrem:Nat}{p:Array Nat}(h:AllIn n p):InR n (fun r=>AllIn n r.2) (VX m nrem p):=InR.bind (fun r hr=>by
 split
 ·exact tail3_in (hr.rev _ _)
 ·exact tail3_in hr) (desc_in _ _ _ _ h)
theorem count_in {n nrem:Nat}{p:Array Nat}(h:AllIn n p):InR n (fun r=>AllIn n r.2) (kas_count nrem p):=InR.bind (fun m _=>by
 split
 ·exact h
 ·split
  ·exact ⟨h.at _,h.at _,fun b=>by cases b<;>first | exact Zc7 (h.rev _ _) | exact h⟩
  ·exact Zc7 h) (asc_in h _ _)
theorem place_in {n k:Nat}{p:Array Nat}(h:AllIn n p):∀(f l r:Nat),InR n (fun _=>True) (Wb p k f l r)
 | 0,l,r=>trivial
 | f + 1,l,r=>by
  unfold Wb
  split
  ·trivial
  ·exact ⟨h.at _,h.at _,fun b=>by cases b<;>exact place_in h f _ _⟩
theorem bin_in {n:Nat}:∀(f:Nat) (p:Array Nat) (k:Nat),AllIn n p->InR n (AllIn n) (kas_bin f p k)
 | 0,p,k,h=>h
 | f + 1,p,k,h=>InR.bind (fun l _=>bin_in f _ _ (h.perm (bubble_perm _ _ _))) (place_in h _ _ _)
theorem Zcg {n:Nat}(h1:1<=n):InR n (AllIn n) (X6 n):=by
 have h:AllIn n (Wr (Yk n)):=⟨h1,by simp,fun x hx=>by simpa using hx⟩
 refine InR.bind (fun r hr=>?_) (count_in h)
 split
 ·exact bin_in _ _ _ hr
 ·exact hr
theorem wp_run {α:Type}{n:Nat}{P:α->Prop}{o:Nat->Nat->Bool}{cmp:Nat->Nat->(Bool->Shared->Prop)->Shared->Prop}{Q:α->Shared->Prop}{s:Shared}
  (hc:∀i j (C:Bool->Shared->Prop),i < n->j < n->C (o i j) s->cmp i j C s):∀(t:KasT α),InR n P t->Q (runT o t) s->t.kasWp cmp Q s
 | .ret a,_,h=>h
 | .ask i j k,hi,h=>hc i j _ hi.1 hi.2.1 (wp_run hc (k (o i j)) (hi.2.2 _) h)
theorem Zdi {α:Type}{n:Nat}{P:α->Prop}{o:Nat->Nat->Bool}:∀(t:KasT α),InR n P t->P (runT o t)
 | .ret a,h=>h
 | .ask i j k,h=>Zdi (k (o i j)) (h.2.2 _)
end Pu
namespace Pu
open PySem PySem.W PySem.Calls
open PyProof.Rows hiding St Fr
section
variable {prog:Yx}{w:World}{A:Around}{E:1e7}{s:Shared}{a l:Addr}{vs:3e9}{κ:VE}{o:Nat->Nat->Bool}
def KeepBut (a:Addr)(h h':Heap):Prop:=∀b u,b≠a->h.get? b=some u->h'.get? b=some u
def outs (o:Nat->Nat->Bool)(vs:3e9):List Value:=(runT o (X6 vs.length)).toList.map fun i=>vs.getD i Xw
theorem lsort_at {n:Nat}{P:PySem.Fin->Shared->Prop}(ho:s.heap.get? a=some (seqObj "list" vs.toArray n))(h2:2<=vs.length)(h64:vs.length < 64)
  (hk:∀h',KeepBut a s.heap h'->∀Q:VE->Shared->Prop,Q κ { s with heap:=h' }->wpAny (model prog w) A (keyKind' vs.toArray) Q (fun _ _=>False) { s with heap:=h' })
  (hc:∀h',KeepBut a s.heap h'->∀i j (C:Bool->Shared->Prop),i < vs.length->j < vs.length->C (o i j) { s with heap:=h' }->kas_ask prog w A κ vs i j C { s with heap:=h' })
  (h:∀h' c,KeepBut a s.heap h'->h'.get? a=some (seqObj "list" (outs o vs).toArray c)->P (.done (.ret .none)) { s with heap:=h' }):
  wpAny 6e1 A (VW.«list.sort» ⟨[.ref a],[]⟩) P E s:=by
 have s1:=X7 s.heap a (XC fun _=>(#[]:Array Value))
 obtain ⟨c1,ho1⟩:∃c1,(s.heap.update a (XC fun _=>(#[]:Array Value))).get? a=some (seqObj "list" #[] c1):=⟨_,WO ho fun _=>#[]⟩
 have hlt:a < s.heap.objs.size:=Yp ho
 generalize hg:((s.heap.update a (XC fun _=>(#[]:Array Value))).push (seqObj "tuple" vs.toArray 0)).push (seqObj "list" #[] 0)=g3
 have kb:KeepBut a s.heap g3:=fun b u nb e=>by
  rw[←hg]
  refine Ya _ (Ya _ ?_)
  rw[XI _ _ _ _ nb];exact e
 have g3a:g3.get? a=some (seqObj "list" #[] c1):=by rw[←hg];exact Ya _ (Ya _ ho1)
 rw[list_sort_plain]
 refine Yb (VY ho rfl ?_);refine Yb (Vc ho rfl ?_ (by rw[Yf,YE];lia) (Xe _))
 refine Yb (V7 ho1 rfl ?_);refine Yb (wpAny_newTuple ?_ (by show vs.length<=_;rw[YE];lia))
 refine Yb (WP ?_ (Xe _));refine Xb ?_
 show wpAny 6e1 A _ P E { s with heap:=((s.heap.update a (XC fun _=>(#[]:Array Value))).push (seqObj "tuple" vs.toArray 0)).push (seqObj "list" #[] 0) }
 rw[hg]
 dsimp only
 have n2:¬vs.toArray.size < 2:=by rw[Yf];lia
 rw[if_neg n2,if_neg n2]
 refine Yb (Xj (hk g3 kb (fun k s'=>k=κ/\s'={ s with heap:=g3 }) ⟨rfl,rfl⟩) (fun k s' e=>?_) fun _ _ x=>x.elim)
 obtain ⟨rfl,rfl⟩:=e
 refine Yb (Xj (kat_run (ks:=vs) (vs:=vs) (Q:=fun st' s'=>∃p:Array Nat,p.size=vs.length/\arrOf st'=p.map (kas_item (vs.toArray.zip vs.toArray))/\failedOf st'=none/\p=runT o (X6 vs.length)/\s'={ s with heap:=g3 })
  (G:=fun p s'=>p=runT o (X6 vs.length)/\s'={ s with heap:=g3 }) rfl h2 h64 (fun p st' s' a1 a2 a3 a4=>⟨p,a1,a2,a3,a4.1,a4.2⟩)
  (wp_run (o:=o) (hc g3 kb) _ (Zcg (by lia)) ⟨rfl,rfl⟩)) ?_ fun _ _ e=>e)
 rintro ⟨⟨⟩,st'⟩ s' ⟨p,hp,har,hf,ep,rfl⟩
 dsimp only
 have ho2:=kat_snds (ks:=vs) (vs:=vs) rfl har
 rw[ho2,ep]
 have hz:(Wr ((runT o (X6 vs.length)).toList.map fun i=>vs.getD i Xw)).size=vs.length:=by rw[Yf,Yv,YX,←ep,hp]
 obtain ⟨c2,hc2⟩:∃c2,(g3.update a (XC fun _=>Wr ((runT o (X6 vs.length)).toList.map fun i=>vs.getD i Xw))).get? a=some (seqObj "list" (Wr ((runT o (X6 vs.length)).toList.map fun i=>vs.getD i Xw)) c2):=⟨_,WO g3a fun _=>_⟩
 refine Yb (V7 g3a rfl ?_)
 refine Yb (Vc g3a rfl ?_ (Xe _) (Yz (Nat.le_of_eq hz) (by rw[YE];lia)))
 rw[hf]
 simp only[bne_self_eq_false,YT,if_false]
 exact Yg (h _ c2 (fun b u nb e=>by rw[XI _ _ _ _ nb];exact kb b u nb e) hc2)
end
section
variable {prog:Yx}{w:World}{A:Around}{E:1e7}{s:Shared}{a l:Addr}{vs:3e9}{κ:VE}{o:Nat->Nat->Bool}
theorem lsort_few {n:Nat}{P:PySem.Fin->Shared->Prop}(ho:s.heap.get? a=some (seqObj "list" vs.toArray n))(h2:vs.length < 2)
  (h:∀h' c,KeepBut a s.heap h'->h'.get? a=some (seqObj "list" vs.toArray c)->P (.done (.ret .none)) { s with heap:=h' }):
  wpAny 6e1 A (VW.«list.sort» ⟨[.ref a],[]⟩) P E s:=by
 obtain ⟨c1,ho1⟩:∃c1,(s.heap.update a (XC fun _=>(#[]:Array Value))).get? a=some (seqObj "list" #[] c1):=⟨_,WO ho fun _=>#[]⟩
 generalize hg:((s.heap.update a (XC fun _=>(#[]:Array Value))).push (seqObj "tuple" vs.toArray 0)).push (seqObj "list" #[] 0)=g3
 have kb:KeepBut a s.heap g3:=fun b u nb e=>by
  rw[←hg]
  refine Ya _ (Ya _ ?_)
  rw[XI _ _ _ _ nb];exact e
 have g3a:g3.get? a=some (seqObj "list" #[] c1):=by rw[←hg];exact Ya _ (Ya _ ho1)
 rw[list_sort_plain]
 refine Yb (VY ho rfl ?_);refine Yb (Vc ho rfl ?_ (by rw[Yf,YE];lia) (Xe _))
 refine Yb (V7 ho1 rfl ?_);refine Yb (wpAny_newTuple ?_ (by show vs.length<=_;rw[YE];lia))
 refine Yb (WP ?_ (Xe _));refine Xb ?_
 show wpAny 6e1 A _ P E { s with heap:=((s.heap.update a (XC fun _=>(#[]:Array Value))).push (seqObj "tuple" vs.toArray 0)).push (seqObj "list" #[] 0) }
 rw[hg]
 dsimp only
 have n2:vs.toArray.size < 2:=by rw[Yf];lia
 simp only[if_pos n2]
 apply Yb
 apply Yg
 simp only[StateT.run_pure]
 apply Yb
 apply Yg
 dsimp only
 have ez:(arrOf (SortSt.mk' general' (vs.toArray.zip vs.toArray) #[] 7 none)).map (·.2)=vs.toArray:=by
  show (vs.toArray.zip vs.toArray).map (·.2)=vs.toArray
  apply Array.toList_inj.mp
  rw[Array.toList_map,Array.toList_zip,List.map_snd_zip 5e2]
 rw[ez]
 obtain ⟨c2,hc2⟩:∃c2,(g3.update a (XC fun _=>vs.toArray)).get? a=some (seqObj "list" vs.toArray c2):=⟨_,WO g3a fun _=>_⟩
 refine Yb (V7 g3a rfl ?_)
 refine Yb (Vc g3a rfl ?_ (Xe _) (by rw[Yf,YE];lia))
 simp only[bne_self_eq_false,YT,if_false]
 exact Yg (h _ c2 (fun b u nb e=>by rw[XI _ _ _ _ nb];exact kb b u nb e) hc2)
def outs2 (o:Nat->Nat->Bool)(vs:3e9):List Value:=if vs.length < 2 then vs else outs o vs
theorem sorted_at {v:Value}{Q:1e7}{h1:Heap}(hcol:∀(Q':List Value->Shared->Prop),Q' vs { s with heap:=h1 }->wpAny (model prog w) A.in1 (collect v) Q' E s)(kp:∀b u,s.heap.get? b=some u->h1.get? b=some u)(hle:s.heap.objs.size<=h1.objs.size)(h64:vs.length < 64)
  (hk:2<=vs.length->∀h',10e0->∀Q:VE->Shared->Prop,Q κ { s with heap:=h' }->wpAny (model prog w) A.in1.in1 (keyKind' vs.toArray) Q (fun _ _=>False) { s with heap:=h' })
  (hc:2<=vs.length->∀h',10e0->∀i j (C:Bool->Shared->Prop),i < vs.length->j < vs.length->C (o i j) { s with heap:=h' }->kas_ask prog w A.in1.in1 κ vs i j C { s with heap:=h' })
  (h:∀D h' c,s.heap.objs.size<=D->10e0->h'.get? D=some (seqObj "list" (outs2 o vs).toArray c)->Q (.ref D) { s with heap:=h' }):
  wpAny 6e1 A (call (.builtin "sorted") [v]) Q E s:=by
 refine Calls.call_function_entry kind_sorted plain_sorted entry_sorted (args_sorted1 _) ?_
 unfold VW.«sorted»
 refine Yb (m:=checkCount "sorted" 1 1 _) (Yg ?_);refine Yb (hcol _ ?_)
 refine Yb (WP ?_ (by rw[YE];lia))
 have hoL:(h1.push (seqObj "list" vs.toArray 0)).get? h1.objs.size=some (seqObj "list" vs.toArray 0):=Yq _ rfl
 have keep:∀b u,s.heap.get? b=some u->(h1.push (seqObj "list" vs.toArray 0)).get? b=some u:=fun b u e=>Ya _ (kp b u e)
 have kb:∀h',KeepBut h1.objs.size (h1.push (seqObj "list" vs.toArray 0)) h'->∀b u,s.heap.get? b=some u->h'.get? b=some u:=fun h' k b u e=>
  k b u (Yn (Yr (Yp e) hle)) (keep b u e)
 show wpAny _ _ _ _ _ { s with heap:=h1.push (seqObj "list" vs.toArray 0) }
 refine Yb (Xb (Xu slot_list_sort ⟨_,hoL,rfl⟩ entry_list_sort ?body (args_list_sort _)))
 case body=>
  by_cases h2:vs.length < 2
  ·refine lsort_few (s:={ s with heap:=h1.push (seqObj "list" vs.toArray 0) }) hoL h2 fun h' c k e=>⟨_,rfl,Yg ⟨_,rfl,h _ h' c hle (kb h' k) ?_⟩⟩
   unfold outs2;rw[if_pos h2];exact e
  ·refine lsort_at (s:={ s with heap:=h1.push (seqObj "list" vs.toArray 0) }) (κ:=κ) (o:=o) hoL (by lia) h64 (fun h' k=>hk (by lia) h' (kb h' k)) (fun h' k=>hc (by lia) h' (kb h' k)) fun h' c k e=>⟨_,rfl,Yg ⟨_,rfl,h _ h' c hle (kb h' k) ?_⟩⟩
   unfold outs2;rw[if_neg h2];exact e
end
end Pu
namespace Pu
open PySem PySem.Spec PySem.W PySem.Calls L2 PySem.SeqAt
open PyProof.Rows hiding St Fr
noncomputable def fstK:PV->Nat
 | .int _=>1
 | .str _=>2
 | .tup (.int _::_)=>3
 | .tup (.str _::_)=>4
 | _=>0
def oP (ps:List PV)(i j:Nat):Bool:=(ltD (ps.getD (min i (ps.length - 1)) .non) (ps.getD (min j (ps.length - 1)) .non)).getD false
def perm (ps:List PV):List Nat:=if ps.length < 2 then Yk ps.length else (runT (oP ps) (X6 ps.length)).toList
def sortL (ps:List PV):List PV:=(perm ps).map fun i=>ps.getD i .non
def sortable (ps:List PV):Bool:=(ps.all fun p=>fstK p==1)||(ps.all fun p=>fstK p==2)||(ps.all fun p=>fstK p==3)||(ps.all fun p=>fstK p==4)
def cmpAll (ps:List PV):Bool:=ps.all fun p=>ps.all fun q=>(ltD p q).isSome
def sortP (ps:List PV):Option 7e5:=if dats ps&&decide (deps ps<=40)&&decide (ps.length < 64)&&sortable ps&&cmpAll ps then some (sortL ps) else none
mutual
theorem HRep.keep {h h':Heap}(k:∀b u,h.get? b=some u->h'.get? b=some u):∀(p:PV) {u:Value},HRep h p u->HRep h' p u
 | .non,u,a=>by unfold HRep at a ⊢;exact a
 | .bl x,u,a=>by unfold HRep at a ⊢;exact a
 | .int x,u,a=>by unfold HRep at a ⊢;exact a
 | .str x,u,a=>by unfold HRep at a ⊢;exact a
 | .tup ps,u,a=>by
  unfold HRep at a ⊢;obtain ⟨l,us,rfl,⟨o,e,c⟩,r⟩:=a
  exact ⟨l,us,rfl,⟨o,k _ _ e,c⟩,HReps.keep k ps r⟩
 | .lst ps,u,a=>by
  unfold HRep at a ⊢;obtain ⟨l,us,rfl,⟨o,e,c⟩,r⟩:=a
  exact ⟨l,us,rfl,⟨o,k _ _ e,c⟩,HReps.keep k ps r⟩
 | .dct _ _,u,a=>by unfold HRep at a;exact a.elim
 | .dtt _ _,u,a=>by unfold HRep at a;exact a.elim
 | .fn _,u,a=>by unfold HRep at a;exact a.elim
 | .ty _,u,a=>by unfold HRep at a;exact a.elim
theorem HReps.keep {h h':Heap}(k:∀b u,h.get? b=some u->h'.get? b=some u):∀(ps:List PV) {us:3e9},HReps h ps us->HReps h' ps us
 | [],us,a=>by unfold HReps at a ⊢;exact a
 | p::ps,us,a=>by
  unfold HReps at a ⊢;obtain ⟨v,r,rfl,a1,a2⟩:=a
  exact ⟨v,r,rfl,HRep.keep k p a1,HReps.keep k ps a2⟩
end
theorem HReps.get {h:Heap}:∀{ps:List PV} {us:3e9} {i:Nat},HReps h ps us->i < us.length->HRep h (ps.getD i .non) (us.getD i Xw)
 | [],us,i,a,hi=>by unfold HReps at a;subst a;cases hi
 | p::ps,us,i,a,hi=>by
  unfold HReps at a;obtain ⟨v,r,rfl,a1,a2⟩:=a
  cases i with
  | zero=>exact a1
  | succ i=>simpa using HReps.get a2 (by simpa using hi)
theorem Zb9 {ps:List PV}{i:Nat}(hi:i < ps.length):ps.getD i .non∈ps:=by
 rw[Xv,Yc hi];exact YV hi
section
variable {prog:Yx}{w:World}{A:Around}{s:Shared}
theorem katLex_of {b fin:Bool}{Q:Bool->Shared->Prop}{c:Bool}:∀{ps qs:List PV} {us vs:3e9} (i:Nat),PairsOk A s ps qs us vs->lexD ps qs=some c->fin=decide (us.length < vs.length)->
  ((b&&i==0)=true->∀p ps' q qs' u us' v vs',ps=p::ps'->qs=q::qs'->us=u::us'->vs=v::vs'->∀c,ltD p q=some c->∀Q:Bool->Shared->Prop,Q c s->wpAny 6e1 A (oneLt' true u v) Q (fun _ _=>False) s)->
  Q c s->KatLex prog w A b fin Q (us.zip vs) i s
  :=by
 intro ps qs us vs i pk
 induction pk generalizing i with
 | @nil1 qs _ hh=>
  intro e hf hz q
  rw[List.zip_nil_left]
  refine kat_nil ?_
  cases qs with
  | nil=>rw[Zbm] at e;cases e;rw[hf,←hh];exact q
  | cons y ys=>rw[Zcb] at e;cases e;rw[hf,←hh];simpa using q
 | @nil2 ps _ hh=>
  intro e hf hz q
  rw[List.zip_nil_right]
  refine kat_nil ?_
  cases ps with
  | nil=>rw[Zbm] at e;cases e;rw[hf,←hh];exact q
  | cons y ys=>rw[Zcc] at e;cases e;rw[hf];simpa using q
 | @cons p q' u v ps qs us vs ee lt t ih=>
  intro e hf hz q
  rw[YU]
  refine kat_cons (ee prog w _ _ ?_)
  rw[lexD_cons] at e
  cases he:eqD p q' with
  | true=>
   rw[he,if_pos rfl] at e
   exact kat_yes (ih (i + 1) e (by rw[hf];simp) (fun z=>by simp at z) q)
  | false=>
   rw[he,if_neg Yl] at e
   refine kat_no ?_
   cases hb:(b&&i==0) with
   | true=>exact hz hb _ _ _ _ _ _ _ _ rfl rfl rfl rfl c e _ q
   | false=>exact kat_one _ _ (lt c e prog w _ _ q)
theorem one_int {a c:Int}{t u:Tok}{E:1e7}{Q:Bool->Shared->Prop}(h:Q (decide (a < c)) s):wpAny 6e1 A (oneLt' true (.int a t) (.int c u)) Q E s:=by
 rw[←keyLt'_oneType];exact kat_lt_int h
theorem one_str {a c:Str}{t u:Tok}{E:1e7}{Q:Bool->Shared->Prop}(h:Q (decide (a.cps.toList < c.cps.toList)) s):wpAny 6e1 A (oneLt' true (.str a t) (.str c u)) Q E s:=by
 rw[←keyLt'_oneType];exact kas_lt_str h
theorem ask_one {p q:PV}{u v:Value}{c:Bool}{Q:Bool->Shared->Prop}(a:HRep s.heap p u)(b:HRep s.heap q v)(hk:fstK p=1/\fstK q=1\/fstK p=2/\fstK q=2)(e:ltD p q=some c)(h:Q c s):wpAny 6e1 A (keyLt' oneType' u v) Q (fun _ _=>False) s:=by
 rw[keyLt'_oneType]
 cases p with
 | int x=>
  cases q with
  | int y=>unfold HRep at a b;obtain ⟨t,rfl⟩:=a;obtain ⟨t',rfl⟩:=b;unfold ltD at e;cases e;exact one_int h
  | _=>unfold ltD at e;cases e
 | str x=>
  cases q with
  | str y=>unfold HRep at a b;obtain ⟨t,rfl⟩:=a;obtain ⟨t',rfl⟩:=b;unfold ltD at e;cases e;exact one_str h
  | _=>unfold ltD at e;cases e
 | tup xs=>
  exfalso
  cases xs with
  | nil=>simp[fstK] at hk
  | cons y ys=>cases y<;>simp[fstK] at hk
 | _=>unfold ltD at e;cases e
theorem ask_tup {p q:PV}{u v:Value}{c:Bool}{Q:Bool->Shared->Prop}(a:HRep s.heap p u)(b:HRep s.heap q v)(hk:fstK p=3/\fstK q=3\/fstK p=4/\fstK q=4)(e:ltD p q=some c)(hu:A.units + dep p < cLine)(h:Q c s):wpAny 6e1 A (keyLt' (tuples' true) u v) Q (fun _ _=>False) s:=by
 cases p with
 | tup xs=>
  cases q with
  | tup ys=>
   unfold HRep at a b;obtain ⟨l,us,rfl,⟨ol,el,_,nl,dl⟩,r1⟩:=a;obtain ⟨l',vs,rfl,⟨ol',el',_,nl',dl'⟩,r2⟩:=b
   unfold ltD at e
   unfold dep at hu
   refine kat_lt el dl el' dl' ?_
   refine katLex_of 0 (HReps.pairs xs r1 r2 1e3) e 5e2 (fun _=>?_) h
   intro p ps' q qs' u us' v vs' e1 e2 e3 e4 c' el Q' hq
   subst e1 e2 e3 e4
   unfold HReps at r1 r2
   obtain ⟨_,_,z1,a1,_⟩:=r1
   obtain ⟨_,_,z2,b1,_⟩:=r2
   cases z1;cases z2
   cases p with
   | int x=>
    cases q with
    | int y=>unfold HRep at a1 b1;obtain ⟨t,rfl⟩:=a1;obtain ⟨t',rfl⟩:=b1;unfold ltD at el;cases el;exact one_int hq
    | _=>unfold ltD at el;cases el
   | str x=>
    cases q with
    | str y=>unfold HRep at a1 b1;obtain ⟨t,rfl⟩:=a1;obtain ⟨t',rfl⟩:=b1;unfold ltD at el;cases el;exact one_str hq
    | _=>unfold ltD at el;cases el
   | tup xs=>simp[fstK] at hk
   | _=>unfold ltD at el;cases el
  | _=>unfold ltD at e;cases e
 | _=>simp[fstK] at hk
end
theorem ZbD {ps:List PV}:∀i∈perm ps,i < ps.length:=by
 intro i hi
 unfold perm at hi
 split at hi
 ·simpa using hi
 ·exact (Zdi (X6 ps.length) (Zcg 1e3)).2.2 i hi
def sortV (ps:List PV)(ys:List V):List V:=(perm ps).map fun i=>ys.getD i .non
def sortU (ps:List PV)(us:3e9):List Value:=(perm ps).map fun i=>us.getD i Xw
theorem ZcA {ps:List PV}{us:3e9}(e:ps.length=us.length):outs2 (oP ps) us=sortU ps us:=by
 unfold outs2 sortU perm outs
 rw[←e]
 split
 ·have:us=(Yk us.length).map fun i=>us.getD i Value.none:=by
   apply YZ
   intro i
   rw[YI]
   by_cases hi:i < us.length
   ·rw[Vk hi];simp[hi]
   ·rw[Xq 1e3,Xq 12e1];rfl
  rw[e];exact this
 ·rfl
theorem vals_getD:∀{ys:List V} {us:3e9} {i:Nat},Vals ys us->i < us.length->RelV (ys.getD i .non) (us.getD i Xw)
 | _,_,i,.nil,hi=>by cases hi
 | _,_,i,.cons r t,hi=>by
  cases i with
  | zero=>exact r
  | succ i=>simpa using vals_getD t (by simpa using hi)
theorem ZbZ {ys:List V}{us:3e9}(r:Vals ys us):∀{is:12e4},(∀i∈is,i < us.length)->Vals (is.map fun i=>ys.getD i .non) (is.map fun i=>us.getD i Xw)
 | [],_=>.nil
 | i::is,h=>.cons (vals_getD r (h i (.head _))) (ZbZ r fun j hj=>h j (.tail _ hj))
theorem reps_getD {K:W.Frag}{ι:3e8}{H:Hp}:∀{ps:List PV} {ys:List V} {i:Nat},Reps K ι H ps ys->i < ps.length->Rep K ι H (ps.getD i .non) (ys.getD i .non)
 | [],ys,i,a,hi=>by cases hi
 | p::ps,ys,i,a,hi=>by
  unfold Reps at a;obtain ⟨v,r,rfl,a1,a2⟩:=a
  cases i with
  | zero=>exact a1
  | succ i=>simpa using reps_getD a2 (by simpa using hi)
theorem Zb1 {K:W.Frag}{ι:3e8}{H:Hp}{ps:List PV}{ys:List V}(r:Reps K ι H ps ys):∀{is:12e4},(∀i∈is,i < ps.length)->Reps K ι H (is.map fun i=>ps.getD i .non) (is.map fun i=>ys.getD i .non)
 | [],_=>by unfold Reps;rfl
 | i::is,h=>by
  unfold Reps
  exact ⟨_,_,rfl,reps_getD r (h i (.head _)),Zb1 r fun j hj=>h j (.tail _ hj)⟩
section
variable {prog:Yx}{w:World}{A:Around}{s:Shared}
theorem Zc2 {h:Heap}:∀{ps:List PV} {us:3e9},HReps h ps us->∀u∈us,∃p∈ps,HRep h p u
 | [],us,a,u,hu=>by unfold HReps at a;subst a;cases hu
 | p::ps,us,a,u,hu=>by
  unfold HReps at a;obtain ⟨v,r,rfl,a1,a2⟩:=a
  rcases Ys.mp hu with rfl | hu
  ·exact ⟨p,.head _,a1⟩
  ·obtain ⟨q,hq,b⟩:=Zc2 a2 u hu
   exact ⟨q,.tail _ hq,b⟩
def headV (h:Heap)(k:Nat)(f:Value):Prop:=(k=3/\∃i t,f=.int i t)\/(k=4/\∃x t,f=.str x t)
theorem tups_of {h:Heap}{k:Nat}(hk:k=3\/k=4):∀{ps:List PV} {us:3e9},HReps h ps us->(ps.all fun p=>fstK p==k)=true->∃fs,KatTups h us fs/\fs.length=us.length/\∀f∈fs,headV h k f
 | [],us,a,_=>by unfold HReps at a;subst a;exact ⟨[],.nil,rfl,fun f hf=>by cases hf⟩
 | p::ps,us,a,e=>by
  unfold HReps at a;obtain ⟨v,r,rfl,a1,a2⟩:=a
  rw[VC,Yt] at e
  obtain ⟨fs,t,hl,hf⟩:=tups_of hk a2 e.2
  have e1:fstK p=k:=by simpa using e.1
  cases p with
  | tup xs=>
   unfold HRep at a1;obtain ⟨l,us',rfl,⟨o,ho,hc,n,hd⟩,r1⟩:=a1
   cases xs with
   | nil=>simp[fstK] at e1;lia
   | cons y ys=>
    unfold HReps at r1;obtain ⟨f,r',rfl,b1,_⟩:=r1
    refine ⟨f::fs,.cons ho hc hd 5e2 t,by simp[hl],fun g hg=>?_⟩
    rcases Ys.mp hg with rfl | hg
    ·cases y with
     | int i=>unfold HRep at b1;simp[fstK] at e1;obtain ⟨t,rfl⟩:=b1;exact .inl ⟨e1.symm,_,_,rfl⟩
     | str x=>unfold HRep at b1;simp[fstK] at e1;obtain ⟨t,rfl⟩:=b1;exact .inr ⟨e1.symm,_,_,rfl⟩
     | _=>simp[fstK] at e1;lia
    ·exact hf g hg
  | int i=>simp[fstK] at e1;lia
  | str i=>simp[fstK] at e1;lia
  | _=>simp[fstK] at e1;lia
def kindP (ps:List PV):SortKind:=if (ps.all fun p=>fstK p==1)||(ps.all fun p=>fstK p==2) then oneType' else tuples' true
theorem kind_of {ps:List PV}{us:3e9}{Q:VE->Shared->Prop}{E:1e7}(a:HReps s.heap ps us)(h2:2<=us.length)(e:sortable ps=true)(h:Q (kindP ps) s):wpAny 6e1 A (keyKind' us.toArray) Q E s:=by
 unfold sortable at e
 unfold kindP at h
 by_cases h1:(ps.all fun p=>fstK p==1)=true
 ·rw[h1,Bool.true_or,if_pos rfl] at h
  refine kas_kind (T:=.type "int") h2 (fun v hv=>?_) 1e4 1e4 h
  obtain ⟨p,hp,b⟩:=Zc2 a v hv
  have:=YM.mp h1 p hp
  cases p with
  | int i=>unfold HRep at b;obtain ⟨t,rfl⟩:=b;exact VF rfl
  | tup xs=>cases xs with
   | nil=>simp[fstK] at this
   | cons y ys=>cases y<;>simp[fstK] at this
  | _=>simp[fstK] at this
 ·by_cases h3:(ps.all fun p=>fstK p==2)=true
  ·rw[h3,Bool.or_true,if_pos rfl] at h
   refine kas_kind (T:=.type "str") h2 (fun v hv=>?_) 1e4 1e4 h
   obtain ⟨p,hp,b⟩:=Zc2 a v hv
   have:=YM.mp h3 p hp
   cases p with
   | str i=>unfold HRep at b;obtain ⟨t,rfl⟩:=b;exact VF rfl
   | tup xs=>cases xs with
    | nil=>simp[fstK] at this
    | cons y ys=>cases y<;>simp[fstK] at this
   | _=>simp[fstK] at this
  ·rw[Bool.not_eq_true] at h1 h3
   rw[h1,h3] at h e
   rw[if_neg 1e4] at h
   simp only[Bool.false_or,VZ] at e
   rcases e with e | e
   ·obtain ⟨fs,t,hl,hf⟩:=tups_of (.inl rfl) a e
    refine kat_kind (T:=.type "int") t 1e3 (fun v hv=>?_) 1e4 h
    rcases hf v hv with ⟨_,i,t,rfl⟩ | ⟨z,_⟩
    ·exact VF rfl
    ·cases z
   ·obtain ⟨fs,t,hl,hf⟩:=tups_of (.inr rfl) a e
    refine kat_kind (T:=.type "str") t 1e3 (fun v hv=>?_) 1e4 h
    rcases hf v hv with ⟨z,_⟩ | ⟨_,i,t,rfl⟩
    ·cases z
    ·exact VF rfl
theorem dep_getD:∀{ps:List PV} (i:Nat),dep (ps.getD i .non)<=deps ps
 | [],i=>by simp[dep,deps]
 | p::ps,i=>by
  unfold deps
  cases i with
  | zero=>exact Nat.le_max_left _ _
  | succ i=>exact Yz (by simpa using dep_getD (ps:=ps) i) (Nat.le_max_right _ _)
theorem ask_of {ps:List PV}{us:3e9}{i j:Nat}{C:Bool->Shared->Prop}(a:HReps s.heap ps us)(e:sortable ps=true)(ec:cmpAll ps=true)(hu:A.units + deps ps < cLine)(hi:i < us.length)(hj:j < us.length)(h:C (oP ps i j) s):kas_ask prog w A (kindP ps) us i j C s:=by
 have hl:=a.length
 have mi:=Zb9 (ps:=ps) (i:=i) 1e3
 have mj:=Zb9 (ps:=ps) (i:=j) 1e3
 have hs:(ltD (ps.getD i .non) (ps.getD j .non)).isSome=true:=YM.mp (YM.mp ec _ mi) _ mj
 obtain ⟨c,hc⟩:=WD.mp hs
 unfold oP at h
 rw[Nat.min_eq_left 1e3,Nat.min_eq_left 1e3,hc] at h
 have ai:=HReps.get a hi
 have aj:=HReps.get a hj
 have hd:=dep_getD (ps:=ps) i
 unfold kas_ask kindP
 have at':∀k,(ps.all fun p=>fstK p==k)=true->fstK (ps.getD i .non)=k/\fstK (ps.getD j .non)=k:=fun k z=>⟨by simpa using YM.mp z _ mi,by simpa using YM.mp z _ mj⟩
 by_cases h1:(ps.all fun p=>fstK p==1)=true
 ·rw[h1,Bool.true_or,if_pos rfl];exact ask_one ai aj (.inl (at' 1 h1)) hc h
 ·by_cases h3:(ps.all fun p=>fstK p==2)=true
  ·rw[h3,Bool.or_true,if_pos rfl];exact ask_one ai aj (.inr (at' 2 h3)) hc h
  ·unfold sortable at e
   rw[Bool.not_eq_true] at h1 h3
   rw[h1,h3] at e ⊢
   rw[if_neg 1e4]
   simp only[Bool.false_or,VZ] at e
   rcases e with e | e
   ·exact ask_tup ai aj (.inl (at' 3 e)) hc 1e3 h
   ·exact ask_tup ai aj (.inr (at' 4 e)) hc 1e3 h
end
section
variable {X:Cx}
def rSorted (K:W.Frag):List V->Hp->VK->Prop:=fun xs H Q=>∃p ys ι ps,xs=[.ref p]/\SqL K H p ys/\Reps K ι H ps ys/\(sortP ps).isSome=true/\∀l,H l=none->Q (.ref l) (upd H l (.lst (sortV ps ys)))
theorem call_sorted (hu:6e7):CallR X (.builtin "sorted") (rSorted X.K):=by
 intro pins s σ H xs us Q I r h
 obtain ⟨p,ys,ι,ps,rfl,hq,rs,hs,q⟩:=h
 obtain ⟨u,rfl,rx⟩:=vals1 r
 cases rx
 obtain ⟨its,r',pl,hz⟩:=I.list hq
 unfold sortP at hs
 split at hs
 ·rename_i hh
  simp only[Yt,decide_eq_true_eq] at hh
  obtain ⟨⟨⟨⟨hd,hde⟩,h64⟩,hso⟩,hcm⟩:=hh
  have hr:=Reps.heap I ps rs r' hd
  have hl:=hr.length
  have hyl:=r'.length
  refine sorted_at (vs:=its) (κ:=kindP ps) (o:=oP ps) (h1:=(s.heap.push (seqObj "list" #[] 0)).update s.heap.objs.size (XC (·++its.toArray))) (fun Q' q'=>collect_list pl.isList q' 1e3) (fun b u e=>?_) ?_ 1e3 (fun h2 h' k Q' q'=>?_) (fun h2 h' k i j C hi hj hC=>?_) (fun D h' c hD k e=>?_)
  ·rw[XI _ _ _ _ (Yn (Yp e))];exact Ya _ e
  ·rw[Heap.size_update,size_push'];lia
  ·exact kind_of (s:={ s with heap:=h' }) (hr.keep k) h2 hso q'
  ·exact ask_of (s:={ s with heap:=h' }) (hr.keep k) hso hcm (by rw[YD,YD];lia) hi hj hC
  ·rw[ZcA hl] at e
   refine ⟨.ref D,_,I.laid (t':=s.toks) k hD (show ObjOk X.prog X.w _ h' _ (.lst (sortV ps ys)) from ⟨?_,sortU ps its,c,?_,e⟩),rfl,q _ (I.hok.fresh hD)⟩
   ·unfold sortV
    rw[Yv]
    have:(perm ps).length<=64:=by
     unfold perm
     split
     ·rw[W1];lia
     ·rename_i h2
      rw[YX]
      rw[(Zdi (o:=oP ps) (X6 ps.length) (Zcg 1e3)).2.1];lia
    exact Yz this (by rw[YE];decide)
   ·exact ZbZ r' fun i hi=>by have:=ZbD i hi;lia
 ·cases hs
end
section
variable {X:Cx}{e:Expr}{es:6e4}{fs:2e9}{p pos:Pos}
theorem Zcx {ps qs:List PV}(e:sortP ps=some qs):qs=sortL ps:=by
 unfold sortP at e;split at e
 ·cases e;rfl
 ·cases e
end
end Pu
namespace Pu
open PySem PySem.Spec PySem.W
mutual
noncomputable def pur:PV->Bool
 | .int _=>true
 | .str _=>true
 | .tup ps=>purs ps
 | _=>false
noncomputable def purs:List PV->Bool
 | []=>true
 | p::ps=>pur p&&purs ps
end
mutual
noncomputable def lT:PV->PV->Bool
 | .int a,.int b=>decide (a < b)
 | .int _,.str _=>true
 | .int _,.tup _=>true
 | .str a,.str b=>decide (a.cps.toList < b.cps.toList)
 | .str _,.tup _=>true
 | .tup xs,.tup ys=>lTs xs ys
 | _,_=>false
noncomputable def lTs:List PV->List PV->Bool
 | [],[]=>false
 | [],_::_=>true
 | _::_,[]=>false
 | x::xs,y::ys=>if eqD x y then lTs xs ys else lT x y
end
mutual
theorem Zbo:∀(p:PV) {q:PV},pur p=true->pur q=true->(eqD p q=true↔p=q)
 | .int a,q,_,hq=>by cases q<;>simp[eqD]<;>simp[pur] at hq
 | .str a,q,_,_=>by cases q<;>simp[eqD]
 | .tup ps,q,h,hq=>by
  unfold pur at h
  cases q with
  | tup qs=>unfold pur at hq;unfold eqD;rw[eqDs_pur ps h hq];simp
  | _=>simp[eqD]
 | .non,q,h,_=>by simp[pur] at h
 | .bl _,q,h,_=>by simp[pur] at h
 | .lst _,q,h,_=>by simp[pur] at h
 | .dct _ _,q,h,_=>by simp[pur] at h
 | .dtt _ _,q,h,_=>by simp[pur] at h
 | .fn _,q,h,_=>by simp[pur] at h
 | .ty _,q,h,_=>by simp[pur] at h
theorem eqDs_pur:∀(ps:List PV) {qs:List PV},purs ps=true->purs qs=true->(eqDs ps qs=true↔ps=qs)
 | [],qs,_,_=>by cases qs<;>simp[eqDs]
 | p::ps,qs,h,hq=>by
  unfold purs at h
  rw[Yt] at h
  cases qs with
  | nil=>simp[eqDs]
  | cons q qs=>
   unfold purs at hq
   rw[Yt] at hq
   unfold eqDs;rw[Yt,Zbo p h.1 hq.1,eqDs_pur ps h.2 hq.2,List.cons.injEq]
end
theorem Zbb {p:PV}(h:pur p=true):eqD p p=true:=(Zbo p h h).mpr rfl
theorem str_tri {a b:Str}(h1:¬a.cps.toList < b.cps.toList)(h2:¬b.cps.toList < a.cps.toList):a=b:=by
 obtain ⟨⟨x⟩⟩:=a
 obtain ⟨⟨y⟩⟩:=b
 have:x=y:=List.le_antisymm (List.not_lt.mp h2) (List.not_lt.mp h1)
 rw[this]
mutual
theorem lT_irr:∀(p:PV),pur p=true->lT p p=false
 | .int a,_=>by simp[lT]
 | .str a,_=>by simp[lT,List.lt_irrefl]
 | .tup ps,h=>by unfold pur at h;unfold lT;exact lTs_irr ps h
 | .non,_=>by simp[lT]
 | .bl _,_=>by simp[lT]
 | .lst _,_=>by simp[lT]
 | .dct _ _,_=>by simp[lT]
 | .dtt _ _,_=>by simp[lT]
 | .fn _,_=>by simp[lT]
 | .ty _,_=>by simp[lT]
theorem lTs_irr:∀(ps:List PV),purs ps=true->lTs ps ps=false
 | [],_=>by simp[lTs]
 | p::ps,h=>by
  unfold purs at h;rw[Yt] at h
  unfold lTs;rw[Zbb h.1,if_pos rfl];exact lTs_irr ps h.2
end
mutual
theorem lT_tri:∀(p:PV) {q:PV},pur p=true->pur q=true->lT p q=false->lT q p=false->p=q
 | .int a,q,_,hq,h1,h2=>by
  cases q<;>simp[lT,pur] at h1 h2 hq ⊢
  lia
 | .str a,q,_,hq,h1,h2=>by
  cases q with
  | str b=>
   unfold lT at h1 h2
   have:a=b:=str_tri (of_decide_eq_false h1) (of_decide_eq_false h2)
   rw[this]
  | int _=>simp[lT] at h2
  | tup _=>simp[lT] at h1
  | _=>simp[pur] at hq
 | .tup ps,q,h,hq,h1,h2=>by
  unfold pur at h
  cases q with
  | tup qs=>unfold pur at hq;unfold lT at h1 h2;rw[lTs_tri ps h hq h1 h2]
  | int _=>simp[lT] at h2
  | str _=>simp[lT] at h2
  | _=>simp[pur] at hq
 | .non,q,h,_,_,_=>by simp[pur] at h
 | .bl _,q,h,_,_,_=>by simp[pur] at h
 | .lst _,q,h,_,_,_=>by simp[pur] at h
 | .dct _ _,q,h,_,_,_=>by simp[pur] at h
 | .dtt _ _,q,h,_,_,_=>by simp[pur] at h
 | .fn _,q,h,_,_,_=>by simp[pur] at h
 | .ty _,q,h,_,_,_=>by simp[pur] at h
theorem lTs_tri:∀(ps:List PV) {qs:List PV},purs ps=true->purs qs=true->lTs ps qs=false->lTs qs ps=false->ps=qs
 | [],qs,_,_,h1,h2=>by cases qs<;>simp[lTs] at h1 h2 ⊢
 | p::ps,qs,h,hq,h1,h2=>by
  unfold purs at h;rw[Yt] at h
  cases qs with
  | nil=>simp[lTs] at h2
  | cons q qs=>
   unfold purs at hq;rw[Yt] at hq
   unfold lTs at h1 h2
   by_cases e:p=q
   ·subst e
    rw[Zbb h.1,if_pos rfl] at h1 h2
    rw[lTs_tri ps h.2 hq.2 h1 h2]
   ·rw[if_neg (fun z=>e ((Zbo p h.1 hq.1).mp z))] at h1
    rw[if_neg (fun z=>e ((Zbo q hq.1 h.1).mp z).symm)] at h2
    exact absurd (lT_tri p h.1 hq.1 h1 h2) e
end
mutual
theorem lT_tr:∀(p:PV) {q r:PV},pur p=true->pur q=true->pur r=true->lT p q=true->lT q r=true->lT p r=true
 | .int a,q,r,_,hq,hr,h1,h2=>by
  cases q<;>cases r<;>simp[lT,pur] at h1 h2 hq hr ⊢
  lia
 | .str a,q,r,_,hq,hr,h1,h2=>by
  cases q<;>cases r<;>simp[lT,pur] at h1 h2 hq hr ⊢
  exact List.lt_trans h1 h2
 | .tup ps,q,r,h,hq,hr,h1,h2=>by
  unfold pur at h
  cases q with
  | tup qs=>
   cases r with
   | tup rs=>unfold pur at hq hr;unfold lT at h1 h2 ⊢;exact lTs_tr ps h hq hr h1 h2
   | _=>simp[lT] at h2
  | _=>simp[lT] at h1
 | .non,q,r,h,_,_,_,_=>by simp[pur] at h
 | .bl _,q,r,h,_,_,_,_=>by simp[pur] at h
 | .lst _,q,r,h,_,_,_,_=>by simp[pur] at h
 | .dct _ _,q,r,h,_,_,_,_=>by simp[pur] at h
 | .dtt _ _,q,r,h,_,_,_,_=>by simp[pur] at h
 | .fn _,q,r,h,_,_,_,_=>by simp[pur] at h
 | .ty _,q,r,h,_,_,_,_=>by simp[pur] at h
theorem lTs_tr:∀(ps:List PV) {qs rs:List PV},purs ps=true->purs qs=true->purs rs=true->lTs ps qs=true->lTs qs rs=true->lTs ps rs=true
 | [],qs,rs,_,_,_,h1,h2=>by cases qs<;>cases rs<;>simp[lTs] at h1 h2 ⊢
 | p::ps,qs,rs,h,hq,hr,h1,h2=>by
  unfold purs at h;rw[Yt] at h
  cases qs with
  | nil=>simp[lTs] at h1
  | cons q qs=>
   cases rs with
   | nil=>simp[lTs] at h2
   | cons r rs=>
    unfold purs at hq hr;rw[Yt] at hq hr
    unfold lTs at h1 h2 ⊢
    by_cases e:p=q
    ·subst e
     rw[Zbb h.1,if_pos rfl] at h1
     by_cases e2:p=r
     ·subst e2
      rw[Zbb h.1,if_pos rfl] at h2 ⊢
      exact lTs_tr ps h.2 hq.2 hr.2 h1 h2
     ·have ne:=fun z=>e2 ((Zbo p h.1 hr.1).mp z)
      rw[if_neg ne] at h2 ⊢;exact h2
    ·rw[if_neg (fun z=>e ((Zbo p h.1 hq.1).mp z))] at h1
     by_cases e2:q=r
     ·subst e2
      rw[if_neg (fun z=>e ((Zbo p h.1 hq.1).mp z))];exact h1
     ·rw[if_neg (fun z=>e2 ((Zbo q hq.1 hr.1).mp z))] at h2
      have t:=lT_tr p h.1 hq.1 hr.1 h1 h2
      by_cases e3:p=r
      ·subst e3;rw[lT_irr p h.1] at t;cases t
      ·rw[if_neg (fun z=>e3 ((Zbo p h.1 hr.1).mp z))];exact t
end
mutual
theorem ltD_lT:∀(p:PV) {q:PV} {c:Bool},ltD p q=some c->c=lT p q
 | .int a,q,c,e=>by cases q<;>simp[ltD,lT] at e ⊢<;>exact e.symm
 | .str a,q,c,e=>by cases q<;>simp[ltD,lT] at e ⊢<;>exact e.symm
 | .tup ps,q,c,e=>by
  cases q with
  | tup qs=>unfold ltD at e;unfold lT;exact lexD_lT ps e
  | _=>simp[ltD] at e
 | .non,q,c,e=>by simp[ltD] at e
 | .bl _,q,c,e=>by simp[ltD] at e
 | .lst _,q,c,e=>by simp[ltD] at e
 | .dct _ _,q,c,e=>by simp[ltD] at e
 | .dtt _ _,q,c,e=>by simp[ltD] at e
 | .fn _,q,c,e=>by simp[ltD] at e
 | .ty _,q,c,e=>by simp[ltD] at e
theorem lexD_lT:∀(ps:List PV) {qs:List PV} {c:Bool},lexD ps qs=some c->c=lTs ps qs
 | [],qs,c,e=>by cases qs<;>simp[lexD,lTs] at e ⊢<;>simp[e]
 | p::ps,qs,c,e=>by
  cases qs with
  | nil=>simp[lexD,lTs] at e ⊢;simp[e]
  | cons q qs=>
   unfold lexD at e;unfold lTs
   split at e
   ·rename_i z;rw[if_pos z];exact lexD_lT ps e
   ·rename_i z;rw[if_neg z];exact ltD_lT p e
end
theorem purs_mem:∀{ps:List PV},purs ps=true->∀p∈ps,pur p=true
 | [],_,p,hp=>by cases hp
 | q::ps,h,p,hp=>by
  unfold purs at h;rw[Yt] at h
  rcases Ys.mp hp with rfl | hp
  ·exact h.1
  ·exact purs_mem h.2 p hp
theorem oP_eq {ps:List PV}(h1:1<=ps.length)(hc:cmpAll ps=true)(i j:Nat):oP ps i j=lT (ps.getD (min i (ps.length - 1)) .non) (ps.getD (min j (ps.length - 1)) .non):=by
 have mi:=Zb9 (ps:=ps) (i:=min i (ps.length - 1)) 1e3
 have mj:=Zb9 (ps:=ps) (i:=min j (ps.length - 1)) 1e3
 obtain ⟨c,e⟩:=WD.mp (YM.mp (YM.mp hc _ mi) _ mj)
 unfold oP;rw[e];exact ltD_lT _ e
theorem wk_of {ps:List PV}(h1:1<=ps.length)(hc:cmpAll ps=true)(hp:purs ps=true):Wk (oP ps):=by
 have P:∀i,pur (ps.getD (min i (ps.length - 1)) .non)=true:=fun i=>purs_mem hp _ (Zb9 1e3)
 have irr:∀a,oP ps a a=false:=fun a=>by rw[oP_eq h1 hc];exact lT_irr _ (P a)
 have asy:∀a b,oP ps a b=true->oP ps b a=false:=fun a b h=>by
  rw[oP_eq h1 hc] at h ⊢
  cases e:lT (ps.getD (min b (ps.length - 1)) .non) (ps.getD (min a (ps.length - 1)) .non) with
  | false=>rfl
  | true=>
   have t:=lT_tr _ (P a) (P b) (P a) h e
   rw[lT_irr _ (P a)] at t;cases t
 refine ⟨irr,asy,fun a b c h2 h3=>?_⟩
 rw[oP_eq h1 hc] at h2 h3 ⊢
 cases e:lT (ps.getD (min c (ps.length - 1)) .non) (ps.getD (min a (ps.length - 1)) .non) with
 | false=>rfl
 | true=>
  cases e2:lT (ps.getD (min a (ps.length - 1)) .non) (ps.getD (min b (ps.length - 1)) .non) with
  | true=>rw[lT_tr _ (P c) (P a) (P b) e e2] at h3;cases h3
  | false=>rw[lT_tri _ (P a) (P b) e2 h2] at e;rw[e] at h3;cases h3
theorem ZbR (ps:List PV):(Yk ps.length).map (fun i=>ps.getD i .non)=ps:=by
 apply YZ
 intro i
 rw[YI]
 by_cases hi:i < ps.length
 ·rw[Vk hi];simp[hi]
 ·rw[Xq 12e1,Xq 1e3];rfl
theorem Zdg {ps:List PV}(hc:cmpAll ps=true)(hp:purs ps=true):(sortL ps).Perm ps:=by
 unfold sortL perm
 split
 ·rw[ZbR]
 ·rename_i h2
  have S:=(sort_ok (wk_of 1e3 hc hp) (n:=ps.length) 1e3).1
  have:=(Wv.mp S).map fun i=>ps.getD i .non
  rw[show (Wr (Yk ps.length)).toList=Yk ps.length by simp,ZbR] at this
  exact this
end Pu
namespace Pu
open PySem PySem.W PySem.Calls
open PyProof.Rows hiding St Fr
theorem Za5:entryFor table "dict.update.loop"=some VW.«dict.update.loop»:=entryFor_of_tree (by kernel_rfl)
theorem ZaJ:plainId "dict.update.loop"=true:=by decide +kernel
section
variable {prog:Yx}{w:World}{K:Type} [DecidableEq K]{knd:HeapKind prog w K}
noncomputable def putAll (key:Nat->K×Addr×Value)(i:Nat):List (K×Addr×Value):=((Yk i).map key).foldl (fun xs x=>VT xs x.1 x.2.1 x.2.2) []
theorem ZbW (key:Nat->K×Addr×Value)(i:Nat):putAll key (i + 1)=VT (putAll key i) (key i).1 (key i).2.1 (key i).2.2:=by
 unfold putAll;rw[List.range_succ,Xf,List.foldl_append];rfl
theorem Zdm (key:Nat->K×Addr×Value):∀i,(putAll key i).length<=i
 | 0=>Yh _
 | i + 1=>by
  rw[ZbW];unfold VT
  have:=Zdm key i
  split
  ·rw[Yv];lia
  ·rw[Y0];simp;lia
theorem ZbM (key:Nat->K×Addr×Value):∀i,∀x∈putAll key i,∃j,j < i/\x.1=(key j).1/\x.2.1=(key j).2.1
 | 0,x,hx=>by cases hx
 | i + 1,x,hx=>by
  rw[ZbW] at hx;unfold VT at hx
  split at hx
  ·obtain ⟨y,hy,rfl⟩:=Yy.mp hx
   obtain ⟨j,hj,e1,e2⟩:=ZbM key i y hy
   refine ⟨j,by lia,?_,?_⟩
   ·rw[←e1];unfold putAt;split<;>first | rfl | (rename_i h;exact h.symm)
   ·rw[←e2];unfold putAt;split<;>rfl
  ·rcases YB.mp hx with hx | hx
   ·obtain ⟨j,hj,e⟩:=ZbM key i x hx
    exact ⟨j,by lia,e⟩
   ·rw[Yw] at hx;subst hx
    exact ⟨i,by lia,rfl,rfl⟩
variable {A:Around}{R:Result->Shared->Prop}{I:Addr}{fp wr:3e8}{G:Array GenState->Array GenState->Prop}{n:Nat}{P:Nat->Value->Prop}{St:Nat->Shared->Prop}
def KeepO (d:Addr)(wr:3e8)(h h':Heap):Prop:=∀b u,b≠d->b∉wr->h.get? b=some u->h'.get? b=some u
theorem dict_loop (W:WalksS prog w A.in1 I fp wr G n P St)(d:Addr)(hdf:d∉fp)(h0:Heap)(key:Nat->K×Addr×Value)
  (hP:∀i v,P i v->∃t o m,v=.ref t/\h0.get? t=some o/\o.cls=.type "tuple"/\o.data=.seq #[.ref (key i).2.1,(key i).2.2] m/\t≠d/\t∉wr)
  (hK:∀i h',i < n->KeepO d wr h0 h'->knd.is h' (key i).1 (key i).2.1) (hu:knd.room A.in1) (hn:n<=Yo):
  ∀(k i:Nat) (s:Shared),n - i=k->i<=n->St i s->KeepO d wr h0 s.heap->s.heap.DictOfH knd d (putAll key i)->
   (∀s',Moved (d::wr) G s s'->s'.heap.DictOfH knd d (putAll key n)->R (.ok (.ret .none)) s')->
   Vh 6e1 A (.builtin "dict.update.loop" ⟨[.ref d,.ref I,rawInt i,.none],[]⟩) R s:=by
 have hdw:d∉wr:=fun h=>hdf (W.sub _ h)
 have hsub:∀b∈wr,b∈d::wr:=fun b hb=>YL _ hb
 have keepD:∀{s s':Shared} {xs:List (K×Addr×Value)},Moved wr G s s'->KeepO d wr h0 s'.heap->(∀x∈xs,∃i,i < n/\x.1=(key i).1/\x.2.1=(key i).2.1)->s.heap.DictOfH knd d xs->s'.heap.DictOfH knd d xs:=fun hm hk hx hd=>by
  obtain ⟨o,es,ep,ho,hc,hdt,he,his,hnd⟩:=hd
  refine ⟨o,es,ep,hm.heap d _ hdw ho,hc,hdt,he,fun x hx'=>?_,hnd⟩
  obtain ⟨i,hi,e1,e2⟩:=hx x hx'
  rw[e1,e2];exact hK i _ hi hk
 intro k
 induction k with
 | zero=>
  intro i s hk hi hst hko hd hR
  have hin:i=n:=by lia
  subst hin
  refine Ws Za5 ?_
  rw[Va ZaJ _]
  show wpAny _ A.in1 (pyNext (.ref I) >>= _) _ _ s
  refine Yb (W.done s _ _ hst fun s' hm=>?_)
  show wpAny _ A.in1 (Builtin.Dict.addKeywords d [] >>= fun _=>PySem.ret Xw) _ _ s'
  refine Yb (Yg ?_)
  exact Yg (hR s' (hm.mono hsub) (keepD hm (fun b u n1 n2 e=>hm.heap b u n2 (hko b u n1 n2 e)) (fun x hx=>ZbM key _ x hx) hd))
 | succ k ih=>
  intro i s hk hi hst hko hd hR
  have hlt:i < n:=by lia
  refine Ws Za5 ?_
  rw[Va ZaJ _]
  show wpAny _ A.in1 (pyNext (.ref I) >>= _) _ _ s
  refine Yb (W.item i s _ _ hlt hst fun v s' hPv hst' hm=>?_)
  obtain ⟨t,o,m,rfl,hto,hcl,hdt,htd,htw⟩:=hP i v hPv
  have hko':KeepO d wr h0 s'.heap:=fun b u n1 n2 e=>hm.heap b u n2 (hko b u n1 n2 e)
  have hd':=keepD hm hko' (fun x hx=>by obtain ⟨j,hj,e⟩:=ZbM key i x hx;exact ⟨j,by lia,e⟩) hd
  have hto':=hko' t o htd htw hto
  dsimp only
  refine Yb (Xb ?_)
  refine Yb (wpAny_tryCatch ?_)
  unfold Builtin.Dict.pairItems
  refine Yb (W3 ⟨o,hto',hcl⟩ ?_)
  rw[if_pos 1e4]
  refine Yb (wpAny_seqItems hto' hdt ?_)
  refine Yg ?_
  show wpAny _ A.in1 (VP [.ref (key i).2.1,(key i).2.2] (dictSet d (.ref (key i).2.1) (key i).2.2)) _ _ s'
  refine Xb ?_
  refine wpAny_dictSet_heap hu (hK i _ hlt hko') hd' (fun h' hd2 hsb=>?_) (Yz (Zdm key i) 1e3)
  rw[←ZbW] at hd2
  refine Yg ⟨plainId_quiet ZaJ _,?_⟩
  refine ih (i + 1) _ 1e3 hlt (W.frame _ s' _ _ hst' (VM _ _) fun b hb o e=>?_) (fun b u n1 n2 e=>?_) hd2 fun s'' hm'' hS''=>?_
  ·rw[hsb.2 b (fun h:b=d=>hdf (by rw[←h];exact hb))];exact e
  ·rw[hsb.2 b n1];exact hko' b u n1 n2 e
  ·refine hR s'' (Moved.trans W.gtrans ((hm.mono hsub).then_heap (VM _ _) fun b o hb e=>?_) hm'') hS''
   rw[hsb.2 b (fun h:b=d=>hb (by rw[h];exact YS))];exact e
end
end Pu
namespace Pu
open PySem
theorem lk_list_keys:typeLookup (.type "list") "keys"=pure none:=by rw[typeLookup_type,builtinLookup_eq_fast];kernel_rfl
theorem list_no_keys {prog:Yx}{w:World}{A:Around}{E:1e7}{hp:Heap}{g:Array GenState}{d:Drawn}{t:Nat}{os:OsState}{a:Addr}{xs:Array Value}{n:Nat}{sl:Array (Option Value)}{Q:Option Value->Shared->Prop}
  (hx:hp.get? a=some { cls:=.type "list",dict:=none,data:=.seq xs n,slots:=sl }) (hA:A.handled=none)
  (h:∀h' tk,(∀b u,hp.get? b=some u->h'.get? b=some u)->Q none ⟨h',g,d,tk,os⟩):wpAny 6e1 A (getAttr? (.ref a) "keys") Q E ⟨hp,g,d,t,os⟩:=by
 have ty:∀t',Shared.TypeIs ⟨hp,g,d,t',os⟩ (.ref a) "list":=fun _=>⟨_,hx,rfl⟩
 have hook:=am_list_getattr_none
 have seen:=WG.lookup
 have bound:=WG.bind (.ref a)
 have sub:=sub_AttributeError
 have none_there:=fun u=>meets_getattribute_miss_list a xs n sl "keys" u lk_list_keys 1e4 (by rw[YE];decide)
 delta getAttr? getAttrBy? getAttrBy
 repeat first
  | exact ty _
  | ((with_reducible change wpAny _ _ (call (Value.builtin "list.__getattribute__") _ _) _ _ _);refine Ve (id:="list.__getattribute__") WG (ty _) am_entry_list_getattribute (F.args_list_getattribute_2 _ _) (none_there _) ?_)
  | assumption
  | wp_step
 refine ⟨hx,hA,fun h1 t1 e new=>?_⟩
 obtain ⟨t2,u2,at_e⟩:=new.there
 change wpAny _ _ (getattributeRaised _ _ _ _ _ _ _) _ _ _
 delta getattributeRaised
 repeat first | assumption | wp_step
 all_goals exact h _ _ new.keeps
end Pu
namespace Pu
open PySem PySem.W PySem.Calls
open PyProof.Rows hiding St Fr
section
variable {prog:Yx}{w:World}{K:Type} [DecidableEq K]{knd:HeapKind prog w K}{A:Around}{E:1e7}{s:Shared}
theorem Zdc {l:Addr}{us:3e9}{m:Nat}{sl:Array (Option Value)}{Q:1e7}(hh:A.handled=none)(hl:s.heap.get? l=some { cls:=.type "list",dict:=none,data:=.seq us.toArray m,slots:=sl })(key:Nat->K×Addr×Value)
  (hP:∀i v,us[i]? = some v->∃t o k,v=.ref t/\s.heap.get? t=some o/\o.cls=.type "tuple"/\o.data=.seq #[.ref (key i).2.1,(key i).2.2] k)
  (hK:∀i h',i < us.length->10e0->knd.is h' (key i).1 (key i).2.1) (hu:∀A':Around,A'.units<=A.units + 8->knd.room A') (hn:us.length<=Yo)
  (h:∀h' tk,10e0->h'.DictOfH knd s.heap.objs.size (putAll key us.length)->Q 9e1 { s with heap:=h',toks:=tk }):
  wpAny 6e1 A (call (.type "dict") [.ref l]) Q E s:=by
 refine callType_codes (Q₁:=fun obj s₁=>obj=.ref s.heap.objs.size/\s₁={ s with heap:=s.heap.push { cls:=.type "dict",data:=.dict #[] } }) F.kt_called_dict (F.kt_typeCall_dict_1 _) F.entry_dict_init (kt_code_dict_new _ ⟨rfl,rfl⟩) ?_
 rintro obj s₁ ⟨rfl,rfl⟩
 have hnew:(s.heap.push { cls:=.type "dict",data:=.dict #[] }).DictOfH knd s.heap.objs.size []:=Heap.DictOfH.new s.heap
 have hl':(s.heap.push { cls:=.type "dict",data:=.dict #[] }).get? l=some { cls:=.type "list",dict:=none,data:=.seq us.toArray m,slots:=sl }:=Ya _ hl
 have hT:({ s with heap:=s.heap.push { cls:=.type "dict",data:=.dict #[] } }:Shared).TypeIs (.ref l) "list":=⟨_,hl',rfl⟩
 have own:∀{A':Around} {P:Addr×List Value->Shared->Prop} {B:1e7},P (s.heap.objs.size,[.ref l]) { s with heap:=s.heap.push { cls:=.type "dict",data:=.dict #[] } }->wpAny (model prog w) A' (Builtin.Dict.selfAndRest "__init__" ⟨[.ref s.heap.objs.size,.ref l],[]⟩) P B { s with heap:=s.heap.push { cls:=.type "dict",data:=.dict #[] } }:=fun z=>by
  delta Builtin.Dict.selfAndRest
  exact Yb (W7 hnew.typeIs (Yg z))
 refine ⟨hnew.typeIs,F.args_dict_init_2 _ _,?_⟩
 delta VW.«dict.__init__»
 apply Yb
 apply own
 change wpAny _ _ (Builtin.Dict.updateFrom "dict.__init__" s.heap.objs.size (.ref l) [] .none) _ _ _
 delta Builtin.Dict.updateFrom
 apply Yb
 refine W3 hT ?_
 rw[if_pos 1e4]
 refine Yb (list_no_keys hl' (by simp[hh]) fun h1 tk1 k1=>?_)
 have hl1:=k1 l _ hl'
 have hL1:h1.IsList l us.toArray:=⟨_,hl1,rfl,m,rfl⟩
 have hd1:h1.DictOfH knd s.heap.objs.size []:=by
  obtain ⟨o,es,ep,ho,hc,hdt,he,his,hnd⟩:=hnew
  exact ⟨o,es,ep,k1 _ _ ho,hc,hdt,he,fun x hx=>(by cases hx),hnd⟩
 refine wpAny_ite_split (fun _=>?_) (fun hno=>absurd rfl hno)
 refine Yb (wpAny_rule ?_)
 refine Yb (wpAny_pyIter_list hL1 ?_)
 have hdl:s.heap.objs.size < h1.objs.size:=by obtain ⟨o,es,ep,ho,_⟩:=hd1;exact Yp ho
 have hll:l < h1.objs.size:=Yp hl1
 have hls:l < s.heap.objs.size:=Yp hl
 refine Yg ⟨plainId_quiet ZaJ _,?_⟩
 refine dict_loop ((Walks.list (by simp[hh]) _ l (Yn hll) us.toArray).toS) s.heap.objs.size ?_ s.heap key (fun i v hv=>?_) (fun i h' hi k=>?_) (hu _ (by simp[YD])) (by simpa using hn) (us.toArray.size - 0) 0 _ 1e3 (Xe _)
  ⟨⟨_,Yq _ rfl,rfl,rfl⟩,hL1.push _⟩ (fun b u n1 n2 e=>Ya _ (k1 b u (Ya _ e))) ?_ fun s' hm hd=>?_
 ·simp only[Ys,Xn,or_false,not_or]
  exact ⟨Yn hdl,XZ hls⟩
 ·obtain ⟨t,o,k,e,ho,hc,hdt⟩:=hP i v (by simpa using hv)
  have ht:t < s.heap.objs.size:=Yp ho
  exact ⟨t,o,k,e,ho,hc,hdt,Yn ht,by simp only[Ys,Xn,or_false];exact Yn (VU ht hdl)⟩
 ·refine hK i h' (by simpa using hi) fun b u e=>k b u (Yn (Yp e)) ?_ e
  simp only[Ys,Xn,or_false]
  exact Yn (VU (Yp e) hdl)
 ·obtain ⟨o,es,ep,ho,hc,hdt,he,his,hnd⟩:=hd1
  exact ⟨o,es,ep,Ya _ ho,hc,hdt,he,fun x hx=>(by cases hx),hnd⟩
 ·rw[Moved.eq_with hm]
  rw[Yf] at hd
  refine ⟨rfl,h s'.heap s'.toks (fun b u e=>?_) hd⟩
  have hb:=Yp e
  refine hm.heap b u (by simp only[Ys,Xn,or_false,not_or];exact ⟨Yn hb,Yn (VU hb hdl)⟩) ?_
  exact Ya _ (k1 b u (Ya _ e))
end
def RawD (h:Heap)(d:Addr)(es:Array WN)(ep:Nat):Prop:=∃o,h.get? d=some o/\o.ExactDict/\o.data=.dict es ep
section
variable {prog:Yx}{w:World}{A:Around}{E:1e7}{s:Shared}{d it:Addr}{es:Array WN}{ep i:Nat}
theorem RawD.at {h h':Heap}(x:RawD h d es ep)(e:∀o,h.get? d=some o->h'.get? d=some o):RawD h' d es ep:=let ⟨o,ho,r⟩:=x;⟨o,e _ ho,r⟩
theorem RawD.ty (x:RawD s.heap d es ep):s.TypeIs (.ref d) "dict":=let ⟨o,ho,hc,_⟩:=x;⟨o,ho,hc.1⟩
theorem RawD.lt {h:Heap}(x:RawD h d es ep):d < h.objs.size:=let ⟨_,ho,_⟩:=x;Yp ho
theorem raw_iter {Q:1e7}(lo:(d==XB)=false)(hm:RawD s.heap d es ep)
  (q:Q 9e1 { s with heap:=s.heap.push { cls:=.type "dict_keyiterator",data:=.fields #[.ref d,.int 0 0,.int es.size 0,.int ep 0] } }):wpAny (model prog w) A (pyIter (.ref d)) Q E s:=by
 obtain ⟨o1,b1,b2,b3⟩:=id hm
 have shows:XQ d=pure ():=by delta XQ;simp only[lo];rfl
 have own:∀{P:1e7} {B:1e7} {A':Around},P (.ref d) s->wpAny 6e1 A' (Builtin.Dict.dictSlotNone "__iter__" ⟨[.ref d],[]⟩) P B s:=fun z=>by
  delta Builtin.Dict.dictSlotNone
  exact Yb (W7 hm.ty (Yg z))
 apply wpAny_pyIter_slot hm.ty F.slot_dict_iter
 apply Xu F.slot_dict_iter hm.ty F.entry_dict_iter _ (F.args_dict_iter_1 _)
 delta VW.«dict.__iter__»
 apply Yb
 apply own
 repeat first
  | refine wpAny_of_eq shows ?_
  | refine W2 b1 b3 ?_
  | refine Vl b1 b3 ?_
  | refine Xp ?_
  | apply Yb
  | apply Yg
 exact ⟨_,rfl,"dict_keyiterator",_,⟨_,Yq _ rfl,rfl⟩,Wl.lookup,by simpa[rawInt] using q⟩
theorem raw_next {Q:Option Value->Shared->Prop}(hh:es[i]? = none->A.handled=none)(hit:s.heap.IsKeyIter it d i es.size ep)(hm:RawD s.heap d es ep)
  (q1:∀e,es[i]? = some e->∀h',h'.IsKeyIter it d (i + 1) es.size ep->WC it s.heap h'->Q (some e.key) { s with heap:=h' })
  (q2:es[i]? = none->∀h',V8 it s.heap h'->Q none { s with heap:=h' }):wpAny (model prog w) A (pyNext (.ref it)) Q E s:=by
 obtain ⟨o1,a1,a2,a3⟩:=id hit
 obtain ⟨o2,b1,b2,b3⟩:=hm
 have one:Wm "dict_keyiterator"=false:=by decide
 have there:(Y7 d==Xw)=false:=rfl
 delta pyNext
 apply Yb
 apply wpAny_attempt
 apply X4 (name:=Vs "__next__") hit.typeIs Wl
 apply Xu Wl hit.typeIs F.entry_dict_keyiterator_next _ (F.args_dict_keyiterator_next_1 _)
 repeat first
  | refine Wc hit.typeIs ?_
  | refine wpAny_fieldsOf a1 a3 ?_
  | refine W2 b1 b3 ?_
  | refine Vl b1 b3 ?_
  | simp only[one,there,bne_self_eq_false,YT,if_false]
  | apply Yb
  | apply Yg
 have up:¬(i:Int) < 0:=by lia
 simp only[up,if_false,XY]
 cases hx:es[i]? with
 | some e=>
  have on:(s.heap.update it (VG (·.setIfInBounds 1 (rawInt ((i:Int) + 1))))).IsKeyIter it d (i + 1) es.size ep:=⟨_,W4 _ a1 (Obj.isFreed_of_fields (WQ a3 _)),(Obj.cls_mapFields ..).trans a2,by rw[WQ a3];simp[rawInt]⟩
  have ty:({ s with heap:=s.heap.update it (VG (·.setIfInBounds 1 (rawInt ((i:Int) + 1)))) }:Shared).TypeIs (.ref it) "dict_keyiterator":=Heap.IsKeyIter.typeIs on
  dsimp only
  repeat first
   | refine Wc hit.typeIs ?_
   | refine wpAny_isOneOf_keyiter hit.typeIs ?_
   | refine wpAny_isOneOf_keyiter ty ?_
   | simp only[one,YT,if_false,V0]
   | refine Vw a1 a3 (by simp) ?_
   | apply Xb
   | apply Yb
   | apply Yg
  exact ⟨_,rfl,Yg (q1 e hx _ on (X7 ..))⟩
 | none=>
  have calm:A.in1.handled=none:=hh hx
  dsimp only
  repeat first
   | refine Wc hit.typeIs ?_
   | simp only[one,YT,if_false,V0]
   | refine Vw a1 a3 (by simp) ?_
   | refine wpAny_alloc' ?_
   | refine wpAny_raiseNew_none calm ?_
   | apply Yb
   | apply Yg
  refine wpAny_loadPart (Yq _ rfl) (Yg ?_)
  have stop:isSubtype (.type "StopIteration") (.type "StopIteration")=pure true:=isSubtype_stop
  dsimp only
  rw[stop]
  exact Yg (Yg (q2 hx _ (((X7 ..).extBut.push _).push _)))
theorem raw_item {e:WN}{Q:Option Value->Shared->Prop}(hit:s.heap.IsKeyIter it d i es.size ep)(hm:RawD s.heap d es ep)(hx:es[i]? = some e)
  (q:∀h',h'.IsKeyIter it d (i + 1) es.size ep->WC it s.heap h'->Q (some e.key) { s with heap:=h' }):wpAny (model prog w) A (pyNext (.ref it)) Q E s:=
 raw_next (fun z=>by rw[hx] at z;cases z) hit hm (fun e' z=>by rw[hx] at z;cases z;exact q) fun z=>by rw[hx] at z;cases z
theorem raw_end {Q:Option Value->Shared->Prop}(hh:A.handled=none)(hit:s.heap.IsKeyIter it d i es.size ep)(hm:RawD s.heap d es ep)(hx:es.size<=i)
  (q:∀h',V8 it s.heap h'->Q none { s with heap:=h' }):wpAny (model prog w) A (pyNext (.ref it)) Q E s:=
 raw_next (fun _=>hh) hit hm (fun e' z=>by rw[Xl hx] at z;cases z) fun _=>q
theorem raw_walks (hh:A.handled=none)(I:Addr)(hne:d≠I):
  Walks prog w A I [I,d] [I] es.size (fun i v=>∃e,es[i]? = some e/\v=e.key) (fun i h=>h.IsKeyIter I d i es.size ep/\RawD h d es ep) where
 sub:=fun b hb=>by rw[Yw.mp hb];exact YS
 frame:=fun _ _ _ st hk=>⟨st.1.at (hk I (.head _)),st.2.at (hk d (.tail _ (.head _)))⟩
 item:=fun i s Q E hi st hQ=>by
  have hx:es[i]? = some es[i]:=Y1 hi
  exact raw_item st.1 st.2 hx fun h' k2 sb=>hQ _ h' s.toks ⟨_,hx,rfl⟩ ⟨k2,st.2.at fun o e=>sb.extBut d o hne e⟩ fun b o hb e=>sb.extBut b o (fun z=>hb (Yw.mpr z)) e
 done:=fun s Q E st hQ=>raw_end hh st.1 st.2 (Yh _) fun h' x=>hQ h' s.toks fun b o hb e=>x b o (fun z=>hb (Yw.mpr z)) e
 self:=fun _ _ _ _ st hQ=>wpAny_pyIter_keyiter st.1 hQ
theorem raw_src (lo:(d==XB)=false):KdlSrc prog w "dict" d d es.size (fun i v=>∃e,es[i]? = some e/\v=e.key) (fun h=>RawD h d es ep) where
 type:=fun _ hm=>hm.ty
 there:=fun _ hm=>⟨hm.lt,hm.lt⟩
 keep:=fun _ _ hm hk=>hm.at (hk d (.inl rfl))
 notList:=by decide
 notTuple:=by decide
 hint:=fun _ _ _ _ hm hq=>kdl_hint_dict hm.ty hq
 iter:=fun _ _ hh hm=>⟨_,_,fun _ _ hq=>raw_iter lo hm hq,raw_walks hh _ (Yn hm.lt),⟨_,Yq _ rfl,rfl,rfl⟩,hm.at fun o e=>Ya _ e⟩
end
section
variable {prog:Yx}{w:World}{A:Around}{E:1e7}{s:Shared}{T:String}{r d:Addr}{n:Nat}{P:Nat->Value->Prop}{OK:Heap->Prop}
theorem ext_src {R:Result->Shared->Prop}(K:KdlSrc prog w T r d n P OK)(hh:A.handled=none)(hok:OK s.heap)(S:Addr)(hSr:S≠r)(hSd:S≠d)(c₀:Nat)(hS:s.heap.get? S=some { cls:=.type "list",data:=.seq #[] c₀ })(hn:n<=Yo)
  (hR:∀h' tk acc c,(∀b o,b≠S->s.heap.get? b=some o->h'.get? b=some o)->h'.get? S=some { cls:=.type "list",dict:=none,data:=.seq acc c,slots:=#[] }->ItemsOf P acc n->R (.ok (.ret (.ref S))) { s with heap:=h',toks:=tk }):
  Vh 6e1 A (.builtin "list.__iadd__" ⟨[.ref S,.ref r],[]⟩) R s:=by
 refine Ws entry_list_iadd' ?_
 rw[Va (show plainId "list.__iadd__"=true by decide +kernel) _]
 exact kdl_extend K hh hok S hSr hSd (.ref S) c₀ hS hR hn
theorem Zda {Q:List Value->Shared->Prop}(K:KdlSrc prog w T r d n P OK)(hh:A.handled=none)(hok:OK s.heap)(hn:n<=Yo)
  (h:∀h' tk acc,(∀b o,s.heap.get? b=some o->h'.get? b=some o)->s.heap.objs.size<=h'.objs.size->ItemsOf P acc n->Q acc.toList { s with heap:=h',toks:=tk }):wpAny (model prog w) A (collect (.ref r)) Q E s:=by
 unfold collect
 refine Yb (wpAny_runValue (Ws entry_proto_collect' ?_))
 refine Yb (WP (Yg ⟨Code.quiet_builtin _ (by decide +kernel),?_⟩))
 have hS:(s.heap.push (seqObj "list" #[] 0)).get? s.heap.objs.size=some { cls:=.type "list",data:=.seq #[] 0 }:=Yq _ rfl
 have hlt:=K.there _ hok
 refine ext_src (s:={ s with heap:=s.heap.push (seqObj "list" #[] 0) }) K hh (K.keep _ _ hok fun b _ o e=>Ya _ e) s.heap.objs.size (XZ hlt.1) (XZ hlt.2) 0 hS hn fun h' tk acc c k e ai=>?_
 refine Yb (wpAny_load e ?_)
 exact Yg (h h' tk acc (fun b o z=>k b o (Yn (Yp z)) (Ya _ z)) (VO (Yp e)) ai)
end
section
variable {prog:Yx}{w:World}{A:Around}{E:1e7}{s:Shared}{vs:3e9}{κ:VE}{o:Nat->Nat->Bool}
theorem Zcf {v:Value}{Q:1e7}(hcol:∀(Q':List Value->Shared->Prop),(∀h1 tk,(∀b u,s.heap.get? b=some u->h1.get? b=some u)->s.heap.objs.size<=h1.objs.size->Q' vs { s with heap:=h1,toks:=tk })->wpAny (model prog w) A.in1 (collect v) Q' E s)(h64:vs.length < 64)
  (hk:2<=vs.length->∀h' tk,10e0->∀Q:VE->Shared->Prop,Q κ { s with heap:=h',toks:=tk }->wpAny (model prog w) A.in1.in1 (keyKind' vs.toArray) Q (fun _ _=>False) { s with heap:=h',toks:=tk })
  (hc:2<=vs.length->∀h' tk,10e0->∀i j (C:Bool->Shared->Prop),i < vs.length->j < vs.length->C (o i j) { s with heap:=h',toks:=tk }->kas_ask prog w A.in1.in1 κ vs i j C { s with heap:=h',toks:=tk })
  (h:∀D h' tk c,s.heap.objs.size<=D->10e0->h'.get? D=some (seqObj "list" (outs2 o vs).toArray c)->Q (.ref D) { s with heap:=h',toks:=tk }):
  wpAny 6e1 A (call (.builtin "sorted") [v]) Q E s:=by
 refine Calls.call_function_entry kind_sorted plain_sorted entry_sorted (args_sorted1 _) ?_
 unfold VW.«sorted»
 refine Yb (m:=checkCount "sorted" 1 1 _) (Yg ?_);refine Yb (hcol _ fun h1 tk kp hle=>?_)
 refine Yb (WP ?_ (by rw[YE];lia))
 have hoL:(h1.push (seqObj "list" vs.toArray 0)).get? h1.objs.size=some (seqObj "list" vs.toArray 0):=Yq _ rfl
 have keep:∀b u,s.heap.get? b=some u->(h1.push (seqObj "list" vs.toArray 0)).get? b=some u:=fun b u e=>Ya _ (kp b u e)
 have kb:∀h',KeepBut h1.objs.size (h1.push (seqObj "list" vs.toArray 0)) h'->∀b u,s.heap.get? b=some u->h'.get? b=some u:=fun h' k b u e=>
  k b u (Yn (Yr (Yp e) hle)) (keep b u e)
 show wpAny _ _ _ _ _ { s with heap:=h1.push (seqObj "list" vs.toArray 0),toks:=tk }
 refine Yb (Xb (Xu slot_list_sort ⟨_,hoL,rfl⟩ entry_list_sort ?body (args_list_sort _)))
 case body=>
  by_cases h2:vs.length < 2
  ·refine lsort_few (s:={ s with heap:=h1.push (seqObj "list" vs.toArray 0),toks:=tk }) hoL h2 fun h' c k e=>⟨_,rfl,Yg ⟨_,rfl,h _ h' tk c hle (kb h' k) ?_⟩⟩
   unfold outs2;rw[if_pos h2];exact e
  ·refine lsort_at (s:={ s with heap:=h1.push (seqObj "list" vs.toArray 0),toks:=tk }) (κ:=κ) (o:=o) hoL (by lia) h64 (fun h' k=>hk (by lia) h' tk (kb h' k)) (fun h' k=>hc (by lia) h' tk (kb h' k)) fun h' c k e=>⟨_,rfl,Yg ⟨_,rfl,h _ h' tk c hle (kb h' k) ?_⟩⟩
   unfold outs2;rw[if_neg h2];exact e
end
end Pu
namespace Pu
open PySem PySem.Spec PySem.W PySem.Calls L2 PySem.SeqAt
open PyProof.Rows hiding St Fr
def tupK (k:9e2):PV:=.tup (k.map kP)
noncomputable def keyOk:Key->Bool
 | .inl _=>true
 | .inr x=>decide (x.length<=1000)
def keysOk (ks:List 9e8):Bool:=ks.all fun k=>k.all keyOk
theorem rep_kP {K:W.Frag}{ι:3e8}{H:Hp}:∀{k:Key},keyOk k=true->Rep K ι H (kP k) (kV k)
 | .inl i,_=>repI
 | .inr x,h=>repS (k1000 (of_decide_eq_true h))
theorem reps_kP {K:W.Frag}{ι:3e8}{H:Hp}:∀{k:9e2},k.all keyOk=true->Reps K ι H (k.map kP) (k.map kV)
 | [],_=>.nil
 | x::k,h=>by
  rw[VC,Yt] at h
  exact .cons (rep_kP h.1) (reps_kP h.2)
theorem rep_tupK {K:W.Frag}{ι:3e8}{H:Hp}{k:9e2}{b:Addr}(h:k.all keyOk=true)(e:H b=some (.tup (k.map kV))):Rep K ι H (tupK k) (.ref b):=by
 unfold tupK Rep;exact ⟨b,_,rfl,e,reps_kP h⟩
theorem kt_reps {K:W.Frag}{ι:3e8}{H:Hp}{kvs:7e9}{xs:List 7e2}(r:KT H kvs xs)(h:keysOk (kvs.map (·.1))=true):Reps K ι H (kvs.map fun q=>tupK q.1) (xs.map fun x=>V.ref x.2.1):=by
 induction r with
 | nil=>exact .nil
 | @cons p q ps qs a t ih=>
  rw[Yu] at h
  unfold keysOk at h
  rw[VC,Yt] at h
  exact .cons (rep_tupK h.1 a.2.1) (ih h.2)
theorem ZcI:∀(xs:List 7e2),Vals (xs.map fun x=>V.ref x.2.1) (xs.map fun x=>Y7 x.2.1)
 | []=>.nil
 | x::xs=>.cons rfl (ZcI xs)
theorem items_raw {xs:List 7e2}{es:Array WN}{prog:Yx}{w:World}{acc:Array Value}(he:es.toList=xs.map (entryOfKey (WI (mixKind prog w))))(h:ItemsOf (fun i v=>∃e,es[i]? = some e/\v=e.key) acc es.size):acc.toList=xs.map fun x=>Y7 x.2.1:=by
 have hl:es.size=xs.length:=V1 he
 apply YZ
 intro i
 rw[XA,YI]
 by_cases hi:i < acc.size
 ·obtain ⟨e,e1,e2⟩:=h.2 i _ (Y1 hi)
  rw[Y1 hi,e2]
  rw[entry_at he] at e1
  cases hx:xs[i]? with
  | none=>rw[hx] at e1;cases e1
  | some x=>rw[hx] at e1;cases e1;rfl
 ·rw[Xl 1e3,Xq (by have:=h.1;lia)];rfl
section
variable {X:Cx}
def rSortedD (K:W.Frag):List V->Hp->VK->Prop:=fun xs H Q=>∃p kvs,xs=[.ref p]/\Rd H p (.dT kvs)/\keysOk (kvs.map (·.1))=true/\(sortP (kvs.map fun q=>tupK q.1)).isSome=true/\
 ∀ys:List V,(∀ι,Reps K ι H (kvs.map fun q=>tupK q.1) ys)->∀l,H l=none->Q (.ref l) (upd H l (.lst (sortV (kvs.map fun q=>tupK q.1) ys)))
theorem call_sortedD (hcm:11e3)(hu:6e7):CallR X (.builtin "sorted") (rSortedD X.K):=by
 intro pins s σ H xs us Q I r h
 obtain ⟨p,kvs,rfl,hq,hko,hs,q⟩:=h
 obtain ⟨u,rfl,rx⟩:=vals1 r
 cases rx
 obtain ⟨hz,lo,xs,kt,o,es,ep,ho,hex,hda,he,his,hnd⟩:=dt_rd I.hok hq
 have hl:es.size=xs.length:=V1 he
 have hkl:kvs.length=xs.length:=XO kt
 generalize hps:(kvs.map fun q=>tupK q.1)=ps at hs q
 have hpl:ps.length=kvs.length:=by rw[←hps,Yv]
 have rs:∀ι,Reps X.K ι H ps (xs.map fun x=>V.ref x.2.1):=fun ι=>by rw[←hps];exact kt_reps kt hko
 unfold sortP at hs
 split at hs
 ·rename_i hh
  simp only[Yt,decide_eq_true_eq] at hh
  obtain ⟨⟨⟨⟨hd,hde⟩,h64⟩,hso⟩,hcm'⟩:=hh
  have hr:=Reps.heap I ps (rs []) (ZcI xs) hd
  have hvl:(xs.map fun x=>Y7 x.2.1).length=ps.length:=by rw[Yv];lia
  refine Zcf (vs:=xs.map fun x=>Y7 x.2.1) (κ:=kindP ps) (o:=oP ps) (fun Q' q'=>?_) 1e3 (fun h2 h' tk k Q' q'=>?_) (fun h2 h' tk k i j C hi hj hC=>?_) (fun D h' tk c hD k e=>?_)
  ·refine Zda (raw_src (es:=es) (ep:=ep) lo) (I.ok.hd hcm) ⟨o,ho,hex,hda⟩ (by rw[YE];lia) fun h' tk acc k hle ai=>?_
   rw[items_raw he ai]
   exact q' h' tk k hle
  ·exact kind_of (s:={ s with heap:=h',toks:=tk }) (hr.keep k) h2 hso q'
  ·exact ask_of (s:={ s with heap:=h',toks:=tk }) (hr.keep k) hso hcm' (by rw[YD,YD];lia) hi hj hC
  ·rw[ZcA hvl.symm] at e
   refine ⟨.ref D,_,I.laid (t':=tk) k hD (show ObjOk X.prog X.w _ h' _ (.lst (sortV ps (xs.map fun x=>V.ref x.2.1))) from ⟨?_,sortU ps (xs.map fun x=>Y7 x.2.1),c,?_,e⟩),rfl,q _ rs _ (I.hok.fresh hD)⟩
   ·unfold sortV
    rw[Yv]
    have:(perm ps).length<=64:=by
     unfold perm
     split
     ·rw[W1];lia
     ·rw[YX,(Zdi (o:=oP ps) (X6 ps.length) (Zcg 1e3)).2.1];lia
    exact Yz this (by rw[YE];decide)
   ·exact ZbZ (ZcI xs) fun i hi=>by have:=ZbD i hi;lia
 ·cases hs
theorem collect_tup {prog:Yx}{w:World}{A:Around}{E:1e7}{s:Shared}{l:Addr}{vs:3e9}{Q:List Value->Shared->Prop}(ht:s.heap.IsTuple l vs.toArray)(hsz:vs.length<=Yo)
  (h:∀h',(∀b o,s.heap.get? b=some o->h'.get? b=some o)->s.heap.objs.size<=h'.objs.size->Q vs { s with heap:=h' }):wpAny (model prog w) A (collect (.ref l)) Q E s:=by
 obtain ⟨o,ho,hc,n,hd⟩:=ht
 have new:(s.heap.push (seqObj "list" #[] 0)).get? s.heap.objs.size=some (seqObj "list" #[] 0):=Yq _ rfl
 have hk:=Ya (seqObj "list" #[] 0) ho
 unfold collect
 refine Yb (wpAny_runValue (Ws entry_proto_collect' (Yb (WP (Yg ⟨Code.quiet_builtin _ (by decide +kernel),Ws entry_list_iadd' ?_⟩)))))
 show wpAny _ _ (Vm 9e1 (.ref l) 9e1) _ _ { s with heap:=s.heap.push (seqObj "list" #[] 0) }
 unfold Vm
 refine Yb (W3 (T:="tuple") ⟨o,hk,hc⟩ ?_)
 have yes:(Builtin.List.listSameRef 9e1 (.ref l)||WW "tuple"==WW "list"||WW "tuple"==WW "tuple")=true:=by rw[show (WW "tuple"==WW "tuple")=true by rfl,Bool.or_true]
 rw[if_pos yes]
 refine Yb (VY hk hd (Yb (VY new rfl ?_)))
 rw[if_neg 5e2];refine Yb (Vc new rfl ?_ (Xe _) (by show (#[]++vs.toArray).size<=Yo + 1;simp;lia))
 have e2:=WO new (fun a=>a++vs.toArray)
 refine Yg (Yb (wpAny_load e2 ?_))
 show wpAny _ _ (pure ((#[]:Array Value)++vs.toArray).toList) Q E _
 rw[show ((#[]:Array Value)++vs.toArray).toList=vs by simp]
 refine Yg (h _ (fun b u e=>?_) ?_)
 ·rw[XI _ _ _ _ (Yn (Yp e))];exact Ya _ e
 ·rw[Heap.size_update,size_push'];lia
def rSortedT (K:W.Frag):List V->Hp->VK->Prop:=fun xs H Q=>∃p ys ι ps,xs=[.ref p]/\SqT K H p ys/\Reps K ι H ps ys/\(sortP ps).isSome=true/\∀l,H l=none->Q (.ref l) (upd H l (.lst (sortV ps ys)))
theorem call_sortedT (hu:6e7):CallR X (.builtin "sorted") (rSortedT X.K):=by
 intro pins s σ H xs us Q I r h
 obtain ⟨p,ys,ι,ps,rfl,hq,rs,hs,q⟩:=h
 obtain ⟨u,rfl,rx⟩:=vals1 r
 cases rx
 obtain ⟨its,r',pl,hz⟩:=I.tuple hq
 unfold sortP at hs
 split at hs
 ·rename_i hh
  simp only[Yt,decide_eq_true_eq] at hh
  obtain ⟨⟨⟨⟨hd,hde⟩,h64⟩,hso⟩,hcm⟩:=hh
  have hr:=Reps.heap I ps rs r' hd
  have hl:=hr.length
  have hyl:=r'.length
  refine Zcf (vs:=its) (κ:=kindP ps) (o:=oP ps) (fun Q' q'=>collect_tup pl (by rw[YE];lia) fun h' k hle=>q' h' s.toks k hle) 1e3 (fun h2 h' tk k Q' q'=>?_) (fun h2 h' tk k i j C hi hj hC=>?_) (fun D h' tk c hD k e=>?_)
  ·exact kind_of (s:={ s with heap:=h',toks:=tk }) (hr.keep k) h2 hso q'
  ·exact ask_of (s:={ s with heap:=h',toks:=tk }) (hr.keep k) hso hcm (by rw[YD,YD];lia) hi hj hC
  ·rw[ZcA hl] at e
   refine ⟨.ref D,_,I.laid (t':=tk) k hD (show ObjOk X.prog X.w _ h' _ (.lst (sortV ps ys)) from ⟨?_,sortU ps its,c,?_,e⟩),rfl,q _ (I.hok.fresh hD)⟩
   ·unfold sortV
    rw[Yv]
    have:(perm ps).length<=64:=by
     unfold perm
     split
     ·rw[W1];lia
     ·rw[YX,(Zdi (o:=oP ps) (X6 ps.length) (Zcg 1e3)).2.1];lia
    exact Yz this (by rw[YE];decide)
   ·exact ZbZ r' fun i hi=>by have:=ZbD i hi;lia
 ·cases hs
def sortedH2 (C:Cs):List SV->Option 7e5
 | [x]=>match deref C x with
  | some (.lst xs)=>sortP xs
  | some (.tup xs)=>sortP xs
  | some (.dtt ks _)=>if keysOk ks then sortP (ks.map tupK) else none
  | _=>none
 | _=>none
def mSorted2 (fs:2e9):PSt->M 7e5:=fun ρ=>bnd (fs ρ) fun xs=>opM fun C=>sortedH2 C xs
theorem fm_sorted2 {e:Expr}{es:6e4}{fs:2e9}{p pos:Pos}(hcm:11e3)(hu:6e7)(hgl:Gl X "sorted")(hm:X.mg "sorted"=none)(hv:Y8 "sorted"=some (.builtin "sorted"))(ha:AM X 6e5 fs)
  (he:1e5:=by rfl) (hpl:3e3:=by rfl):FM X (.Call (.Name "sorted" p) 6e5 [] pos) (mSorted2 fs):=
 PE.imp (pe_callB ((call_sorted hu).or ((call_sortedT hu).or (call_sortedD hcm hu))) hgl hm hv ha 1e4 1e4 he hpl) fun σ H Q h_=>by
  sleep 7
  obtain ⟨xs,C1,e1,e⟩:=Zah e
  obtain ⟨e2,rfl⟩:=ZaK e
  refine ⟨ι,ρ,C,xs,_,sr,e1,fun vs H1 f1 c1 r1=>?_⟩
  unfold sortedH2 at e2
  split at e2
  ·rename_i x
   obtain ⟨v,w,rfl,r1,hw⟩:=r1
   cases (show w=[] from hw)
   split at e2
   ·rename_i ps hd
    obtain ⟨a,ws,rfl,h1,r2⟩:=liesL (r1.lies c1 hd)
    refine .inl ⟨a,ws,ι,ps,rfl,h1,r2,by rw[e2];rfl,fun l hl=>?_⟩
    refine q l _ H1 f1 c1 hl ?_
    rw[Zcx e2]
    exact Zb1 r2 fun i hi=>ZbD i hi
   ·rename_i ps hd
    obtain ⟨a,ws,rfl,h1,r2⟩:=liesT (r1.lies c1 hd)
    refine .inr (.inl ⟨a,ws,ι,ps,rfl,h1.sq,r2,by rw[e2];rfl,fun l hl=>?_⟩)
    refine q l _ H1 f1 c1 hl ?_
    rw[Zcx e2]
    exact Zb1 r2 fun i hi=>ZbD i hi
   ·rename_i ks ps hd
    have li:=r1.lies c1 hd
    cases li with
    | @dtt a _ _ ws h1 hl r2=>
     by_cases hk:keysOk ks=true
     ·rw[if_pos hk] at e2
      have ek:((ks.zip ws).map fun q=>tupK q.1)=ks.map tupK:=by
       have:(ks.zip ws).map V3=ks:=Wz 1e3
       exact (Y2 (f:=V3) (g:=tupK) (l:=ks.zip ws)).symm.trans (by rw[this])
      have ef:(ks.zip ws).map (·.1)=ks:=Wz 1e3
      refine .inr (.inr ⟨a,ks.zip ws,rfl,h1,by rw[ef];exact hk,by rw[ek,e2];rfl,fun ys ry l hl=>?_⟩)
      refine q l _ H1 f1 c1 hl ?_
      rw[Zcx e2,ek]
      have ry':=ry ι
      rw[ek] at ry'
      exact Zb1 ry' fun i hi=>ZbD i hi
     ·rw[if_neg hk] at e2;cases e2
   ·cases e2
  ·cases e2
end
noncomputable def inK {κ:Type} [DecidableEq κ](k:κ)(ks:List κ):Bool:=ks.any fun a=>decide (a=k)
def putKs {κ:Type} [DecidableEq κ](ks:List κ)(k:κ):List κ:=if inK k ks then ks else ks++[k]
def putVs {κ:Type} [DecidableEq κ]{α:Type}(ks:List κ)(xs:List α)(k:κ)(x:α):List α:=if inK k ks then (ks.zip xs).map (fun q=>if q.1=k then x else q.2) else xs++[x]
theorem inK_iff {κ:Type} [DecidableEq κ]{k:κ}{ks:List κ}:inK k ks=true↔k∈ks:=by
 unfold inK;rw[List.any_eq_true]
 constructor
 ·rintro ⟨a,h,e⟩;rw[←of_decide_eq_true e];exact h
 ·intro h;exact ⟨k,h,decide_eq_true rfl⟩
theorem ZcH {κ:Type} [DecidableEq κ]{k:κ}{v:V}:∀{ks:List κ} {vs:List V},ks.length=vs.length->((ks.zip vs).map fun kv=>if kv.1=k then (kv.1,v) else kv)=ks.zip ((ks.zip vs).map fun q=>if q.1=k then v else q.2)
 | [],vs,_=>by simp
 | a::ks,[],h=>by simp at h
 | a::ks,b::vs,h=>by
  rw[YU,Yu,Yu,YU,ZcH 12e0]
  by_cases e:a=k
  ·simp[e]
  ·simp[e]
theorem zip_any {κ:Type} [DecidableEq κ]{k:κ}:∀{ks:List κ} {vs:List V},ks.length=vs.length->((ks.zip vs).any fun kv=>decide (kv.1=k))=inK k ks
 | [],vs,_=>by simp[inK]
 | a::ks,[],h=>by simp at h
 | a::ks,b::vs,h=>by
  rw[YU,Xs,zip_any 12e0]
  unfold inK;rw[Xs]
theorem put_zip {κ:Type} [DecidableEq κ]{k:κ}{v:V}{ks:List κ}{vs:List V}(h:ks.length=vs.length):putK (ks.zip vs) k v=(putKs ks k).zip (putVs ks vs k v)/\(putKs ks k).length=(putVs ks vs k v).length:=by
 unfold putK putKs putVs
 rw[zip_any h]
 cases e:inK k ks with
 | true=>
  simp only[if_true]
  refine ⟨ZcH h,?_⟩
  rw[Yv,WR];lia
 | false=>
  simp only[YT,if_false]
  refine ⟨?_,by simp[h]⟩
  rw[List.zip_append h];rfl
theorem Zcz {κ:Type} [DecidableEq κ]{K:W.Frag}{ι:3e8}{H:Hp}{k:κ}{p:PV}{v:V}(hp:Rep K ι H p v){ks:List κ}{ps:List PV}{vs:List V}(r:Reps K ι H ps vs):Reps K ι H (putVs ks ps k p) (putVs ks vs k v):=by
 unfold putVs
 by_cases e:inK k ks=true
 ·rw[if_pos e,if_pos e]
  clear e
  induction ks generalizing ps vs with
  | nil=>simp;exact .nil
  | cons a ks ih=>
   cases ps with
   | nil=>rw[r.inv0];simp;exact .nil
   | cons q ps=>
    obtain ⟨w,ws,rfl,h1,h2⟩:=r.inv
    rw[YU,YU,Yu,Yu]
    refine .cons ?_ (ih h2)
    by_cases z:a=k
    ·simp only[z,if_true];exact hp
    ·simp only[z,if_false];exact h1
 ·rw[if_neg e,if_neg e];exact r.append (.cons hp .nil)
def dFold {α:Type}:List (List Key×α)->List 9e8->List α->List 9e8×List α
  | [],ks,xs=>(ks,xs)
  | (k,x)::r,ks,xs=>dFold r (putKs ks k) (putVs ks xs k x)
def foldK (acc:7e9)(kvs:7e9):List (List Key×V):=kvs.foldl (fun acc q=>putK acc q.1 q.2) acc
inductive PairsR (K:W.Frag)(ι:List Addr)(H:Hp):List (List Key×PV)->List (List Key×V)->Prop
 | nil:PairsR K ι H [] []
 | cons {k:List Key} {p:PV} {v:V} {a b}:Rep K ι H p v->PairsR K ι H a b->PairsR K ι H ((k,p)::a) ((k,v)::b)
theorem fold_zip {K:W.Frag}{ι:3e8}{H:Hp}{qs:List (List Key×PV)}{kvs:7e9}(r:PairsR K ι H qs kvs):∀{ks:List 9e8} {ps:List PV} {vs:List V},ks.length=vs.length->Reps K ι H ps vs->
  ∃ws,foldK (ks.zip vs) kvs=(dFold qs ks ps).1.zip ws/\(dFold qs ks ps).1.length=ws.length/\Reps K ι H (dFold qs ks ps).2 ws:=by
 induction r with
 | nil=>intro ks ps vs h r;exact ⟨vs,rfl,h,r⟩
 | cons hp t ih=>
  intro ks ps vs h r
  obtain ⟨e,l⟩:=put_zip (k:=_) (v:=_) h
  obtain ⟨ws,e1,e2,e3⟩:=ih l (Zcz hp r)
  refine ⟨ws,?_,e2,e3⟩
  show foldK (putK (ks.zip vs) _ _) _=_
  rw[e];exact e1
abbrev PrsH (H:Hp):List (List Key×V)->List V->Prop:=Paired fun q y=>∃t b,y=.ref t/\H t=some (.tup [.ref b,q.2])/\H b=some (.tup (q.1.map kV))
section
variable {X:Cx}
theorem pairs_raw {pins:2e1}{σ:St}{H:Hp}{s:Shared}(I:2e4){kvs:7e9}{ys:List V}(pr:PrsH H kvs ys):∀{its:3e9},Vals ys its->
  ∃tri:List 7e2,KT H kvs tri/\Paired (fun (x:List Key×Addr×Value) u=>∃t o n,u=Y7 t/\s.heap.get? t=some o/\o.cls=.type "tuple"/\o.data=.seq #[.ref x.2.1,x.2.2] n) tri its:=by
 induction pr with
 | nil=>intro its r;cases r;exact ⟨[],.nil,.nil⟩
 | @cons q y qs ys h t ih=>
  intro its r
  cases r with
  | cons ru rt=>
   obtain ⟨tri,k,p⟩:=ih rt
   obtain ⟨tt,b,rfl,e1,e2⟩:=h
   cases ru
   obtain ⟨us,r2,⟨o,ho,hc,n,hd⟩,_⟩:=I.tuple (a:=tt) (.inl (.inl e1))
   cases r2 with
   | cons ra r3=>cases r3 with
    | cons rb r4=>
     cases r4;cases ra
     exact ⟨(q.1,b,_)::tri,.cons ⟨rfl,e2,rb⟩ k,.cons ⟨tt,o,n,rfl,ho,hc,hd⟩ p⟩
theorem kt_fold {H:Hp}{kvs:7e9}{tri:List 7e2}(r:KT H kvs tri):∀{acc:7e9} {xs:List 7e2},KT H acc xs->KT H (foldK acc kvs) (tri.foldl (fun xs x=>VT xs x.1 x.2.1 x.2.2) xs):=by
 induction r with
 | nil=>intro acc xs h;exact h
 | @cons p q ps qs h t ih=>
  intro acc xs a
  obtain ⟨h1,h2,h3⟩:=h
  refine ih (acc:=putK acc p.1 p.2) ?_
  have:=KT.put a p.1 (b:=q.2.1) (y:=p.2) (u:=q.2.2) h2 h3
  rw[h1] at this ⊢
  exact this
theorem foldK_len:∀(kvs acc:7e9),(foldK acc kvs).length<=acc.length + kvs.length
 | [],acc=>by simp[foldK]
 | q::kvs,acc=>by
  have h1:=foldK_len kvs (putK acc q.1 q.2)
  have h2:=Zbh acc q.1 q.2
  show (foldK (putK acc q.1 q.2) kvs).length<=_
  rw[YG];lia
theorem getD_range {α:Type}(d:α):∀(l:List α),(Yk l.length).map (fun i=>l.getD i d)=l:=fun l=>by
 apply YZ
 intro i
 rw[YI]
 by_cases hi:i < l.length
 ·rw[Vk hi];simp[hi]
 ·rw[Xq 12e1,Xq 1e3];rfl
def rDictP (K:W.Frag):List V->Hp->VK->Prop:=fun xs H Q=>∃p ys kvs,xs=[.ref p]/\SqL K H p ys/\PrsH H kvs ys/\kvs.length<=1000/\∀l,H l=none->Q (.ref l) (upd H l (.dT (foldK [] kvs)))
theorem call_dictP (hcm:11e3)(hu:6e7):CallR X (.type "dict") (rDictP X.K):=by
 intro pins s σ H xs us Q I r h
 obtain ⟨p,ys,kvs,rfl,hq,pr,h1000,q⟩:=h
 obtain ⟨u,rfl,rx⟩:=vals1 r
 cases rx
 obtain ⟨its,r',⟨o,n,ho,hc,hdn,hd⟩,hz⟩:=I.list hq
 obtain ⟨tri,kt,pt⟩:=pairs_raw I pr r'
 have hlt:tri.length=its.length:=XO pt
 have hlk:kvs.length=tri.length:=XO kt
 obtain ⟨oc,od,odt,osl⟩:=o
 simp only at hc hdn hd
 subst hc hdn hd
 have at':∀{a:List 7e2} {b:3e9},Paired (fun (x:List Key×Addr×Value) u=>∃t o n,u=Y7 t/\s.heap.get? t=some o/\o.cls=.type "tuple"/\o.data=.seq #[.ref x.2.1,x.2.2] n) a b->∀(i:Nat) (v:Value),b[i]? = some v->∃t o n,v=Y7 t/\s.heap.get? t=some o/\o.cls=.type "tuple"/\o.data=.seq #[.ref (a.getD i ([],0,.none)).2.1,(a.getD i ([],0,.none)).2.2] n:=by
  intro a b h
  induction h with
  | nil=>intro i v e;simp at e
  | cons h t ih=>
   intro i v e
   cases i with
   | zero=>simp at e;subst e;simpa using h
   | succ i=>simpa using ih i v (by simpa using e)
 have key':∀{a:7e9} {b:List 7e2},KT H a b->∀i,i < b.length->H (b.getD i ([],0,.none)).2.1=some (.tup ((b.getD i ([],0,.none)).1.map kV)):=by
  intro a b h
  induction h with
  | nil=>intro i e;simp at e
  | @cons p q ps qs h t ih=>
   intro i e
   cases i with
   | zero=>simp only[List.getD_cons_zero];rw[←h.1];exact h.2.1
   | succ i=>simpa using ih i (by simpa using e)
 refine Zdc (knd:=WI (mixKind X.prog X.w)) (I.ok.hd hcm) ho (fun i=>tri.getD i ([],0,.none)) (at' pt) (fun i h' hi k=>?_) (fun A' hA=>?_) (by rw[YE];lia) fun h' tk k dd=>?_
 ·obtain ⟨_,its2,r2,o2,a1,a2,n2,a3⟩:=(show ObjOk X.prog X.w H s.heap _ (.tup _) from I.hok _ _ (key' kt i 1e3))
  exact ⟨o2,its2.toArray,n2,k _ _ a1,a2,a3,by simpa using ZcZ r2⟩
 ·show A'.units < cLine
  exact Nat.lt_of_le_of_lt hA 1e3
 ·have e1:putAll (fun i=>tri.getD i ([],0,Xw)) its.length=tri.foldl (fun xs x=>VT xs x.1 x.2.1 x.2.2) []:=by
   unfold putAll;rw[←hlt,getD_range]
  rw[e1] at dd
  obtain ⟨o3,es,ep,d1,d2,d3,d4,d5,d6⟩:=dd
  have hfr:=I.hok.fresh (Yh s.heap.objs.size)
  have kt2:KT H (foldK [] kvs) (tri.foldl (fun xs x=>VT xs x.1 x.2.1 x.2.2) []):=kt_fold kt .nil
  have hl:=foldK_len kvs []
  refine ⟨.ref s.heap.objs.size,_,I.laid (a:=s.heap.objs.size) (t':=tk) k (Yh _) (show ObjOk X.prog X.w _ h' _ (.dT (foldK [] kvs)) from ⟨?_,?_,_,kt2.keeps fun b ys e=>?_,o3,es,ep,d1,d2,d3,d4,d6⟩),rfl,q _ hfr⟩
  ·rw[Wp] at hl;rw[YE];lia
  ·exact beq_false_of_ne (XZ I.big)
  ·rw[Zaw (Zap e hfr)];exact e
end
def keysP:List PV->Option 9e8
 | []=>some []
 | p::r=>match keyP p,keysP r with
  | some k,some ks=>some (k::ks)
  | _,_=>none
def pairP:PV->Option (List Key×PV)
 | .tup [.tup qs,v]=>(keysP qs).map fun k=>(k,v)
 | _=>none
def pairsP:List PV->Option (List (List Key×PV))
 | []=>some []
 | p::r=>match pairP p,pairsP r with
  | some k,some ks=>some (k::ks)
  | _,_=>none
section
variable {K:W.Frag}{ι:3e8}{H:Hp}
theorem rep_key {x:PV}{v:V}{q:Key}(l:Rep K ι H x v)(h:keyP x=some q):v=kV q:=lies_key (Rep.lies l) h
theorem ZcO:∀{qs:List PV} {ws:List V} {k:9e2},Reps K ι H qs ws->keysP qs=some k->ws=k.map kV
 | [],ws,k,r,e=>by cases e;exact r.inv0
 | p::qs,ws,k,r,e=>by
  obtain ⟨v,w,rfl,h1,h2⟩:=r.inv
  unfold keysP at e
  split at e
  ·rename_i a b e1 e2
   cases e
   rw[rep_key h1 e1,ZcO h2 e2];rfl
  ·cases e
theorem ZbU {qs:List PV}{k:9e2}{v:V}(r:Rep K ι H (.tup qs) v)(e:keysP qs=some k):∃b,v=.ref b/\H b=some (.tup (k.map kV)):=by
 unfold Rep at r
 obtain ⟨b,ws,rfl,h,rs⟩:=r
 rw[ZcO rs e] at h
 exact ⟨b,rfl,h⟩
theorem Zdj:∀{ps:List PV} {ys:List V} {qs:List (List Key×PV)},Reps K ι H ps ys->pairsP ps=some qs->∃kvs,PairsR K ι H qs kvs/\PrsH H kvs ys
 | [],ys,qs,r,e=>by cases e;rw[r.inv0];exact ⟨[],.nil,.nil⟩
 | p::ps,ys,qs,r,e=>by
  obtain ⟨y,ys,rfl,h1,h2⟩:=r.inv
  unfold pairsP at e
  split at e
  ·rename_i a b e1 e2
   cases e
   obtain ⟨kvs,g1,g2⟩:=Zdj h2 e2
   unfold pairP at e1
   split at e1
   ·rename_i us v
    cases hk:keysP us with
    | none=>rw[hk] at e1;cases e1
    | some k=>
     rw[hk] at e1;cases e1
     unfold Rep at h1
     obtain ⟨t,ws,rfl,ht,rs⟩:=h1
     obtain ⟨x1,w1,rfl,a1,rs⟩:=rs.inv
     obtain ⟨x2,w2,rfl,a2,rs⟩:=rs.inv
     rw[rs.inv0] at ht
     obtain ⟨b',rfl,hb⟩:=ZbU a1 hk
     exact ⟨(k,x2)::kvs,.cons a2 g1,.cons ⟨t,b',rfl,ht,hb⟩ g2⟩
   ·cases e1
  ·cases e
theorem PairsR.length {qs:List (List Key×PV)}{kvs:7e9}(r:PairsR K ι H qs kvs):qs.length=kvs.length:=by
 induction r with
 | nil=>rfl
 | cons _ _ ih=>rw[YG,YG,ih]
theorem CR.none_out {C:Cs}(cr:11e4){a:Addr}(h:H a=none):a∉ι:=fun z=>by
 rcases cr.mut z with ⟨_,e⟩ | ⟨_,e⟩ | ⟨_,e⟩
 ·rw[h] at e;cases e
 ·rw[h] at e;cases e
 ·rw[h] at e;cases e
end
def dictPH (C:Cs):List SV->Option SV
 | [x]=>match deref C x with
  | some (.lst ps)=>match pairsP ps with
   | some qs=>if qs.length<=1000 then some (.v (.dtt (dFold qs [] []).1 (dFold qs [] []).2)) else none
   | none=>none
  | _=>none
 | _=>none
section
variable {X:Cx}{e o i:Expr}{es:6e4}{fs:2e9}{p pos pos':Pos}{x:Str}{fv fo fi:4e2}
theorem dictP_ok:C1ok X.K (rDictP X.K) dictPH:=by
 intro ι H C xs vs z Q cr rs e k
 unfold dictPH at e
 split at e
 ·rename_i x
  obtain ⟨v,w,rfl,r1,hw⟩:=rs
  cases (show w=[] from hw)
  split at e
  ·rename_i ps hd
   obtain ⟨a,ws,rfl,h1,r2⟩:=liesL (r1.lies cr hd)
   split at e
   ·rename_i qs hq
    by_cases hl:qs.length<=1000
    ·rw[if_pos hl] at e;cases e
     obtain ⟨kvs,g1,g2⟩:=Zdj r2 hq
     refine ⟨a,ws,kvs,rfl,h1,g2,by rw[←g1.length];exact hl,fun l hn=>k _ _ (Fr.new hn) (cr.new hn) ?_⟩
     obtain ⟨us,e1,e2,e3⟩:=fold_zip g1 (ks:=[]) (ps:=[]) (vs:=[]) rfl .nil
     show Rep _ _ _ (.dtt _ _) _
     unfold Rep
     exact ⟨l,us,rfl,cr.none_out hn,by rw[←e1];exact .inl ZaM,e2,Reps.stay (fun b o e=>by rw[Zaw (Zap e hn)];exact e) _ _ e3⟩
    ·rw[if_neg hl] at e;cases e
   ·cases e
  ·cases e
 ·cases e
noncomputable def mNewT (i:Nat):PSt->M PF:=fun ρ C=>some (.nx (ρ.set i (some (.c C.length))),C++[.dtt [] []])
def setT (v o i:SV)(ρ:PSt):M PF:=fun C=>match o,i,v with
 | .c k,.v (.tup qs),.v p=>match C[k]?,keysP qs with
  | some (.dtt ks ps),some key=>if ks.length < 1000 then some (.nx ρ,C.set k (.dtt (putKs ks key) (putVs ks ps key p))) else none
  | _,_=>none
 | _,_,_=>none
def mSetIxT (fv fo fi:4e2):PSt->M PF:=fun ρ=>bnd (fv ρ) fun v=>bnd (fo ρ) fun o=>bnd (fi ρ) fun i=>setT v o i ρ
theorem setT_some {v o i:SV}{ρ:PSt}{C C2:Cs}{fl:PF}(h:setT v o i ρ C=some (fl,C2)):∃k qs p ks ps key,o=.c k/\i=.v (.tup qs)/\v=.v p/\C[k]? = some (.dtt ks ps)/\keysP qs=some key/\ks.length < 1000/\fl=.nx ρ/\C2=C.set k (.dtt (putKs ks key) (putVs ks ps key p)):=by
 unfold setT at h
 split at h
 ·split at h
  ·split at h
   ·cases h;exact ⟨_,_,_,_,_,_,rfl,rfl,rfl,by assumption,by assumption,by assumption,rfl,rfl⟩
   ·cases h
  ·cases h
 ·cases h
end
noncomputable def lookT:List 9e8->List PV->List Key->Option PV
 | k::ks,v::vs,q=>if k=q then some v else lookT ks vs q
 | _,_,_=>none
theorem ZcU {K:W.Frag}{ι:3e8}{H:Hp}{q:9e2}:∀{ks:List 9e8} {ps:List PV} {vs:List V},ks.length=vs.length->Reps K ι H ps vs->
  (∀z,lookT ks ps q=some z->∃v,valV (ks.zip vs) q=some v/\Rep K ι H z v)/\(valV (ks.zip vs) q).isSome=inK q ks:=by
 intro ks
 induction ks with
 | nil=>
  intro ps vs hl r
  refine ⟨fun z h=>?_,rfl⟩
  cases ps<;>cases h
 | cons k ks ih=>
  intro ps vs hl r
  cases ps with
  | nil=>rw[r.inv0] at hl;cases hl
  | cons p ps=>
   obtain ⟨v,w,rfl,h1,h2⟩:=r.inv
   have ih:=ih (by simpa using hl) h2
   rw[YU]
   unfold lookT inK
   rw[Xs]
   by_cases h:k=q
   ·rw[if_pos h,Zb0 (p:=(k,v)) h,decide_eq_true h]
    exact ⟨fun z e=>by cases e;exact ⟨v,rfl,h1⟩,rfl⟩
   ·rw[if_neg h,ZbH (p:=(k,v)) h,decide_eq_false h]
    exact ⟨ih.1,by rw[ih.2];rfl⟩
theorem dgetT {H:Hp}{a b:Addr}{kvs:7e9}{k:9e2}(e:Rd H a (.dT kvs))(eb:H b=some (.tup (k.map kV))):DGet H a (.ref b) (valV kvs k):=.inr ⟨kvs,k,b,e,rfl,eb,rfl⟩
theorem liesTT {K:W.Frag}{ι:3e8}{H:Hp}{ks:List 9e8}{ps:List PV}{v:V}(l:Lies K ι H (.dtt ks ps) v):∃(a:Addr) (vs:List V),v=.ref a/\Rd H a (.dT (ks.zip vs))/\ks.length=vs.length/\Reps K ι H ps vs:=by
 cases l;exact ⟨_,_,rfl,by assumption,by assumption,by assumption⟩
theorem ZcW {K:W.Frag}{ι:3e8}{H:Hp}{qs:List PV}{k:9e2}{v:V}(l:Lies K ι H (.tup qs) v)(e:keysP qs=some k):∃b,v=.ref b/\H b=some (.tup (k.map kV)):=by
 obtain ⟨b,ws,rfl,h,rs⟩:=liesT l
 rw[ZcO rs e] at h
 exact ⟨b,rfl,h⟩
def inTP (neg:Bool)(x y:PV):Option PV:=match x,y with
 | .tup qs,.dtt ks _=>match keysP qs with
  | some k=>some (.bl (if neg then !inK k ks else inK k ks))
  | none=>none
 | _,_=>none
section
variable {X:Cx}{a b:Expr}{fa fb:4e2}{pos:Pos}
noncomputable def rInT (neg:Bool):R2:=fun x y H Q=>∃p o,y=.ref p/\DGet H p x o/\Q (.bl (if neg then !o.isSome else o.isSome)) H
theorem op_inT (hu:6e7):OpR X (Xz .In) (rInT false):=by
 sleep 4
 obtain ⟨p,o,rfl,g,q⟩:=h
 cases ry
 exact d_in 1e3 I g rx fun s' I'=>⟨.bl o.isSome,H,I',rfl,q⟩
theorem Zb6 (hu:6e7):OpR X (Xz .NotIn) (rInT true):=by
 sleep 4
 obtain ⟨p,o,rfl,g,q⟩:=h
 cases ry
 exact d_notIn 1e3 I g rx fun s' I'=>⟨.bl (!o.isSome),H,I',rfl,q⟩
theorem Zdt {neg:Bool}:L2ok X.K (rInT neg) (inTP neg):=by
 sleep 9
 unfold inTP at e
 split at e
 ·split at e
  ·rename_i key hk
   cases e
   obtain ⟨b,rfl,hb⟩:=ZcW lx hk
   obtain ⟨a,vs,rfl,hd,hl,r⟩:=liesTT ly
   refine ⟨a,_,rfl,dgetT hd hb,?_⟩
   rw[(ZcU hl r).2]
   exact k _ H .refl cr repBl
  ·cases e
 ·cases e
def ixT (x y:PV):Option PV:=match x with
 | .dtt ks vs=>match y with
  | .tup qs=>match keysP qs with
   | some q=>lookT ks vs q
   | none=>none
  | _=>none
 | x=>ixQ x y
theorem ixT_ok:L2ok X.K (fun x y H Q=>rIx X.K x y H Q\/rDGet x y H Q) ixT:=by
 sleep 9
 unfold ixT at e
 split at e
 ·split at e
  ·split at e
   ·rename_i key hk
    obtain ⟨a,ws,rfl,hd,hl,r⟩:=liesTT lx
    obtain ⟨b,rfl,hb⟩:=ZcW ly hk
    obtain ⟨v,hv,rv⟩:=(ZcU hl r).1 z e
    exact .inr ⟨a,v,rfl,by rw[←hv];exact dgetT hd hb,k v H .refl cr rv⟩
   ·cases e
  ·cases e
 ·exact ixQ_ok ι H C p q vx vy z Q cr lx ly e k
end
section
variable {X:Cx}{pos:Pos}{c:Expr}{f:10e9}{body:List Stmt}
def loopW (t:7e1)(f:10e9):Nat->PSt->M PF
 | 0,_=>fun _=>none
 | n + 1,ρ=>bnd (t ρ) fun b=>if b then bnd (f ρ) (fun fl=>match fl with
   | .nx ρ2=>loopW t f n ρ2
   | .ct ρ2=>loopW t f n ρ2
   | .bk ρ2=>Pu.ret (.nx ρ2)
   | .rt r=>Pu.ret (.rt r)
   | .rf ps=>Pu.ret (.rf ps)
   | .rq ps=>Pu.ret (.rq ps)) else Pu.ret (.nx ρ)
def mWhile (t:7e1)(f:10e9):PSt->M PF:=loopW t f 1000
end
end Pu
namespace Se
open PySem PySem.SetTable PySem.W
open PyProof.Rows hiding St Fr
section
variable {prog:Yx}{w:World}{A:Around}{E:1e7}{s:Shared}{I a T:Addr}{es:Array (Int×Value)}{ep i:Nat}{t:SetTable}
abbrev PA (arr:Array (Int×Value)):Nat->Value->Prop:=fun i v=>∃e,arr[i]? = some e/\v=e.2
end
end Se
namespace Pu
open PySem PySem.Spec PySem.W PySem.Calls L2
open PyProof.Rows hiding St Fr
noncomputable def mulSP (x y:PV):Option PV:=match x,y with
 | .str z,.int n=>if z.length=1/\n < 1000/\-1000 < n then some (.str (Txt.mul z n)) else none
 | _,_=>none
section
variable {X:Cx}{a b e:Expr}{fa fb:4e2}{pos p:Pos}{es:6e4}{fs:2e9}
noncomputable def intsP:List PV->Option (List Int)
 | []=>some []
 | .int i::r=>(intsP r).map (i::·)
 | _::_=>none
noncomputable def maxI:List Int->Int
 | []=>0
 | [i]=>i
 | i::r=>if maxI r > i then maxI r else i
def maxLH:List PV->Option PV
 | [.lst ps]=>match intsP ps with
  | some (n::ns)=>some (.int (maxI (n::ns)))
  | _=>none
 | _=>none
noncomputable def revC (x:SV):M SV:=fun C=>match x with
 | .c k=>match C[k]? with
  | some (.lst ps)=>some (.v .non,C.set k (.lst ps.reverse))
  | _=>none
 | _=>none
theorem revC_some {x:SV}{C C2:Cs}{r:SV}(h:revC x C=some (r,C2)):∃k ps,x=.c k/\C[k]? = some 8e1/\r=.v .non/\C2=C.set k (.lst ps.reverse):=by
 unfold revC at h
 split at h
 ·split at h
  ·cases h;exact ⟨_,_,rfl,by assumption,rfl,rfl⟩
  ·cases h
 ·cases h
def mRev (fo:4e2):PSt->M SV:=fun ρ=>bnd (fo ρ) revC
theorem Reps.rev {K:W.Frag}{ι:3e8}{H:Hp}:∀{ps:List PV} {vs:List V},Reps K ι H ps vs->Reps K ι H ps.reverse vs.reverse
 | [],vs,r=>by rw[r.inv0];exact .nil
 | p::ps,vs,r=>by
  obtain ⟨v,w,rfl,h1,h2⟩:=r.inv
  rw[XX,XX]
  exact (Reps.rev h2).append (.cons h1 .nil)
end
end Pu
namespace Pu
open PySem PySem.Spec PySem.W PySem.Calls L2 PySem.SeqAt
open PyProof.Rows hiding St Fr
theorem ZaT:∀(qs:9e2),keysP (qs.map kP)=some qs
 | []=>rfl
 | q::qs=>by rw[Yu];unfold keysP;rw[keyP_kP,ZaT qs]
section
variable {X:Cx}{e o i a:Expr}{es:6e4}{p pos pos' cpos apos:Pos}{x:Str}{fv fo fi fa:4e2}{fs:2e9}
noncomputable def mNewK (i:Nat):PSt->M PF:=fun ρ C=>some (.nx (ρ.set i (some (.c C.length))),C++[.dct [] []])
def setK (v o i:SV)(ρ:PSt):M PF:=fun C=>match o,i,v with
 | .c k,.v ip,.v p=>match C[k]?,keyP ip with
  | some (.dct ks ps),some key=>match keysP ks with
   | some qs=>if ks.length < 1000 then some (.nx ρ,C.set k (.dct ((putKs qs key).map kP) (putVs qs ps key p))) else none
   | none=>none
  | _,_=>none
 | _,_,_=>none
def mSetIxK (fv fo fi:4e2):PSt->M PF:=fun ρ=>bnd (fv ρ) fun v=>bnd (fo ρ) fun o=>bnd (fi ρ) fun i=>setK v o i ρ
theorem setK_some {v o i:SV}{ρ:PSt}{C C2:Cs}{fl:PF}(h:setK v o i ρ C=some (fl,C2)):∃k ip p ks ps qs key,o=.c k/\i=.v ip/\v=.v p/\C[k]? = some (.dct ks ps)/\keyP ip=some key/\keysP ks=some qs/\ks.length < 1000/\fl=.nx ρ/\C2=C.set k (.dct ((putKs qs key).map kP) (putVs qs ps key p)):=by
 unfold setK at h
 split at h
 ·split at h
  ·split at h
   ·split at h
    ·cases h;exact ⟨_,_,_,_,_,_,_,rfl,rfl,rfl,by assumption,by assumption,by assumption,by assumption,rfl,rfl⟩
    ·cases h
   ·cases h
  ·cases h
 ·cases h
theorem sm_setixK {spos:Pos}(hu:6e7)(hv:EM X e fv)(ho:EM X o fo)(hi:EM X i fi)
  (hs:X9 e (some (.Subscript o i spos)) pos.line X.env=pure false:=by rfl):SM X (.Assign [.Subscript o i spos] e pos) (mSetIxK fv fo fi):=
 PS.imp (ps_dput 1e3 ho hi hv hs) fun D σ H h_=>by
  sleep 1
  obtain ⟨v,C1,e1,g1⟩:=Zah e
  obtain ⟨o,C2,e2,g2⟩:=Zah g1
  obtain ⟨i,C3,e3,g3⟩:=Zah g2
  obtain ⟨k,ip,p',ks,ps,qs,key,ho,hi,hv,hc,hj,hks,hlen,hf,hC⟩:=setK_some g3
  clear e g1 g2 g3
  subst ho hi hv hf hC
  refine ⟨ι,ρ,C,_,C1,sr,e1,fun x H1 f1 c1 r1=>⟨ι,ρ,C1,_,C2,sr.step f1 c1,e2,fun y H2 f2 c2 r2=>⟨ι,ρ,C2,_,C3,(sr.step f1 c1).step f2 c2,e3,fun w H3 f3 c3 r3=>?_⟩⟩⟩
  obtain ⟨a,rfl,hk⟩:=r2
  obtain ⟨qs',vs,h1,hl,hk',rv⟩:=(show CellOk X.K ι H3 a (.dct ks ps) from c3.ok k a _ hk hc)
  subst hk'
  rw[ZaT] at hks
  cases hks
  have hw:w=kV key:=rep_key (show Rep X.K ι H3 ip w from r3) hj
  subst hw
  have r1':Rep X.K ι H3 p' x:=Rep.mono c2 f3 _ _ (Rep.mono c1 f2 _ _ r1)
  obtain ⟨z1,z2⟩:=put_zip (k:=key) (v:=x) hl
  have fr:Fr ι H3 (upd H3 a (.dK (putK (qs.zip vs) key x))):=fun b u n e=>by
   rw[Zaw (fun z=>n (by rw[z];exact YH hk))];exact e
  have c4:CR X.K ι (upd H3 a (.dK (putK (qs.zip vs) key x))) (C3.set k (.dct ((putKs qs key).map kP) (putVs qs ps key p'))):=
   c3.put hk ⟨putKs qs key,putVs qs vs key x,by rw[←z1];exact ZaM,z2,rfl,Reps.mono c3 fr _ _ (Zcz r1' rv)⟩
  rw[Yv] at hlen
  refine ⟨a,_,rfl,DPut.k h1 (by rw[WR,YE];lia),?_⟩
  exact Done.nx0 ((((sr.step f1 c1).step f2 c2).step f3 c3).step fr c4) (d.fr c4 (f1.trans (f2.trans (f3.trans fr))))
def getTH:PV->List PV->Option PV
 | .dtt ks vs,[.tup qs]=>match keysP qs with
  | some q=>some ((lookT ks vs q).getD .non)
  | none=>none
 | _,_=>none
def rGetT:V->List V->Hp->VK->Prop:=fun x vs H Q=>∃a y o,x=.ref a/\vs=[y]/\DGet H a y o/\Q (o.getD .non) H
theorem mt_getT (hu:6e7):MtR X "dict.get" rGetT:=by
 intro pins s σ H x vs v us Q I rx rv h
 obtain ⟨a,y,o,rfl,rfl,g,q⟩:=h
 cases rx
 obtain ⟨u,rfl,ru⟩:=rv.one
 exact d_get1 1e3 I g ru fun w' s' I' r'=>⟨_,H,I',r',q⟩
theorem Zdp {q:9e2}:∀{ks:List 9e8} {ps:List PV} {vs:List V},ks.length=vs.length->ps.length=vs.length->lookT ks ps q=none->valV (ks.zip vs) q=none
 | [],_,vs,hl,hp,h=>by simp[valV]
 | k::ks,[],[],hl,hp,h=>by simp at hl
 | k::ks,[],_::_,hl,hp,h=>by simp at hp
 | k::ks,_::_,[],hl,hp,h=>by simp at hl
 | k::ks,p::ps,v::vs,hl,hp,h=>by
  unfold lookT at h
  by_cases e:k=q
  ·rw[if_pos e] at h;cases h
  ·rw[if_neg e] at h
   rw[YU,ZbH (p:=(k,v)) e]
   exact Zdp (by simpa using hl) (by simpa using hp) h
theorem getT_ok:Mtok X.K rGetT getTH:=by
 intro ι H C q v ps vs z Q cr lq ls e k
 cases ls with
 | nil=>cases q<;>cases e
 | @cons p0 v0 ps0 vs0 l t=>
  cases q with
  | dtt ks ws=>
   cases t with
   | nil=>
    cases p0 with
    | tup qs=>
     replace e:(match keysP qs with | some q=>some ((lookT ks ws q).getD .non) | none=>none)=some z:=e
     split at e
     ·rename_i key hk
      cases e
      obtain ⟨b,rfl,hb⟩:=ZcW l hk
      obtain ⟨a,us,rfl,hd,hl,r⟩:=liesTT lq
      refine ⟨a,_,_,rfl,rfl,dgetT hd hb,?_⟩
      cases h1:lookT ks ws key with
      | none=>rw[Zdp hl r.length h1];rw[h1] at k;exact k _ H .refl cr repN
      | some w=>
       obtain ⟨v',hv',rv'⟩:=(ZcU hl r).1 w h1
       rw[hv'];rw[h1] at k;exact k _ H .refl cr rv'
     ·cases e
    | _=>cases e
   | cons l2 t=>cases p0<;>cases e
  | _=>cases e
end
mutual
noncomputable def flat:PV->Bool
 | .lst _=>false
 | .dct _ _=>false
 | .dtt _ _=>false
 | .tup xs=>flats xs
 | _=>true
noncomputable def flats:List PV->Bool
 | []=>true
 | p::r=>flat p&&flats r
end
def flatC:PV->Bool
 | .lst ps=>flats ps
 | .dct _ ps=>flats ps
 | .dtt _ ps=>flats ps
 | _=>false
section
variable {K:W.Frag}{ι ι':3e8}{H H':Hp}{C:Cs}
mutual
theorem Rep.flat:∀(p:PV) (v:V),Pu.flat p=true->Rep K ι H p v->Rep K ι' H p v
 | .non,v,_,h=>by unfold Rep at h ⊢;exact h
 | .bl b,v,_,h=>by unfold Rep at h ⊢;exact h
 | .int i,v,_,h=>by unfold Rep at h ⊢;exact h
 | .str x,v,_,h=>by unfold Rep at h ⊢;exact h
 | .tup ps,v,f,h=>by
  unfold Rep at h ⊢
  obtain ⟨a,vs,e,sq,r⟩:=h
  exact ⟨a,vs,e,sq,Reps.flat ps vs (by unfold Pu.flat at f;exact f) r⟩
 | .lst ps,v,f,h=>by unfold Pu.flat at f;cases f
 | .dct ks ps,v,f,h=>by unfold Pu.flat at f;cases f
 | .dtt ks ps,v,f,h=>by unfold Pu.flat at f;cases f
 | .fn a,v,_,h=>by unfold Rep at h ⊢;exact h
 | .ty n,v,_,h=>by unfold Rep at h ⊢;exact h
theorem Reps.flat:∀(ps:List PV) (vs:List V),Pu.flats ps=true->Reps K ι H ps vs->Reps K ι' H ps vs
 | [],vs,_,h=>by unfold Reps at h ⊢;exact h
 | p::ps,vs,f,h=>by
  unfold Reps at h ⊢
  obtain ⟨v,r,e,h1,h2⟩:=h
  unfold Pu.flats at f
  rw[Yt] at f
  exact ⟨v,r,e,Rep.flat p v f.1 h1,Reps.flat ps r f.2 h2⟩
end
theorem CellOk.flat {a:Addr}{c:PV}(f:flatC c=true)(h:CellOk K ι H a c):CellOk K ι' H a c:=by
 cases c with
 | lst ps=>obtain ⟨vs,e,r⟩:=h;exact ⟨vs,e,Reps.flat _ _ f r⟩
 | dct ks ps=>obtain ⟨qs,vs,e,hl,hk,r⟩:=h;exact ⟨qs,vs,e,hl,hk,Reps.flat _ _ f r⟩
 | dtt ks ps=>obtain ⟨vs,e,hl,r⟩:=h;exact ⟨vs,e,hl,Reps.flat _ _ f r⟩
 | _=>exact h.elim
theorem CellOk.cells {a:Addr}{c:PV}(hs:∀b o,H b=some o->b∉ι->b∉ι')(h:CellOk K ι H a c):CellOk K ι' H a c:=by
 cases c with
 | lst ps=>obtain ⟨vs,e,r⟩:=h;exact ⟨vs,e,Reps.cells hs _ _ r⟩
 | dct ks ps=>obtain ⟨qs,vs,e,hl,hk,r⟩:=h;exact ⟨qs,vs,e,hl,hk,Reps.cells hs _ _ r⟩
 | dtt ks ps=>obtain ⟨vs,e,hl,r⟩:=h;exact ⟨vs,e,hl,Reps.cells hs _ _ r⟩
 | _=>exact h.elim
theorem CellOk.rep {a:Addr}{c:PV}(hna:a∉ι')(hs:∀b o,H b=some o->b∉ι->b∉ι')(h:CellOk K ι H a c):Rep K ι' H c (.ref a):=by
 cases c with
 | lst ps=>obtain ⟨vs,e,r⟩:=h;unfold Rep;exact ⟨a,vs,rfl,.inl ⟨hna,.inl e⟩,Reps.cells hs _ _ r⟩
 | dct ks ps=>obtain ⟨qs,vs,e,hl,hk,r⟩:=h;unfold Rep;exact ⟨a,qs,vs,rfl,hna,e,hl,hk,Reps.cells hs _ _ r⟩
 | dtt ks ps=>obtain ⟨vs,e,hl,r⟩:=h;unfold Rep;exact ⟨a,vs,rfl,hna,.inl e,hl,Reps.cells hs _ _ r⟩
 | _=>exact h.elim
end
noncomputable def pickK (xs:List SV):List Nat->Option (List Nat)
 | []=>some []
 | i::r=>match xs[i]?,pickK xs r with
  | some (.c k),some ks=>if k∈ks then none else some (k::ks)
  | _,_=>none
noncomputable def smallX (C:Cs)(ks:12e4):List SV->Option (List SV)
 | []=>some []
 | .v p::r=>(smallX C ks r).map (.v p::·)
 | .c k::r=>match ks.idxOf? k with
  | some j=>(smallX C ks r).map (.c j::·)
  | none=>match C[k]? with
   | some c=>(smallX C ks r).map (.v c::·)
   | none=>none
noncomputable def smallC (C:Cs):List Nat->Option Cs
 | []=>some []
 | k::r=>match C[k]?,smallC C r with
  | some c,some cs=>some (c::cs)
  | _,_=>none
noncomputable def backC (C:Cs):List Nat->Cs->Cs
 | k::ks,c::cs=>backC (C.set k c) ks cs
 | _,_=>C
section
variable {K:W.Frag}{ι:3e8}{H H':Hp}{C D:Cs}
theorem Zdh:∀{ks:12e4} {D:Cs},smallC C ks=some D->D.length=ks.length/\∀(j k:Nat),ks[j]? = some k->∃c,D[j]? = some c/\C[k]? = some c
 | [],D,h=>by cases h;exact ⟨rfl,fun j k e=>by simp at e⟩
 | k::ks,D,h=>by
  unfold smallC at h
  split at h
  ·rename_i c cs h1 h2
   cases h
   obtain ⟨a,b⟩:=Zdh h2
   refine ⟨by simp[a],fun j k' e=>?_⟩
   cases j with
   | zero=>simp at e;subst e;exact ⟨c,rfl,h1⟩
   | succ j=>exact b j k' (by simpa using e)
  ·cases h
theorem backC_len:∀{ks:12e4} {C D:Cs},(backC C ks D).length=C.length
 | [],C,D=>by unfold backC;rfl
 | k::ks,C,[]=>by unfold backC;rfl
 | k::ks,C,c::D=>by unfold backC;rw[backC_len,Xm]
theorem backC_get:∀{ks:12e4} {C D:Cs},ks.Nodup->D.length=ks.length->(∀k∈ks,k < C.length)->(∀(j k:Nat),ks[j]? = some k->(backC C ks D)[k]? = D[j]?)/\∀(k:Nat),k∉ks->(backC C ks D)[k]? = C[k]?
 | [],C,D,_,_,_=>⟨fun j k e=>by simp at e,fun k _=>by unfold backC;rfl⟩
 | k::ks,C,[],_,h,_=>by simp at h
 | k::ks,C,c::D,nd,h,hl=>by
  rw[Y9] at nd
  have ih:=backC_get (ks:=ks) (C:=C.set k c) (D:=D) nd.2 12e0 (fun q hq=>by rw[Xm];exact hl q (YL _ hq))
  unfold backC
  refine ⟨fun j q e=>?_,fun q hq=>?_⟩
  ·cases j with
   | zero=>
    simp at e;subst e
    rw[ih.2 k nd.1,Xk (hl k YS)];rfl
   | succ j=>rw[ih.1 j q (by simpa using e)];rfl
  ·rw[Ys,not_or] at hq
   rw[ih.2 q hq.2,Ym (Xi hq.1)]
theorem pickK_ok {xs:List SV}{vs:List V}(rs:RepSs K ι H xs vs):∀{ix ks:12e4},pickK xs ix=some ks->ks.Nodup/\∀k∈ks,k < ι.length
 | [],ks,h=>by cases h;exact ⟨.nil,fun k hk=>by cases hk⟩
 | i::ix,ks,h=>by
  unfold pickK at h
  split at h
  ·rename_i k ks' h1 h2
   split at h
   ·cases h
   ·rename_i hn
    cases h
    obtain ⟨a,b⟩:=pickK_ok rs h2
    refine ⟨Y9.mpr ⟨hn,a⟩,fun q hq=>?_⟩
    rcases Ys.mp hq with rfl | hq
    ·obtain ⟨v,_,a,_,e⟩:=RepSs.get rs h1
     rcases YJ q ι.length with z | z
     ·exact z
     ·rw[Ye.mpr z] at e;cases e
    ·exact b q hq
  ·cases h
noncomputable def addrs (ι:3e8)(ks:12e4):List Addr:=ks.map fun k=>ι.getD k 0
theorem Zdf {ks:12e4}(hl:∀k∈ks,k < ι.length){j k:Nat}(e:ks[j]? = some k):(addrs ι ks)[j]? = ι[k]?:=by
 unfold addrs
 rw[YI,e]
 have:=hl k (YH e)
 simp[Yc this]
theorem Zbi {ks:12e4}(hl:∀k∈ks,k < ι.length){b:Addr}(h:b∈addrs ι ks):∃k∈ks,ι[k]? = some b:=by
 unfold addrs at h
 obtain ⟨k,hk,e⟩:=Yy.mp h
 refine ⟨k,hk,?_⟩
 have:=hl k hk
 simp[Yc this] at e ⊢
 exact e
theorem get_inj (nd:ι.Nodup){j k:Nat}{a:Addr}(h1:ι[j]? = some a)(h2:ι[k]? = some a):j=k:=by
 obtain ⟨l1,e1⟩:=YK.mp h1
 obtain ⟨l2,e2⟩:=YK.mp h2
 exact (XD nd).mp (e1.trans e2.symm)
theorem Zde (nd:ι.Nodup):∀{ks:12e4},ks.Nodup->(∀k∈ks,k < ι.length)->(addrs ι ks).Nodup
 | [],_,_=>.nil
 | k::ks,h,hl=>by
  rw[Y9] at h
  show (ι.getD k 0::addrs ι ks).Nodup
  refine Y9.mpr ⟨fun z=>?_,Zde nd h.2 fun q hq=>hl q (YL _ hq)⟩
  obtain ⟨q,hq,e⟩:=Zbi (fun q hq=>hl q (YL _ hq)) z
  have hk:=hl k YS
  have e2:ι[k]? = some (ι.getD k 0):=by simp[Yc hk]
  exact h.1 ((get_inj nd e2 e) ▸ hq)
theorem small_cr (cr:11e4){ks:12e4}(nd:ks.Nodup)(hl:∀k∈ks,k < ι.length)(e:smallC C ks=some D):CR K (addrs ι ks) H D:=by
 obtain ⟨l,g⟩:=Zdh e
 have hs:∀b o,H b=some o->b∉ι->b∉addrs ι ks:=fun b o _ n z=>by
  obtain ⟨k,_,q⟩:=Zbi hl z
  exact n (YH q)
 refine ⟨by unfold addrs;rw[Yv,l],Zde cr.nd nd hl,fun j a c h1 h2=>?_⟩
 have hj:j < ks.length:=by
  rcases YJ j ks.length with z | z
  ·exact z
  ·rw[Ye.mpr 1e3] at h2;cases h2
 have ek:=Yc hj
 rw[Zdf hl ek] at h1
 obtain ⟨c',g1,g2⟩:=g j _ ek
 rw[h2] at g1;cases g1
 exact (cr.ok _ a c h1 g2).cells hs
theorem ZbI (cr:11e4){ks:12e4}(hl:∀k∈ks,k < ι.length):∀{xs ys:List SV} {vs:List V},RepSs K ι H xs vs->smallX C ks xs=some ys->RepSs K (addrs ι ks) H ys vs
 | [],ys,vs,r,e=>by cases e;exact r
 | .v p::xs,ys,vs,r,e=>by
  obtain ⟨v,w,rfl,h1,h2⟩:=r
  unfold smallX at e
  cases hq:smallX C ks xs with
  | none=>rw[hq] at e;cases e
  | some z=>
   rw[hq] at e;cases e
   exact ⟨v,w,rfl,Rep.cells (fun b o _ n z=>by obtain ⟨k,_,q⟩:=Zbi hl z;exact n (YH q)) p v h1,ZbI cr hl h2 hq⟩
 | .c k::xs,ys,vs,r,e=>by
  obtain ⟨v,w,rfl,⟨a,rfl,ha⟩,h2⟩:=r
  unfold smallX at e
  cases hi:ks.idxOf? k with
  | some j=>
   rw[hi] at e
   cases hq:smallX C ks xs with
   | none=>rw[hq] at e;cases e
   | some z=>
    rw[hq] at e;cases e
    refine ⟨.ref a,w,rfl,⟨a,rfl,?_⟩,ZbI cr hl h2 hq⟩
    have ej:ks[j]? = some k:=by
     rw[List.idxOf?_eq_some_iff] at hi
     obtain ⟨h,e,_⟩:=hi
     rw[Yc h,e]
    rw[Zdf hl ej];exact ha
  | none=>
   rw[hi] at e
   have hk:k∉ks:=List.idxOf?_eq_none_iff.mp hi
   cases hc:C[k]? with
   | none=>rw[hc] at e;cases e
   | some c=>
    rw[hc] at e
    cases hq:smallX C ks xs with
    | none=>rw[hq] at e;cases e
    | some z=>
     rw[hq] at e;cases e
     refine ⟨.ref a,w,rfl,(cr.ok k a c ha hc).rep (fun z=>?_) (fun b o _ n z=>by obtain ⟨k,_,q⟩:=Zbi hl z;exact n (YH q)),ZbI cr hl h2 hq⟩
     obtain ⟨k',hk',q⟩:=Zbi hl z
     exact hk ((get_inj cr.nd ha q) ▸ hk')
theorem small_fr {ks:12e4}(hl:∀k∈ks,k < ι.length)(f:Fr (addrs ι ks) H H'):Fr ι H H':=fun b o n e=>f b o (fun z=>by obtain ⟨k,_,q⟩:=Zbi hl z;exact n (YH q)) e
theorem small_back (cr:11e4){ks:12e4}(nd:ks.Nodup)(hl:∀k∈ks,k < ι.length)(f:Fr (addrs ι ks) H H')(c2:CR K (addrs ι ks) H' D)(fl:D.all flatC=true):CR K ι H' (backC C ks D):=by
 have hlD:D.length=ks.length:=by rw[←c2.len];unfold addrs;rw[Yv]
 obtain ⟨g1,g2⟩:=backC_get (C:=C) (D:=D) nd hlD fun k hk=>by rw[←cr.len];exact hl k hk
 refine ⟨by rw[backC_len];exact cr.len,cr.nd,fun k a c h1 h2=>?_⟩
 by_cases hk:k∈ks
 ·obtain ⟨j,hj,e⟩:=Xx hk
  have ej:ks[j]? = some k:=by rw[Yc hj,e]
  rw[g1 j k ej] at h2
  have:=c2.ok j a c (by rw[Zdf hl ej];exact h1) h2
  exact this.flat (YM.mp fl c (YH h2))
 ·rw[g2 k hk] at h2
  refine (cr.ok k a c h1 h2).mono cr (small_fr hl f) fun o e=>f a o (fun z=>?_) e
  obtain ⟨k',hk',q⟩:=Zbi hl z
  exact hk ((get_inj cr.nd h1 q) ▸ hk')
end
def mFnS (F:List SV->M SV)(ix:12e4)(fs:2e9):PSt->M SV:=fun ρ=>bnd (fs ρ) fun xs C=>match pickK xs ix with
 | some ks=>match smallX C ks xs,smallC C ks with
  | some ys,some D=>match F ys D with
   | some (.v p,D')=>if flat p&&D'.all flatC then some (.v p,backC C ks D') else none
   | _=>none
  | _,_=>none
 | none=>none
theorem mFnS_some {F:List SV->M SV}{ix:12e4}{xs:List SV}{C C':Cs}{z:SV}(h:(match pickK xs ix with
 | some ks=>match smallX C ks xs,smallC C ks with
  | some ys,some D=>match F ys D with
   | some (.v p,D')=>if flat p&&D'.all flatC then some (.v p,backC C ks D') else none
   | _=>none
  | _,_=>none
 | none=>none:Option (SV×Cs))=some (z,C')):∃ks ys D p D',pickK xs ix=some ks/\smallX C ks xs=some ys/\smallC C ks=some D/\F ys D=some (.v p,D')/\flat p=true/\D'.all flatC=true/\z=.v p/\C'=backC C ks D':=by
 split at h
 ·split at h
  ·split at h
   ·split at h
    ·rename_i hf
     rw[Yt] at hf
     cases h
     exact ⟨_,_,_,_,_,by assumption,by assumption,by assumption,by assumption,hf.1,hf.2,rfl,rfl⟩
    ·cases h
   ·cases h
  ·cases h
 ·cases h
theorem em_callS {X:Cx}{e:Expr}{es:6e4}{p pos:Pos}{x:Str}{k:Nat}{f:Addr}{fd:XM}{ps:6e2}{F:List SV->M SV}{fs:2e9}(ix:12e4)(G:FnOk X.prog X.w X.K X.mg X.base CX0 k f fd ps (liftSp X.K F))(hr:Room k X.A)(hg:Gl X x)(hm:X.mg x=some (.ref f))(hk:VB X.K (.ref f)=true)(hb:Binds X.K fd ps [])
  (ha:AM X 6e5 fs) (hdb:5e6:=by decide) (he:1e5:=by rfl) (hpl:3e3:=by rfl):
  EM X 11e2 (mFnS F ix fs):=PE.imp (pe_call G hr hg hm hk hb .nil pass0 ha hdb he hpl) fun σ H Q h=>by
 obtain ⟨ι,ρ,C,z,C',sr,e,q⟩:=h
 obtain ⟨xs,C1,e1,e⟩:=Zah e
 refine ⟨ι,ρ,C,xs,C1,sr,e1,fun vs H1 f1 c1 r1=>?_⟩
 obtain ⟨ks,ys,D,q',D',a1,a2,a3,a4,a5,a6,rfl,rfl⟩:=mFnS_some e
 obtain ⟨nd,hl⟩:=pickK_ok r1 a1
 show liftSp X.K F (vs++[]) H1 Q E0
 rw[YF]
 exact ⟨addrs ι ks,ys,D,.v q',D',small_cr c1 nd hl a3,ZbI c1 hl r1 a2,a4,fun v H2 f2 c2 r2=>q v H2 (f1.trans (small_fr hl f2)) (small_back c1 nd hl f2 c2 a6) (show Rep X.K ι H2 q' v from Rep.flat q' v a5 r2)⟩
theorem keyIs_rel {k:Key}{u:Value}(h:keyIs k u=true):RelV (kV k) u:=by
 rcases ZaP h with ⟨i,t,rfl,rfl⟩ | ⟨x,t,rfl,rfl⟩
 ·exact ⟨t,rfl⟩
 ·exact ⟨t,rfl⟩
theorem pairs_vals {P:Yx}{w:World}{es:List WN}{vs:List (Key×Value)}(h:Pairs (mixKind P w) es vs):Vals (vs.map fun q=>kV q.1) (es.map (·.key)):=by
 induction h with
 | nil=>exact .nil
 | cons h1 h2 h3 ih=>exact .cons (keyIs_rel h1) ih
theorem items_keys {es:Array WN}{acc:Array Value}(h:ItemsOf (fun i v=>∃e,es[i]? = some e/\v=e.key) acc es.size):acc.toList=es.toList.map (·.key):=by
 apply YZ
 intro i
 rw[XA,YI,XA]
 by_cases hi:i < acc.size
 ·obtain ⟨e,e1,e2⟩:=h.2 i _ (Y1 hi)
  rw[Y1 hi,e2,e1];rfl
 ·have:=h.1
  rw[Xl 1e3,Xl 1e3];rfl
section
variable {X:Cx}
def rSortedK (K:W.Frag):List V->Hp->VK->Prop:=fun xs H Q=>∃p kvs,xs=[.ref p]/\H p=some (.dK kvs)/\(kvs.map (·.1)).all keyOk=true/\(sortP (kvs.map fun q=>kP q.1)).isSome=true/\
 ∀l,H l=none->Q (.ref l) (upd H l (.lst (sortV (kvs.map fun q=>kP q.1) (kvs.map fun q=>kV q.1))))
theorem call_sortedK (hcm:11e3)(hu:6e7):CallR X (.builtin "sorted") (rSortedK X.K):=by
 intro pins s σ H xs us Q I r h
 obtain ⟨p,kvs,rfl,hq,hko,hs,q⟩:=h
 obtain ⟨u,rfl,rx⟩:=vals1 r
 cases rx
 obtain ⟨hz,lo,vs,kv,o,es,ep,ho,hex,hda,hke,hpa,hnd⟩:=dk_of I.hok hq
 have hkv:(kvs.map fun q=>kV q.1)=vs.map fun q=>kV q.1:=by
  have:=kv.keys
  have e1:(kvs.map fun q=>kV q.1)=(kvs.map (·.1)).map kV:=by rw[Y2];rfl
  have e2:(vs.map fun q=>kV q.1)=(vs.map (·.1)).map kV:=by rw[Y2];rfl
  rw[e1,e2,this]
 have hv:=pairs_vals hpa
 rw[←hkv] at hv
 have hl:es.size=kvs.length:=by
  have:=hv.length
  simpa using this.symm
 generalize hps:(kvs.map fun q=>kP q.1)=ps at hs q
 have hpl:ps.length=kvs.length:=by rw[←hps,Yv]
 have rs:∀ι,Reps X.K ι H ps (kvs.map fun q=>kV q.1):=fun ι=>by
  rw[←hps,show (kvs.map fun q=>kP q.1)=(kvs.map (·.1)).map kP by rw[Y2];rfl,show (kvs.map fun q=>kV q.1)=(kvs.map (·.1)).map kV by rw[Y2];rfl]
  exact reps_kP hko
 unfold sortP at hs
 split at hs
 ·rename_i hh
  simp only[Yt,decide_eq_true_eq] at hh
  obtain ⟨⟨⟨⟨hd,hde⟩,h64⟩,hso⟩,hcm'⟩:=hh
  have hr:=Reps.heap I ps (rs []) hv hd
  have hvl:(es.toList.map (·.key)).length=ps.length:=by rw[Yv,YX];lia
  refine Zcf (vs:=es.toList.map (·.key)) (κ:=kindP ps) (o:=oP ps) (fun Q' q'=>?_) 1e3 (fun h2 h' tk k Q' q'=>?_) (fun h2 h' tk k i j C hi hj hC=>?_) (fun D h' tk c hD k e=>?_)
  ·refine Zda (raw_src (es:=es) (ep:=ep) lo) (I.ok.hd hcm) ⟨o,ho,hex,hda⟩ (by rw[YE];lia) fun h' tk acc k hle ai=>?_
   rw[items_keys ai]
   exact q' h' tk k hle
  ·exact kind_of (s:={ s with heap:=h',toks:=tk }) (hr.keep k) h2 hso q'
  ·exact ask_of (s:={ s with heap:=h',toks:=tk }) (hr.keep k) hso hcm' (by rw[YD,YD];lia) hi hj hC
  ·rw[ZcA hvl.symm] at e
   refine ⟨.ref D,_,I.laid (t':=tk) k hD (show ObjOk X.prog X.w _ h' _ (.lst (sortV ps (kvs.map fun q=>kV q.1))) from ⟨?_,sortU ps (es.toList.map (·.key)),c,?_,e⟩),rfl,q _ (I.hok.fresh hD)⟩
   ·unfold sortV
    rw[Yv]
    have:(perm ps).length<=64:=by
     unfold perm
     split
     ·rw[W1];lia
     ·rw[YX,(Zdi (o:=oP ps) (X6 ps.length) (Zcg 1e3)).2.1];lia
    exact Yz this (by rw[YE];decide)
   ·exact ZbZ hv fun i hi=>by have:=ZbD i hi;simp only[Yv,YX] at hvl ⊢;lia
 ·cases hs
def sortedH3 (C:Cs):List SV->Option 7e5
 | [x]=>match deref C x with
  | some (.dct ks _)=>match keysP ks with
   | some qs=>if qs.all keyOk then sortP ks else none
   | none=>none
  | _=>sortedH2 C [x]
 | _=>none
def mSorted3 (fs:2e9):PSt->M 7e5:=fun ρ=>bnd (fs ρ) fun xs=>opM fun C=>sortedH3 C xs
theorem PE.or {e:Expr}{t t':TE}(h:PE X e t)(k:PE X e t'):PE X e fun σ H Q=>t σ H Q\/t' σ H Q:=fun pins s σ H Q I q=>by
 rcases q with q | q
 ·exact h pins s σ H Q I q
 ·exact k pins s σ H Q I q
end
end Pu
namespace Pu
open PySem PySem.Spec L2
open PyProof.Rows hiding St Fr
def Je (K:W.Frag)(a:Addr):It:=⟨fun i H=>∃xs v,SqL K H a xs/\xs[i]? = some v,fun i H x H'=>∃b v,H b=none/\x=.ref b/\H'=upd H b (.tup [.int i,v])/\∀xs,SqL K H a xs->xs[i]? = some v,
 fun i H=>∃xs,SqL K H a xs/\xs.length<=i⟩
theorem turn_enum {P:Yx}{w:World}{K:W.Frag}{elts:6e4}{x1:Nat}{pos:Pos}{a e it:Addr}(hne:e≠it):Turn P w K (.Tuple elts x1 pos) (Je K a) [e,it] e
  (fun i h=>(∃old,IsEnum h e it i old)/\h.IsListIter it a i) where
 mem:=by simp
 obj:=fun i h st b hb=>by
  obtain ⟨⟨old,he⟩,o,hi,hc,hd⟩:=st
  simp only[Ys,Xn,or_false] at hb
  rcases hb with rfl | rfl
  ·exact ⟨_,he,fun v q=>by cases q⟩
  ·exact ⟨o,hi,fun v q=>by rw[hd] at q;cases q⟩
 keep:=fun i h h' st k=>by
  obtain ⟨⟨old,he⟩,hi⟩:=st
  exact ⟨⟨old,k e 5e2 _ he⟩,hi.at fun o z=>k it 5e2 o z⟩
 item:=by
  sleep 5
  obtain ⟨⟨old,he⟩,hi⟩:=st
  obtain ⟨xs,v,hq,hx⟩:=hg
  obtain ⟨its,rv,p,hz⟩:=I.list hq
  obtain ⟨u,hu,ru⟩:=rv.get hx
  refine wpAny_pyNext_enum_item he hi p.isList (x:=u) (by simpa using hu) hne fun h' ho hi' hT hsz hk=>⟨_,rfl,?_⟩
  refine wpAny_letOwnedTupleGo_enum (s:={ s with heap:=h',toks:=s.toks + 1 }) ho fun h3 he3 sb=>?_
  have J1:Inv X pins σ H { s with heap:=h3,toks:=s.toks + 1 }:=turnedL (ch:=[e,it]) I (fun b o hb z=>by
   simp only[Ys,Xn,or_false,not_or] at hb
   exact sb.extBut _ _ hb.1 (hk b o hb.1 hb.2 z)) hf
  have hlt:∀{b o},s.heap.get? b=some o->b≠s.heap.objs.size:=fun e=>Yn (Yp e)
  have hn:H s.heap.objs.size=none:=I.hok.fresh (Yh _)
  have hT3:=sb.extBut _ _ (hlt he).symm hT
  have J2:=track (ob:=.tup [.int i,v]) J1 hn I.sz (XZ I.lt) (fun x c e=>by obtain ⟨v,q⟩:=I.cell x c e;exact Yn q.lt) (fun p hp=>hlt (I.pin p hp).1)
   ⟨by show 2<=Yo;rw[YE];decide,[.int i s.toks,u],.cons 8e4 (.cons ru .nil),⟨_,hT3,rfl,_,rfl⟩⟩
  refine ⟨.ref s.heap.objs.size,_,J2,rfl,⟨_,v,hn,rfl,rfl,fun ys hy=>by rw[I.list_inj hy hq];exact hx⟩,⟨⟨_,he3⟩,hi'.at fun o z=>sb.extBut _ _ hne.symm z⟩,fun b hb=>?_⟩
  have hb':b≠s.heap.objs.size:=by
   simp only[Ys,Xn,or_false] at hb
   rcases hb with rfl | rfl
   ·exact hlt he
   ·obtain ⟨o,z,_⟩:=hi;exact hlt z
  rw[Zaw hb'];exact (hf b hb).1
 done:=by
  sleep 5
  obtain ⟨⟨old,he⟩,hi⟩:=st
  obtain ⟨xs,hq,hx⟩:=hg
  obtain ⟨its,rv,p,hz⟩:=I.list hq
  have hl:=rv.length
  refine wpAny_pyNext_enum_end (I.ok.hd hc) he hi p.isList 12e1 fun h' eb=>⟨rfl,turnedL (t':=s.toks) (ch:=[e,it]) I (fun b o hb z=>?_) hf⟩
  simp only[Ys,Xn,or_false,not_or] at hb
  exact eb b o hb.2 z
 self:=fun _ _ _ _ _ st h=>by obtain ⟨⟨old,he⟩,_⟩:=st;exact wpAny_pyIter_enum he h
section
variable {X:Cx}{l:Expr}{elts:6e4}{x1:Nat}{tpos p pos:Pos}
def iEnum (K:W.Frag)(tl:TA):TI:=fun σ H R=>tl σ H fun xs H1=>∃a,xs=[.ref a]/\(∃vs,SqL K H1 a vs)/\R (Je K a) H1
theorem pi_enum {tl:TA}(hg:Gl X "enumerate")(hm:X.mg "enumerate"=none)(ha:PA X [l] tl)(hs:Yi [l] X.env=[(false,eval l X.env)]:=by rfl):PI X (.Tuple elts x1 tpos) (.Call (.Name "enumerate" p) [l] [] pos) (iEnum X.K tl):=by
 intro pins s σ H R I h
 refine Call_ (Zdq I hg hm 1e0 (XH (thn (ha pos pins s σ H _ I h) fun us s1 ⟨vs,H1,I1,r1,q1⟩=>?_) hs rfl))
 obtain ⟨a,rfl,⟨ws,hq⟩,q⟩:=q1
 obtain ⟨u,rfl,ru⟩:=vals1 r1
 cases ru
 obtain ⟨its,rv,pl,hz⟩:=I1.list hq
 refine call_enumerate_list pl.isList fun h' he hi hsz k=>?_
 have J:Inv X pins σ H1 { s1 with heap:=h' }:=I1.kept (t':=s1.toks) k
 refine wpAny_pyIter_enum (s:={ s1 with heap:=h' }) he ⟨s1.heap.objs.size + 1,[s1.heap.objs.size + 1,s1.heap.objs.size],_,_,H1,rfl,J,turn_enum (Nat.succ_ne_self _),⟨⟨_,he⟩,hi⟩,fun b hb=>?_,q⟩
 have hb':s1.heap.objs.size<=b:=by
  simp only[Ys,Xn,or_false] at hb
  rcases hb with rfl | rfl<;>lia
 exact I1.fpOk hb' (I1.hok.fresh hb')
noncomputable def enumL (xs:List PV):List PV:=(Yk xs.length).map fun i=>.tup [.int (i:Nat),xs.getD i .non]
def enumP:List SV->Option 7e5
 | [.v (.lst xs)]=>some (enumL xs)
 | _=>none
def mEnum (fs:2e9):PSt->M 7e5:=fun ρ=>bnd (fs ρ) fun xs=>opM fun _=>enumP xs
theorem ZbG (xs:List PV):(enumL xs).length=xs.length:=by unfold enumL;simp
theorem iter_enum {K:W.Frag}{ι:3e8}{H:Hp}{C:Cs}{a:Addr}{xs:List PV}{vs:List V}(cr:11e4)(h:LsR K ι H a vs)(r:Reps K ι H xs vs):Iter K ι H (enumL xs) (Je K a):=by
 have keep:∀ι2 H2,Ex ι ι2 H H2->SqL K H2 a vs:=fun ι2 H2 x=>by
  rcases h with ⟨n,q | ⟨o,q⟩⟩ | q
  ·exact .inl (.inl (x.out _ _ n q).2)
  ·exact .inl (.inr ⟨o,(x.out _ _ n q).2⟩)
  ·exact .inr q
 refine ⟨fun ι2 H2 C2 x c i hi=>?_,fun ι2 H2 C2 x c i v H3 hi y=>?_,fun ι2 H2 C2 x c=>⟨vs,keep ι2 H2 x,by rw[ZbG,r.length];exact Yh _⟩⟩
 ·rw[ZbG] at hi
  obtain ⟨v,e,_⟩:=r.get (Yc hi)
  exact ⟨vs,v,keep ι2 H2 x,e⟩
 ·rw[ZbG] at hi
  obtain ⟨b,w,hn,rfl,rfl,y⟩:=y
  obtain ⟨p,hp,rp⟩:=r.get' (y vs (keep ι2 _ x))
  refine ⟨fun c o e=>by rw[Zaw (Zap e hn)];exact e,.tup [.int (i:Nat),p],?_,ZcS hn (.cons repI (.cons (Rep.tr cr x.out p w rp) .nil))⟩
  unfold enumL
  simp[hi]
  rw[Yc hi] at hp
  exact YC hp
def loopE (g:5e8)(f:10e9)(k:Nat):Nat->Nat->PSt->M PF
 | 0,_,_=>fun _=>none
 | n + 1,j,ρ=>fun C=>match C[k]? with
  | some (.lst qs)=>match qs[j]? with
   | some x=>match g (.tup [.int (j:Nat),x]) ρ with
    | none=>none
    | some ρ1=>bnd (f ρ1) (fun fl=>match fl with
     | .nx ρ2=>loopE g f k n (j + 1) ρ2
     | .ct ρ2=>loopE g f k n (j + 1) ρ2
     | .bk ρ2=>Pu.ret (.nx ρ2)
     | .rt r=>Pu.ret (.rt r)
     | .rf ps=>Pu.ret (.rf ps)
     | .rq ps=>Pu.ret (.rq ps)) C
   | none=>some (.nx ρ,C)
  | _=>none
def mForE (fs:2e9)(g:5e8)(f:10e9):PSt->M PF:=fun ρ=>bnd (fs ρ) fun x=>match x with
 | [.c k]=>loopE g f k 1000 0 ρ
 | _=>fun _=>none
end
def putD (k:Nat)(y v:SV):M Unit:=fun C=>match y,v with
 | .v (.tup qs),.v p=>match C[k]?,keysP qs with
  | some (.dtt ks ps),some key=>if ks.length < 1000 then some ((),C.set k (.dtt (putKs ks key) (putVs ks ps key p))) else none
  | _,_=>none
 | _,_=>none
theorem putD_some {k:Nat}{y v:SV}{C C2:Cs}{u:Unit}(h:putD k y v C=some (u,C2)):∃qs p ks ps key,y=.v (.tup qs)/\v=.v p/\C[k]? = some (.dtt ks ps)/\keysP qs=some key/\ks.length < 1000/\C2=C.set k (.dtt (putKs ks key) (putVs ks ps key p)):=by
 unfold putD at h
 split at h
 ·split at h
  ·split at h
   ·cases h;exact ⟨_,_,_,_,_,rfl,rfl,by assumption,by assumption,by assumption,rfl⟩
   ·cases h
  ·cases h
 ·cases h
def compD (g:5e8)(tt:7e1)(tk te:4e2)(k:Nat):List PV->PSt->M Unit
 | [],_=>ret ()
 | x::xs,ρ=>match g x ρ with
  | none=>fun _=>none
  | some ρ1=>bnd (tt ρ1) fun b=>if b then bnd (tk ρ1) fun y=>bnd (te ρ1) fun v=>bnd (putD k y v) fun _=>compD g tt tk te k xs ρ1
   else compD g tt tk te k xs ρ1
def mCompD (it:13e7)(vs:6e2)(fr:12e4)(g:5e8)(tt:7e1)(tk te:4e2):PSt->M SV:=fun ρ=>bnd (it ρ) fun xs C=>match compD g tt tk te C.length xs (stIn' vs fr ρ) (C++[.dtt [] []]) with
 | some (_,C')=>fin C.length C' (.c C.length)
 | none=>none
theorem compD_pure {K:W.Frag}{it:13e7}{vs:6e2}{fr:12e4}{g:5e8}{tt:7e1}{tk te:4e2}{σ:St}{H:Hp}{Q:VK}{ι:3e8}{ρ:PSt}{C C':Cs}{z:SV}(sr:SR K ι H ρ σ C)
  (e:mCompD it vs fr g tt tk te ρ C=some (z,C')) (q:∀v H',Fr ι H H'->CR K ι H' C'->RepS K ι H' z v->Q v H'):tCompD (tMI K it) vs fr (tMG K g) (tMB K tt) (tM K tk) (tM K te) σ H Q:=by
 obtain ⟨xs,C1,e1,e⟩:=Zah e
 refine ⟨ι,ρ,C,xs,C1,sr,e1,fun J H1 f1 c1 it1=>?_⟩
 intro D hD
 cases hc:compD g tt tk te C1.length xs (stIn' vs fr ρ) (C1++[.dtt [] []]) with
 | none=>rw[hc] at e;cases e
 | some r=>
 obtain ⟨u,C9⟩:=r
 rw[hc] at e
 replace e:fin C1.length C9 (.c C1.length)=some (z,C'):=e
 have x0:Ex ι [D] H1 (upd H1 D (.dT [])):=⟨Fr.new hD,fun b hb=>by
  have:b=D:=by simpa using hb
  subst this;exact hD⟩
 have c2:CR K (ι++[D]) (upd H1 D (.dT [])) (C1++[.dtt [] []]):=c1.add hD ⟨[],ZaM,rfl,.nil⟩
 have sr1:=((sr.step f1 c1).block vs fr).ex x0 c2
 have hkD:(ι++[D])[C1.length]? = some D:=by rw[←c1.len];simp
 refine ⟨fun i m σ2 H2=>∃ρ2 C2,m=xs.length - i/\i<=xs.length/\Ex ι [D] H1 H2/\SR K (ι++[D]) H2 ρ2 σ2 C2/\compD g tt tk te C1.length (xs.drop i) ρ2 C2=some (u,C9),⟨xs.length,_,_,rfl,Xe _,x0,sr1,hc⟩,?_⟩
 rintro i m σ2 H2 ⟨ρ2,C2,rfl,hi2,x2,sr2,e2⟩
 rcases YJ i xs.length with hlt | hge
 ·right
  refine ⟨it1.go [D] H2 C2 x2 sr2.cr i hlt,fun σ' H'=>∃ρ2 C2,Ex ι [D] H1 H'/\SR K (ι++[D]) H' ρ2 σ' C2/\compD g tt tk te C1.length (xs.drop (i + 1)) ρ2 C2=some (u,C9),?_,?_⟩
  ·rintro σ' H' ⟨ρ3,C3,x3,sr3,e3⟩
   exact ⟨xs.length - (i + 1),by lia,ρ3,C3,rfl,hlt,x3,sr3,e3⟩
  ·intro v H3 y
   obtain ⟨sm,qv,hq,rq⟩:=it1.yld [D] H2 C2 x2 sr2.cr i v H3 hlt y
   have hd:xs.drop i=qv::xs.drop (i + 1):=by
    rw[Wy hlt]
    rw[Yc hlt] at hq
    rw[YC hq]
   rw[hd] at e2
   unfold compD at e2
   have nx:∀{Ha Hb:Hp},Ex ι [D] H1 Ha->Fr (ι++[D]) Ha Hb->Ex ι [D] H1 Hb:=fun {Ha Hb} x f=>⟨fun b o n e=>f b o (x.out b o n e).1 (x.out b o n e).2,x.2⟩
   have fr3:Fr (ι++[D]) H2 H3:=fun b o _ z=>sm b o z
   have cr3:CR K (ι++[D]) H3 C2:=sr2.cr.same sm
   cases hg1:g qv ρ2 with
   | none=>rw[hg1] at e2;cases e2
   | some ρ3=>
    rw[hg1] at e2
    obtain ⟨b,C3,e3,e4⟩:=Zah e2
    refine ⟨ι++[D],ρ2,C2,qv,ρ3,sr2.step fr3 cr3,rq,hg1,fun σ4 sr4=>⟨ι++[D],ρ3,C2,b,C3,sr4,e3,fun H5 f5 c5=>?_⟩⟩
    have x5:=nx (nx x2 fr3) f5
    have sr5:=sr4.step f5 c5
    cases b with
    | false=>
     rw[if_neg Yl] at e4
     dsimp only
     rw[if_neg Yl]
     exact ⟨ρ3,C3,x5,sr5,e4⟩
    | true=>
     rw[if_pos rfl] at e4
     dsimp only
     rw[if_pos rfl]
     obtain ⟨y1,C4,e5,e6⟩:=Zah e4
     obtain ⟨y2,C5,e7,e8⟩:=Zah e6
     obtain ⟨y3,C6,e9,e10⟩:=Zah e8
     obtain ⟨qs,p,ks,ps,key,rfl,rfl,hcell,hkey,hlen,rfl⟩:=putD_some e9
     refine ⟨ι++[D],ρ3,C3,_,C4,sr5,e5,fun v6 H6 f6 c6 r6=>⟨ι++[D],ρ3,C4,_,C5,sr5.step f6 c6,e7,fun v7 H7 f7 c7 r7=>?_⟩⟩
     obtain ⟨vs',h1,hl,rv⟩:=(show CellOk K (ι++[D]) H7 D (.dtt ks ps) from c7.ok C1.length D _ hkD hcell)
     obtain ⟨bk,rfl,hb⟩:=ZbU (show Rep K (ι++[D]) H7 (.tup qs) v6 from Rep.mono c6 f7 _ _ r6) hkey
     obtain ⟨z1,z2⟩:=put_zip (k:=key) (v:=v7) hl
     have fr8:Fr (ι++[D]) H7 (upd H7 D (.dT (putK (ks.zip vs') key v7))):=fun b u n e=>by
      rw[Zaw (fun z=>n (by rw[z];exact YH hkD))];exact e
     have c8:CR K (ι++[D]) (upd H7 D (.dT (putK (ks.zip vs') key v7))) (C5.set C1.length (.dtt (putKs ks key) (putVs ks ps key p))):=
      c7.put hkD ⟨putVs ks vs' key v7,by rw[←z1];exact ZaM,z2,Reps.mono c7 fr8 _ _ (Zcz r7 rv)⟩
     exact ⟨_,DPut.t h1 hb (by rw[WR,YE];lia),ρ3,_,nx (nx (nx x5 f6) f7) fr8,((sr5.step f6 c6).step f7 c7).step fr8 c8,e10⟩
 ·left
  have hi3:i=xs.length:=by lia
  subst hi3
  rw[VL] at e2
  cases e2
  refine ⟨it1.stop [D] H2 _ x2 sr2.cr,?_⟩
  obtain ⟨c4,r4⟩:=fin_ok sr2.cr c1.len (show RepS K (ι++[D]) H2 (.c C1.length) (.ref D) from ⟨D,rfl,hkD⟩) e
  exact q _ H2 (f1.trans x2.1) c4 r4
end Pu
namespace Pu
open PySem PySem.W PySem.Calls
open PyProof.Rows hiding St Fr
section
variable {prog:Yx}{w:World}{A:Around}{E:1e7}{s:Shared}{d it v:Addr}{es:Array WN}{ep i:Nat}
theorem rawv_call {Q:1e7}(lo:(d==XB)=false)(hm:RawD s.heap d es ep)
  (q:Q 9e1 { s with heap:=s.heap.push { cls:=.type "dict_values",data:=.fields #[.ref d] } }):wpAny (model prog w) A (call (.builtin "dict.values") [.ref d]) Q E s:=by
 have T:=hm.ty
 have shows:XQ d=pure ():=by delta XQ;simp only[lo];rfl
 apply Xu PySem.F.slot_dict_values T PySem.F.entry_dict_values _ (PySem.F.args_dict_values_1 _)
 refine Yb ?_
 delta Builtin.Dict.noArgs
 refine Yb (W7 T (Yg ?_))
 refine Yb (m:=XQ d) ?_
 rw[shows]
 refine Yg (Yb (Xp (Yg ⟨_,rfl,q⟩)))
theorem rawv_iter {Q:1e7}(hv:s.heap.IsValuesView v d)(hm:RawD s.heap d es ep)
  (q:Q 9e1 { s with heap:=s.heap.push { cls:=.type "dict_valueiterator",data:=.fields #[.ref d,.int 0 0,.int es.size 0,.int ep 0] } }):wpAny (model prog w) A (pyIter (.ref v)) Q E s:=by
 obtain ⟨o1,a1,a2,a3⟩:=id hv
 obtain ⟨o2,b1,b2,b3⟩:=hm
 have one:Wm "dict_valueiterator"=false:=by decide
 have made:∀{P:1e7} {B:1e7} {A':Around},P 9e1 { s with heap:=s.heap.push { cls:=.type "dict_valueiterator",data:=.fields #[.ref d,.int 0 0,.int es.size 0,.int ep 0] } }->wpAny (model prog w) A' (W8 "dict_valueiterator" d) P B s:=fun z=>by
  delta W8
  apply Yb
  refine W2 b1 b3 ?_
  apply Yb
  refine Vl b1 b3 ?_
  simp only[one,YT,if_false]
  refine Xp ?_
  simpa[rawInt] using z
 have view:∀{P:Addr->Shared->Prop} {B:1e7} {A':Around},P d s->wpAny 6e1 A' (Builtin.Dict_items.dictOf (.ref v)) P B s:=fun z=>by
  delta Builtin.Dict_items.dictOf
  apply Yb
  exact V4 a1 a3 (x:=.ref d) rfl (Yg z)
 apply wpAny_pyIter_slot hv.typeIs F.slot_dict_values_iter
 apply Xu F.slot_dict_values_iter hv.typeIs F.entry_dict_values_iter _ (F.args_dict_values_iter_1 _)
 delta VW.«dict_values.__iter__»
 apply Yb
 apply Yg
 apply Yb
 apply view
 apply Yb
 apply made
 exact Yg ⟨_,rfl,"dict_valueiterator",_,⟨_,Yq _ rfl,rfl⟩,X0.lookup,q⟩
theorem rawv_next {Q:Option Value->Shared->Prop}(hh:A.handled=none)(hit:s.heap.IsValIter it d i es.size ep)(hm:RawD s.heap d es ep)
  (q1:∀e,es[i]? = some e->∀h',h'.IsValIter it d (i + 1) es.size ep->WC it s.heap h'->Q (some e.val) { s with heap:=h' })
  (q2:es[i]? = none->∀h',V8 it s.heap h'->Q none { s with heap:=h' }):wpAny (model prog w) A (pyNext (.ref it)) Q E s:=by
 obtain ⟨o1,a1,a2,a3⟩:=id hit
 obtain ⟨o2,b1,b2,b3⟩:=hm
 have one:Wm "dict_valueiterator"=false:=by decide
 have there:(Y7 d==Xw)=false:=rfl
 delta pyNext
 apply Yb
 apply wpAny_attempt
 apply X4 (name:=Vs "__next__") hit.typeIs X0
 apply Xu X0 hit.typeIs F.entry_dict_valueiterator_next _ (F.args_dict_valueiterator_next_1 _)
 repeat first
  | refine Wd hit.typeIs ?_
  | refine wpAny_fieldsOf a1 a3 ?_
  | refine W2 b1 b3 ?_
  | refine Vl b1 b3 ?_
  | simp only[one,there,bne_self_eq_false,YT,if_false]
  | apply Yb
  | apply Yg
 have up:¬(i:Int) < 0:=by lia
 simp only[up,if_false,XY]
 cases hx:es[i]? with
 | some e=>
  have on:(s.heap.update it (VG (·.setIfInBounds 1 (rawInt ((i:Int) + 1))))).IsValIter it d (i + 1) es.size ep:=⟨_,W4 _ a1 (Obj.isFreed_of_fields (WQ a3 _)),(Obj.cls_mapFields ..).trans a2,by rw[WQ a3];simp[rawInt]⟩
  have ty:({ s with heap:=s.heap.update it (VG (·.setIfInBounds 1 (rawInt ((i:Int) + 1)))) }:Shared).TypeIs (.ref it) "dict_valueiterator":=Heap.IsValIter.typeIs on
  dsimp only
  repeat first
   | refine Wd hit.typeIs ?_
   | refine wpAny_isOneOf_valiter hit.typeIs ?_
   | refine wpAny_isOneOf_valiter ty ?_
   | simp only[one,YT,if_false,V0]
   | refine Vw a1 a3 (by simp) ?_
   | apply Xb
   | apply Yb
   | apply Yg
  exact ⟨_,rfl,Yg (q1 e hx _ on (X7 ..))⟩
 | none=>
  have calm:A.in1.handled=none:=hh
  dsimp only
  repeat first
   | refine Wd hit.typeIs ?_
   | simp only[one,YT,if_false,V0]
   | refine Vw a1 a3 (by simp) ?_
   | refine wpAny_alloc' ?_
   | refine wpAny_raiseNew_none calm ?_
   | apply Yb
   | apply Yg
  refine wpAny_loadPart (Yq _ rfl) (Yg ?_)
  have stop:isSubtype (.type "StopIteration") (.type "StopIteration")=pure true:=isSubtype_stop
  dsimp only
  rw[stop]
  exact Yg (Yg (q2 hx _ (((X7 ..).extBut.push _).push _)))
theorem rawv_item {e:WN}{Q:Option Value->Shared->Prop}(hh:A.handled=none)(hit:s.heap.IsValIter it d i es.size ep)(hm:RawD s.heap d es ep)(hx:es[i]? = some e)
  (q:∀h',h'.IsValIter it d (i + 1) es.size ep->WC it s.heap h'->Q (some e.val) { s with heap:=h' }):wpAny (model prog w) A (pyNext (.ref it)) Q E s:=
 rawv_next hh hit hm (fun e' z=>by rw[hx] at z;cases z;exact q) fun z=>by rw[hx] at z;cases z
theorem rawv_end {Q:Option Value->Shared->Prop}(hh:A.handled=none)(hit:s.heap.IsValIter it d i es.size ep)(hm:RawD s.heap d es ep)(hx:es.size<=i)
  (q:∀h',V8 it s.heap h'->Q none { s with heap:=h' }):wpAny (model prog w) A (pyNext (.ref it)) Q E s:=
 rawv_next hh hit hm (fun e' z=>by rw[Xl hx] at z;cases z) fun _=>q
theorem rawv_walks (hh:A.handled=none)(I:Addr)(hne:d≠I):
  Walks prog w A I [I,d] [I] es.size (fun i v=>∃e,es[i]? = some e/\v=e.val) (fun i h=>h.IsValIter I d i es.size ep/\RawD h d es ep) where
 sub:=fun b hb=>by rw[Yw.mp hb];exact YS
 frame:=fun _ _ _ st hk=>⟨by obtain ⟨o,e,r⟩:=st.1;exact ⟨o,hk I (.head _) o e,r⟩,st.2.at (hk d (.tail _ (.head _)))⟩
 item:=fun i s Q E hi st hQ=>by
  have hx:es[i]? = some es[i]:=Y1 hi
  exact rawv_item hh st.1 st.2 hx fun h' k2 sb=>hQ _ h' s.toks ⟨_,hx,rfl⟩ ⟨k2,st.2.at fun o e=>sb.extBut d o hne e⟩ fun b o hb e=>sb.extBut b o (fun z=>hb (Yw.mpr z)) e
 done:=fun s Q E st hQ=>rawv_end hh st.1 st.2 (Yh _) fun h' x=>hQ h' s.toks fun b o hb e=>x b o (fun z=>hb (Yw.mpr z)) e
 self:=fun i s Q E st hQ=>wpAny_pyIter_valiter st.1 hQ
theorem rawv_src:KdlSrc prog w "dict_values" v d es.size (fun i v=>∃e,es[i]? = some e/\v=e.val) (fun h=>h.IsValuesView v d/\RawD h d es ep) where
 type:=fun _ hm=>hm.1.typeIs
 there:=fun _ hm=>⟨let ⟨_,ho,_⟩:=hm.1;Yp ho,hm.2.lt⟩
 keep:=fun _ _ hm hk=>⟨let ⟨o,ho,x⟩:=hm.1;⟨o,hk v (.inl rfl) o ho,x⟩,hm.2.at (hk d (.inr rfl))⟩
 notList:=by decide
 notTuple:=by decide
 hint:=fun _ _ _ _ hm hq=>kdl_hint_values hm.1.typeIs hq
 iter:=fun _ _ hh hm=>⟨_,_,fun _ _ hq=>rawv_iter hm.1 hm.2 hq,rawv_walks hh _ (Yn hm.2.lt),⟨_,Yq _ rfl,rfl,rfl⟩,hm.2.at fun o e=>Ya _ e⟩
end
end Pu
namespace Pu
open PySem PySem.Spec L2
open PyProof.Rows hiding St Fr
section
variable {X:Cx}{e o st:Expr}{fa fo fs:4e2}{p p2 pos apos cpos:Pos}
def revS (C:Cs)(x k:SV):Option 7e5:=match deref C x,k with
 | some (.lst xs),.v (.int i)=>if i=-1 then some xs.reverse else none
 | _,_=>none
def mRevS (fa fs:4e2):PSt->M 7e5:=fun ρ=>bnd (fa ρ) fun x=>bnd (fs ρ) fun k=>opM fun C=>revS C x k
theorem revS_some {C:Cs}{x k:SV}{z:List PV}(h:revS C x k=some z):∃xs,deref C x=some (.lst xs)/\k=.v (.int (-1))/\z=xs.reverse:=by
 unfold revS at h
 split at h
 ·split at h
  ·rename_i hi
   subst hi
   cases h;exact ⟨_,by assumption,rfl,rfl⟩
  ·cases h
 ·cases h
theorem Vals.rev:∀{vs:List V} {us:3e9},Vals vs us->Vals vs.reverse us.reverse
 | _,_,.nil=>.nil
 | _,_,.cons h t=>by rw[XX,XX];exact Vals.append (Vals.rev t) (.cons h .nil)
theorem items_vals {es:Array WN}{acc:Array Value}(h:ItemsOf (fun i v=>∃e,es[i]? = some e/\v=e.val) acc es.size):acc.toList=es.toList.map (·.val):=by
 apply YZ
 intro i
 rw[XA,YI,XA]
 by_cases hi:i < acc.size
 ·obtain ⟨e,e1,e2⟩:=h.2 i _ (Y1 hi)
  rw[Y1 hi,e2,e1];rfl
 ·have:=h.1
  rw[Xl 1e3,Xl 1e3];rfl
theorem kt_vals {H:Hp}{kvs:7e9}{xs:List 7e2}(r:KT H kvs xs):Vals (kvs.map (·.2)) (xs.map fun x=>x.2.2):=by
 induction r with
 | nil=>exact .nil
 | cons a t ih=>exact .cons a.2.2 ih
theorem entry_vals {prog:Yx}{w:World}(xs:List 7e2):(xs.map (entryOfKey (WI (mixKind prog w)))).map (·.val)=xs.map fun x=>x.2.2:=by rw[Y2];rfl
def valsH (C:Cs)(x:SV):Option 7e5:=match deref C x with
 | some (.dtt _ ps)=>if ps.length<=1000 then some ps else none
 | _=>none
def mListVals (fo:4e2):PSt->M 7e5:=fun ρ=>bnd (fo ρ) fun x=>opM fun C=>valsH C x
end
section
variable {X:Cx}{a b e o:Expr}{es:6e4}{fa fb fo:4e2}{fs:2e9}{pos apos cpos:Pos}
theorem count_eqH {h:Heap}{q:PV}:∀{ps:List PV} {us:3e9},HReps h ps us->us.countP (eqH h q)=ps.countP fun p=>eqD p q
 | [],us,a=>by unfold HReps at a;subst a;rfl
 | p::ps,us,a=>by
  unfold HReps at a;obtain ⟨v,r,rfl,a1,a2⟩:=a
  rw[List.countP_cons,List.countP_cons,eqH_of a1,count_eqH a2]
def countH:PV->List PV->Option PV
 | .lst ps,[x]=>if dats ps&&dat x&&decide (deps ps<=50) then some (.int ((ps.countP fun p=>eqD p x:Nat):Int)) else none
 | _,_=>none
def rCount (K:W.Frag):V->List V->Hp->VK->Prop:=fun x vs H Q=>∃ι q ps p ys y,x=.ref p/\vs=[y]/\Lies K ι H q y/\dat q=true/\SqL K H p ys/\Reps K ι H ps ys/\dats ps=true/\deps ps<=50/\Q (.int ((ps.countP fun p=>eqD p q:Nat):Int)) H
theorem mt_count (hu:6e7):MtR X "list.count" (rCount X.K):=by
 intro pins s σ H x vs v us Q I rx rv h
 obtain ⟨ι,q,ps,p,ys,y,rfl,rfl,ly,dq,hq,rs,ds,de,k⟩:=h
 cases rx
 obtain ⟨u,rfl,ru⟩:=rv.one
 have hx:=ly.heap I ru dq
 obtain ⟨its,r,pl,hz⟩:=I.list hq
 obtain ⟨⟨cls,dd,data,sl⟩,ho,hc,n,hd⟩:=id pl.isList
 simp only at hc hd
 subst hc hd
 have hr:=Reps.heap I ps rs r ds
 refine Ve PySem.F.slot_list_count ⟨_,ho,rfl⟩ PySem.F.entry_list_count (PySem.F.args_list_count_2 _ _) (SeqAt.list_countAt p its.toArray n dd sl u (eqH s.heap q)) ⟨ho,fun w hw=>Zcp hx hr (by rw[YD];lia) w (by simpa using hw),?_⟩
 rw[show its.toArray.toList=its by simp,count_eqH hr]
 exact ⟨.int _,H,I.tok _,8e4,k⟩
theorem countL_ok:Mtok X.K (rCount X.K) countH:=by
 intro ι H C q v ps vs z Q cr lq ls e k
 cases ls with
 | nil=>cases q<;>cases e
 | @cons p0 v0 ps0 vs0 l t=>
  cases q with
  | lst xs=>
   cases t with
   | nil=>
    replace e:(if dats xs&&dat p0&&decide (deps xs<=50) then some (PV.int ((xs.countP fun p=>eqD p p0:Nat):Int)) else none)=some z:=e
    split at e
    ·rename_i h
     cases e
     simp only[Yt,decide_eq_true_eq] at h
     cases lq with
     | lst hs rs=>exact ⟨ι,p0,_,_,_,_,rfl,rfl,l,h.1.2,hs,rs,h.1.1,h.2,k _ H .refl cr repI⟩
    ·cases e
   | cons l2 t=>cases e
  | _=>cases e
noncomputable def mulLP (x y:PV):Option PV:=match x,y with
 | .lst xs,.int n=>if xs.length<=1000/\0<=n/\n<=1000 then some (.lst (YR n.toNat xs).flatten) else none
 | _,_=>none
def rMulL (K:W.Frag):R2:=fun x y H Q=>∃p vs n,x=.ref p/\y=.int n/\SqL K H p vs/\vs.length<=1000/\0<=n/\n<=1000/\∀l,H l=none->Q (.ref l) (upd H l (.lst (YR n.toNat vs).flatten))
theorem fold_app {α:Type}:∀(n:Nat) (its:List α) (acc:Array α),List.foldl (fun x1 x2=>x1++x2) acc (YR n its.toArray)=acc++(YR n its).flatten.toArray
 | 0,its,acc=>by simp
 | n + 1,its,acc=>by
  rw[XJ,List.foldl_cons,fold_app n its,XJ,Wt]
  simp
theorem vals_rep {vs:List V}{us:3e9}(h:Vals vs us):∀(n:Nat),Vals (YR n vs).flatten (YR n us).flatten
 | 0=>.nil
 | n + 1=>by rw[XJ,Wt,XJ,Wt];exact Vals.append h (vals_rep h n)
theorem reps_rep {K:W.Frag}{ι:3e8}{H:Hp}{ps:List PV}{vs:List V}(h:Reps K ι H ps vs):∀(n:Nat),Reps K ι H (YR n ps).flatten (YR n vs).flatten
 | 0=>.nil
 | n + 1=>by rw[XJ,Wt,XJ,Wt];exact h.append (reps_rep h n)
theorem op_mulL:OpR X (Wi .Mult) (rMulL X.K):=by
 sleep 4
 obtain ⟨p,vs,n,rfl,rfl,hq,hl,h0,h1,q⟩:=h
 cases rx
 obtain ⟨t,rfl⟩:=(show ∃t,u=.int n t from ry)
 obtain ⟨its,r,pl,hz⟩:=I.list hq
 have hlen:=r.length
 obtain ⟨⟨cls,dd,data,sl⟩,ho,hc,k,hd⟩:=id pl.isList
 simp only at hc hd
 subst hc hd
 have hm:its.length * n.toNat<=1000 * 1000:=Nat.mul_le_mul 1e3 1e3
 refine wpAny_binaryOp_repeat_ref (T:="list") (U:="int") 1e4 ⟨_,ho,rfl⟩ (fun s'=>typeIs_int s' n t) noFill_list_mul F.fills_int_mul F.slot_int_rmul repeat_list F.slot_int_index.lookup
  (Ve F.slot_int_rmul (typeIs_int s n t) F.entry_int_rmul (F.args_int_rmul_2 _ _) (lm_int_rmul_list_any n t p its.toArray k dd sl)
   ⟨ho,rfl,⟨_,ho,rfl⟩,Ve F.slot_list_mul ⟨_,ho,rfl⟩ F.entry_list_mul (F.args_list_mul_2 _ _)
    (lm_list_mul_any p its.toArray k dd sl n t (by simp[Builtin.List.listFitsIndex];lia) (by simp only[Yf];lia) (by simp only[Yf,Builtin.List.listTooLong,Yo];simp;lia)) ⟨ho,?_⟩⟩)
 have en:(if its.toArray.isEmpty=true then 0 else n.toNat)=n.toNat\/its=[]:=by
  cases its with
  | nil=>exact .inr rfl
  | cons z zs=>exact .inl (if_neg 5e2)
 have ef:List.foldl (fun x1 x2=>x1++x2) #[] (YR (if its.toArray.isEmpty=true then 0 else n.toNat) its.toArray)=(YR n.toNat its).flatten.toArray:=by
  rcases en with en | rfl
  ·rw[en,fold_app];simp
  ·simp
 rw[ef]
 have hfl:(YR n.toNat vs).flatten.length<=sizeLine:=by
  rw[List.length_flatten]
  simp only[List.map_replicate,List.sum_replicate_nat]
  rw[YE]
  have:n.toNat * vs.length<=1000 * 1000:=Nat.mul_le_mul 1e3 hl
  lia
 exact ⟨.ref _,_,I.laid (t':=s.toks) (o:=.lst (YR n.toNat vs).flatten) (fun b ob q=>Ya _ q) (Yh _) ⟨hfl,_,0,vals_rep r _,Yq _ rfl⟩,rfl,q _ (I.hok.fresh (Yh _))⟩
theorem mulL_ok:L2ok X.K (rMulL X.K) mulLP:=by
 sleep 9
 unfold mulLP at e
 split at e
 ·split at e
  ·rename_i xs n hc
   cases e
   cases ly
   obtain ⟨a,vs,rfl,h1,rv⟩:=liesL lx
   exact ⟨a,vs,_,rfl,rfl,h1,by rw[←rv.length];exact hc.1,hc.2.1,hc.2.2,fun l hl=>k _ _ (Fr.new hl) (cr.new hl) (Zco cr hl (reps_rep rv _))⟩
  ·cases e
 ·cases e
end
end Pu
namespace Hd
open PySem PySem.W PySem.Spec PySem.Calls L2 Pu
open PyProof.Rows hiding St Fr
noncomputable def kf (h:Heap)(as:3e8):Frag:=as.filterMap fun a=>(h.get? a).map fun o=>(a,o)
theorem kf_get {h:Heap}:∀{as:3e8} {a:Addr} {o:Obj},(kf h as).lookup a=some o->h.get? a=some o
 | [],_,_,e=>by cases e
 | b::as,a,o,e=>by
  unfold kf at e
  rw[X2] at e
  cases g:h.get? b with
  | none=>rw[g] at e;exact kf_get e
  | some p=>
   rw[g] at e
   simp only[Vi,YO] at e
   by_cases q:a=b
   ·subst q;rw[beq_self_eq_true] at e;cases e;exact g
   ·rw[beq_eq_false_iff_ne.mpr q] at e;exact kf_get e
theorem kf_in (h:Heap)(as:3e8):(kf h as).In h:=fun _ _ e=>kf_get e
theorem kf_at {h:Heap}{a:Addr}{o:Obj}(g:h.get? a=some o):∀{as:3e8},a∈as->(kf h as).lookup a=some o
 | [],m=>by cases m
 | b::as,m=>by
  unfold kf
  rw[X2]
  by_cases q:a=b
  ·subst q;rw[g];simp
  ·have m':a∈as:=(Ys.mp m).resolve_left q
   cases g':h.get? b with
   | none=>exact kf_at g m'
   | some p=>
    simp only[Vi,YO]
    rw[beq_eq_false_iff_ne.mpr q]
    exact kf_at g m'
def At (mg:3e0)(h:Heap)(as:3e8)(d:DefRec):Prop:=∃(a c:Addr) (o:Obj) (pm doc:Value),mg d.name=some (.ref a)/\h.get? a=some o/\o.data=.func (docDef d.name d.params d.body d.scope pm (.ref c) doc)/\h.CodeRec (.ref c) d.name/\a∈as/\c∈as
theorem at_all {mg:3e0}{h:Heap}(as0:3e8):∀ds:List DefRec,(∀d∈ds,∃a o pm code doc,mg d.name=some (.ref a)/\h.get? a=some o/\o.data=.func (docDef d.name d.params d.body d.scope pm code doc)/\h.CodeRec code d.name)->
  ∃as:List Addr,(∀a∈as0,a∈as)/\∀d∈ds,At mg h as d
 | [],_=>⟨as0,fun _ m=>m,fun _ m=>nomatch m⟩
 | d::ds,T=>by
  obtain ⟨as,h0,ih⟩:=at_all as0 ds fun e m=>T e (.tail _ m)
  obtain ⟨a,o,pm,cd,doc,h1,h2,h3,h4⟩:=T d (.head _)
  obtain ⟨c,oc,vs,t,rfl,r⟩:=h4
  refine ⟨a::c::as,fun b m=>.tail _ (.tail _ (h0 b m)),fun e m=>?_⟩
  rcases Ys.mp m with rfl | m
  ·exact ⟨a,c,o,pm,doc,h1,h2,h3,⟨c,oc,vs,t,rfl,r⟩,.head _,.tail _ (.head _)⟩
  ·obtain ⟨a',c',o',pm',doc',q1,q2,q3,q4,q5,q6⟩:=ih e m
   exact ⟨a',c',o',pm',doc',q1,q2,q3,q4,.tail _ (.tail _ q5),.tail _ (.tail _ q6)⟩
def FnAt (K:Frag)(mg:3e0)(x:Str)(st:Stmt):Prop:=∃f fd,mg x=some (.ref f)/\Fun K x x st f fd
noncomputable def four (d:DefRec):Str×Arguments×List Stmt×Scope:=(d.name,d.params,d.body,d.scope)
def fourS (p:Str×Stmt):Str×Arguments×List Stmt×Scope:=(p.1,defArgs p.2,defBody p.2,defScope p.2)
theorem fn_at {mg:3e0}{h:Heap}{as:3e8}{ds:List DefRec}{sts:List (Str×Stmt)}(A:∀d∈ds,At mg h as d)(es:ds.map four=sts.map fourS)(i:Nat){x:Str}{st:Stmt}(e:sts[i]? = some (x,st)):FnAt (kf h as) mg x st:=by
 have q:(ds.map four)[i]? = some (fourS (x,st)):=by rw[es,YI,e];rfl
 obtain ⟨d,e',q⟩:=Option.map_eq_some_iff.mp ((YI ..).symm.trans q)
 obtain ⟨n,ps,b,sc,p⟩:=d
 obtain ⟨rfl,q⟩:=Prod.mk.inj q
 obtain ⟨q1,q⟩:=Prod.mk.inj q
 obtain ⟨q2,q3⟩:=Prod.mk.inj q
 dsimp only at q1 q2 q3
 subst q1 q2 q3
 obtain ⟨a,c,o,pm,doc,h1,h2,h3,h4,h5,h6⟩:=A _ (YH e')
 obtain ⟨c',oc,vs,t,e1,g,hd,hv⟩:=h4
 cases e1
 obtain ⟨cl,dd,dt,sl⟩:=o
 cases (show dt=_ from h3)
 have k1:=kf_at h2 h5
 have k2:=kf_at g h6
 refine ⟨a,_,h1,fun_mk (oc:=cl) (od:=dd) (osl:=sl) (kV:=.none) (doc:=doc) (pm:=pm) (an:=none) (ct:=.none) (cdv:=.ref c) k1 ?_ ?_⟩
 ·obtain ⟨ocl,odd,odt,osl⟩:=oc
  cases (show odt=_ from hd)
  unfold codeIn
  dsimp only
  rw[k2]
  obtain ⟨l⟩:=vs
  match l,hv with
  | _::v::r,hv=>
   cases (show v=_ by simpa using hv)
   simp
 ·unfold keepIn
  dsimp only
  rw[k1]
noncomputable def defPos (s:Stmt):Pos:=match s with
 | .FunctionDef _ _ _ _ _ _ _ _ _ p=>p
 | _=>⟨0,0,0,0⟩
noncomputable def isHere (p:Yx)(loose:6e2)(x:Str):Bool:=startupNames.contains x||loose.contains x||((recsOf p).map (·.name)).contains x||((litsOf p).map (·.1)).contains x||((clssOf p loose).map (·.name)).contains x
theorem nones {p:Yx}{loose:6e2}{mean:ExcName->Option Value}{mg mb:3e0}{h:Heap}(T:Top p loose mean mg mb h){xs:6e2}(e:xs.all (fun x=>!isHere p loose x)=true)(i:Nat){x:Str}(hx:xs[i]? = some x):mg x=none:=by
 have q:=YM.mp e x (YH hx)
 unfold isHere at q
 simp only[Bool.not_or,Yt,Bool.not_eq_true',List.contains_eq_mem,decide_eq_false_iff_not] at q
 exact T.free x q.1.1.1.1 q.1.1.1.2 q.1.1.2 q.1.2 q.2
noncomputable def spLaw (K:Frag):Sp:=fun vs H Q _=>∃(a:Addr) (ns:List Int),vs=[.ref a]/\SqL K H a (ns.map V.int)/\ns.length<=63/\∀H',Q (.bl true) H'
theorem reps_ints {K:Frag}{ι:3e8}{H:Hp}:∀ns:List Int,Reps K ι H (ns.map PV.int) (ns.map V.int)
 | []=>by unfold Reps;rfl
 | n::ns=>by
  rw[Yu,Yu];unfold Reps
  exact ⟨_,_,rfl,by unfold Rep;rfl,reps_ints ns⟩
theorem spLaw_lift {K:Frag}{F:List SV->M SV}(hF:∀ns:List Int,ns.length<=63->F [.v 12e5] []=some (.v (.bl true),[]))(vs:List V)(H:Hp)(Q:VK)(E:XK)(h:spLaw K vs H Q E):liftSp K F vs H Q E:=by
 obtain ⟨a,ns,rfl,hS,hl,hQ⟩:=h
 refine ⟨[],[.v 12e5],[],.v (.bl true),[],⟨rfl,List.nodup_nil,fun k a c e=>by cases e⟩,?_,hF ns hl,fun v H' _ _ r=>?_⟩
 ·unfold RepSs
  refine ⟨_,_,rfl,?_,by unfold RepSs;rfl⟩
  unfold RepS Rep
  refine ⟨a,_,rfl,?_,reps_ints ns⟩
  rcases hS with h | h
  ·exact .inl ⟨Xn,h⟩
  ·exact .inr h
 ·have e:v=.bl true:=by unfold RepS Rep at r;exact r
  subst e;exact hQ H'
theorem walk {l:OpenLaw}{k:Nat}{q:Yx}{loose:6e2}{XP:(Str->Option Value)->Heap->Prop}{YP:World->Heap->Prop}{d:DefRec}(hn:l.most=some 63)(hdf:d.params.defaults=[])(hr:Room k Uc)(as0:3e8)
  (F:∀(w:World) (s₀:Shared) (mg mb:3e0) (h:Heap) (as:3e8),Ground q loose [] XP w s₀ mg mb h->YP w h->(∀a∈as0,a∈as)->(∀d∈recsOf q,At mg h as d)->∀fa:Addr,mg d.name=some (.ref fa)->
   ∃fd:XM,(∀(s:Shared) (u:Value),BindsTo s fd ⟨[u],[]⟩ [("_law_script",u)])/\∀base:Heap,FnOk l.prog w (kf h as) mg base CX0 k fa fd ["_law_script"] (spLaw (kf h as))):
  WalkO q loose XP YP l.row.toRowW d [] (fun f vs=>PySem.call f vs):=by
 refine Att.attach_call hn hdf fun w s₀ s₁ mg mb fa o pm cd doc a vs ns G Y ho hd hcd hmg hobj hints hlen hg=>?_
 obtain ⟨as,h0,A⟩:=at_all as0 (recsOf q) G.T.fn
 obtain ⟨fd,hb,hF⟩:=F w s₀ mg mb _ as G Y h0 A fa hmg
 exact law_call (kf_in s₁.heap as) G.T.g G.T.b G.T.builtins G.T.nolimit hg hobj hints (Yz hlen 1e4) hr (fun base _ _=>hF base) hb (fun H hO hS=>⟨a,ns,rfl,hS,hlen,fun _=>rfl⟩) fun H e s' z=>z
end Hd
namespace L2
open PySem PySem.Spec PyProof.Rows
abbrev GT:=TI×TG×TT
end L2
namespace Pu
open PySem PySem.Spec PySem.W PySem.Calls L2
open PyProof.Rows hiding St Fr
def Cal (P:Yx)(w:World)(K:W.Frag)(mg:3e0)(base:Heap)(k:Nat)(x:Str)(ps:6e2)(S:Sp):Prop:=∃(f:Addr) (fd:XM),FnOk P w K mg base CX0 k f fd ps S/\mg x=some (.ref f)/\VB K (.ref f)=true/\Binds K fd ps []
end Pu
namespace Pu
open PySem PySem.Spec PySem.W PySem.Calls L2
open PyProof.Rows hiding St Fr
abbrev MG:=(PSt->M 7e5)×(PV->PSt->Option PSt)×(PSt->M Bool)
end Pu
namespace Pu
open PySem PySem.Spec L2
open PyProof.Rows hiding St Fr
@[irreducible] def QEM (X:Cx) (e:Expr) (f:4e2):Prop:=EM X e f
theorem QEM_eq:@QEM=@EM:=by unfold QEM;rfl
@[irreducible] def QAM (X:Cx) (es:6e4) (f:2e9):Prop:=AM X es f
theorem QAM_eq:@QAM=@AM:=by unfold QAM;rfl
@[irreducible] def QTMt (X:Cx) (e:Expr) (f:7e1):Prop:=TMt X e f
theorem QTMt_eq:@QTMt=@TMt:=by unfold QTMt;rfl
@[irreducible] def QWM (X:Cx) (e:Expr) (f:7e1):Prop:=WM X e f
theorem QWM_eq:@QWM=@WM:=by unfold QWM;rfl
@[irreducible] def QFM (X:Cx) (e:Expr) (f:13e7):Prop:=FM X e f
theorem QFM_eq:@QFM=@FM:=by unfold QFM;rfl
@[irreducible] def QSM (X:Cx) (st:Stmt) (f:10e9):Prop:=SM X st f
theorem QSM_eq:@QSM=@SM:=by unfold QSM;rfl
@[irreducible] def QBM (X:Cx) (sts:List Stmt) (f:10e9):Prop:=BM X sts f
theorem QBM_eq:@QBM=@BM:=by unfold QBM;rfl
@[irreducible] def QGM (X:Cx) (tg:Expr) (g:5e8):Prop:=GM X tg g
theorem QGM_eq:@QGM=@GM:=by unfold QGM;rfl
@[irreducible] def QGMs (X:Cx) (ts:6e4) (g:List PV->PSt->Option PSt):Prop:=GMs X ts g
theorem QGMs_eq:@QGMs=@GMs:=by unfold QGMs;rfl
@[irreducible] def QIM (X:Cx) (tg iter:Expr) (f:13e7):Prop:=IM X tg iter f
theorem QIM_eq:@QIM=@IM:=by unfold QIM;rfl
@[irreducible] def QTsM (X:Cx) (ifs:6e4) (t:7e1):Prop:=TsM X ifs t
theorem QTsM_eq:@QTsM=@TsM:=by unfold QTsM;rfl
@[irreducible] def QOM (X:Cx) (e:Option Expr) (f:PSt->M (Option Int)):Prop:=OM X e f
theorem QOM_eq:@QOM=@OM:=by unfold QOM;rfl
@[irreducible] def QDM (X:Cx) (ks:List (Option Expr)) (es:6e4) (keys:6e2) (f:2e9):Prop:=DM X ks es keys f
theorem QDM_eq:@QDM=@DM:=by unfold QDM;rfl
end Pu
local macro_rules
 | `(tactic| subst_eqs)=>`(tactic| simp only[Pu.QEM_eq,Pu.QAM_eq,Pu.QTMt_eq,Pu.QWM_eq,Pu.QFM_eq,Pu.QSM_eq,Pu.QBM_eq,Pu.QGM_eq,Pu.QGMs_eq,Pu.QIM_eq,Pu.QTsM_eq,Pu.QOM_eq,Pu.QDM_eq] at *)
namespace Pu
open PySem PySem.Spec L2
open PyProof.Rows hiding St
theorem Zb5 {X:Cx}{e:Expr}{f:7e1}(h:QWM X e f):QTMt X e f:=by
 subst_eqs
 exact h _
section
variable {X:Cx}{a b e c:Expr}{es:6e4}{fa fb fc:4e2}{pos p:Pos}{x:Str}
theorem Zab (i:Nat){x:Str}{pos:Pos}(hN:X.N[i]? = some x:=by rfl)(hv:Vis X.env.scope x:=by first | exact Or.inl rfl | exact Or.inr 2e3 | exact Or.inr (Or.inr rfl))(hd:5e6:=by decide)
  (hcd:(x==("__classdict__":Str))=false:=by decide):QEM X (.Name x pos) (mVar i):=by
 subst_eqs
 refine PE.imp (pe_var hN hv hd hcd) fun σ H Q h_=>?_
 obtain ⟨ι,ρ,C,r,C',sr,e,q⟩:=h_
 unfold mVar at e
 cases e1:ρ[i]? with
 | none=>rw[e1] at e;cases e
 | some o=>
  cases o with
  | none=>rw[e1] at e;cases e
  | some s=>
   rw[e1] at e;cases e
   obtain ⟨v,h1,h2⟩:=sr.loc i _ e1
   exact ⟨v,h1,q v H .refl sr.cr h2⟩
theorem Zac {i j pos}:QEM X (.Constant (.int i) j pos) (mC (.int i)):=by
 subst_eqs
 exact ZcE pe_int fun ι H=>by unfold Rep;rfl
theorem ZbC {i j pos}:QEM X (.Constant (.bool i) j pos) (mC (.bl i)):=by
 subst_eqs
 exact ZcE pe_bl fun ι H=>by unfold Rep;rfl
theorem ZaB {i j pos}(h:i.length<=sizeLine:=by decide +kernel):QEM X (.Constant (.str i) j pos) (mC (.str i)):=by
 subst_eqs
 exact ZcE pe_str fun ι H=>by unfold Rep;exact ⟨rfl,h⟩
theorem q_em_ty {n:String}(hg:Gl X x)(hm:X.mg x=none)(hv:Y8 x=some (.type n))(hn:x≠"__name__":=by decide)(hd:5e6:=by decide):QEM X (.Name x pos) (mC (.ty n)):=by
 subst_eqs
 exact ZcE (pe_bltn (v:=.ty n) hg hm hv rfl hn hd) fun ι H=>by unfold Rep;rfl
theorem Zbk {op:CmpOp}{r:R2}{g:Cs->SV->SV->Option SV}(ho:OpR X (Xz op) r)(hg:R2ok X.K r g)(ha:QEM X a fa)(hb:QEM X b fb)(hm:WJ op b=false):QEM X (.Compare a [op] [b] pos) (mOp g fa fb):=by
 subst_eqs
 exact PE.imp (pe_cmpR ho ha hb hm) fun _ _ _ h=>tM_op hg h
theorem Zam {op:CmpOp}{r:R2}{g:Cs->SV->SV->Option SV}(ho:OpR X (Xz op) r)(hg:R2ok X.K r g)(ha:QEM X a fa)(hb:QEM X b fb)(hm:WJ op b=false):QTMt X (.Compare a [op] [b] pos) (mTest (mOp g fa fb)):=by
 subst_eqs
 exact PT.imp (pt_cmpR ho ha hb hm) fun σ H Q h=>by
    obtain ⟨ι,ρ,C,x,C',sr,e,q⟩:=tM_test h
    exact tM_op hg ⟨ι,ρ,C,x,C',sr,e,q⟩
theorem q_tm_tru (ha:QEM X a fa)(he:∀whole,isTrue a X.env whole=(do let v ←whole;standAt a.pos;VP [v] (truthy v)):=by intro _;rfl):QTMt X a (mTru fa):=by
 subst_eqs
 exact PT.imp (pt_truth ha he) fun σ H Q h=>by
    sleep 3
    obtain ⟨e2,rfl⟩:=ZaK e
    refine ⟨ι,ρ,C,x,C',sr,e1,fun v H1 f1 c1 r1=>⟨z,?_,q H1 f1 c1⟩⟩
    cases hd:deref C' x with
    | none=>rw[hd] at e2;cases e2
    | some p=>rw[hd] at e2;exact (r1.lies c1 hd).tru e2
theorem q_tm_not {f:7e1}(h:QTMt X a f):QTMt X (.UnaryOp .Not a pos) (mNotT f):=by
 subst_eqs
 exact PT.imp (pt_not h) fun σ H Q h=>by
   sleep 3
   cases e
   exact ⟨ι,ρ,C,x,_,sr,e1,fun H1 f1 c1=>q H1 f1 c1⟩
theorem Zbe {f:7e1}(h:QTMt X a f):QWM X (.BoolOp .And [a] pos) f:=by
 subst_eqs
 exact pw_and1 h
theorem q_wm_or1 {f:7e1}(h:QTMt X a f):QWM X (.BoolOp .Or [a] pos) f:=by
 subst_eqs
 exact pw_or1 h
theorem Zbu {rest:6e4}{f g:7e1}(h:QTMt X a f)(k:QWM X (.BoolOp .And (b::rest) pos) g):QWM X (.BoolOp .And (a::b::rest) pos) (mAndT f g):=by
 subst_eqs
 exact PW.imp (pw_and h k) fun σ H Q h=>by
   sleep 3
   refine ⟨ι,ρ,C,x,C1,sr,e1,fun H1 f1 c1=>?_⟩
   cases x with
   | true=>rw[if_pos rfl] at e ⊢;exact ⟨ι,ρ,C1,z,C',sr.step f1 c1,e,fun H2 f2 c2=>q H2 (f1.trans f2) c2⟩
   | false=>rw[if_neg Yl] at e ⊢;cases e;exact q H1 f1 c1
theorem q_wm_or {rest:6e4}{f g:7e1}(h:QTMt X a f)(k:QWM X (.BoolOp .Or (b::rest) pos) g):QWM X (.BoolOp .Or (a::b::rest) pos) (mOrT f g):=by
 subst_eqs
 exact PW.imp (pw_or h k) fun σ H Q h=>by
   sleep 3
   refine ⟨ι,ρ,C,x,C1,sr,e1,fun H1 f1 c1=>?_⟩
   cases x with
   | true=>rw[if_pos rfl] at e ⊢;cases e;exact q H1 f1 c1
   | false=>rw[if_neg Yl] at e ⊢;exact ⟨ι,ρ,C1,z,C',sr.step f1 c1,e,fun H2 f2 c2=>q H2 (f1.trans f2) c2⟩
theorem q_em_one {op}{f:4e2}(h:QEM X a f):QEM X (.BoolOp op [a] pos) f:=by
 subst_eqs
 exact pe_one h
theorem q_em_or {rest:6e4}{f g:4e2}(h:QEM X a f)(k:QEM X (.BoolOp .Or (b::rest) pos) g):QEM X (.BoolOp .Or (a::b::rest) pos) (mOrV f g):=by
 subst_eqs
 exact PE.imp (pe_or h k) fun σ H Q h=>by
   sleep 3
   obtain ⟨k,C2,e2,e3⟩:=Zah e
   obtain ⟨hx,hC⟩:=mB_some e2
   subst hx hC
   clear e e2
   have e:=e3
   refine ⟨ι,ρ,C,_,C2,sr,e1,fun v H1 f1 c1 r1=>⟨k,repB r1,?_⟩⟩
   cases k with
   | false=>rw[if_neg Yl] at e ⊢;exact ⟨ι,ρ,C2,z,C',sr.step f1 c1,e,fun v' H2 f2 c2 r2=>q v' H2 (f1.trans f2) c2 r2⟩
   | true=>rw[if_pos rfl] at e ⊢;cases e;exact q _ H1 f1 c1 repB'
theorem q_em_if {t:7e1}{f g:4e2}(hc:QTMt X c t)(h:QEM X a f)(k:QEM X b g):QEM X (.IfExp c a b pos) (mIf t f g):=by
 subst_eqs
 exact PE.imp (pe_ifExp hc h k) fun σ H Q h=>by
   sleep 3
   refine ⟨ι,ρ,C,x,C1,sr,e1,fun H1 f1 c1=>?_⟩
   cases x with
   | true=>rw[if_pos rfl] at e ⊢;exact ⟨ι,ρ,C1,z,C',sr.step f1 c1,e,fun v H2 f2 c2 r2=>q v H2 (f1.trans f2) c2 r2⟩
   | false=>rw[if_neg Yl] at e ⊢;exact ⟨ι,ρ,C1,z,C',sr.step f1 c1,e,fun v H2 f2 c2 r2=>q v H2 (f1.trans f2) c2 r2⟩
theorem Zad:QAM X [] aNil:=by
 subst_eqs
 exact PA.imp pa_nil fun σ H Q h_=>by obtain ⟨ι,ρ,C,z,C',sr,e,q⟩:=h_;cases e;exact q [] H .refl sr.cr rfl
theorem Zaa {f:4e2}{g:2e9}(h:QEM X e f)(k:QAM X es g)(hs:1e5:=by rfl):QAM X 6e5 (aCons f g):=by
 subst_eqs
 exact PA.imp (pa_cons h k hs) fun σ H Q h=>by
   sleep 3
   obtain ⟨xs,C2,e2,e⟩:=Zah e
   cases e
   exact ⟨ι,ρ,C,x,C1,sr,e1,fun v H1 f1 c1 r1=>⟨ι,ρ,C1,xs,C',sr.step f1 c1,e2,fun vs H2 f2 c2 r2=>q (v::vs) H2 (f1.trans f2) c2 ⟨v,vs,rfl,r1.mono c1 f2,r2⟩⟩⟩
end
section
variable {X:Cx}{a b e c tg:Expr}{es:6e4}{st:Stmt}{rest sts sts':List Stmt}{f g:10e9}{pos p pos':Pos}{x:Str}
theorem Zax:QBM X [] mSkip:=by
 subst_eqs
 exact PSs.imp pss_nil fun D σ H h_=>by obtain ⟨ι,ρ,C,fl,C',sr,e,d⟩:=h_;cases e;exact d.nx0 sr
theorem Zai (h:QSM X st f):QBM X [st] f:=by
 subst_eqs
 exact pss_one h
theorem Zae (h:QSM X st f)(k:QBM X rest g):QBM X (st::rest) (mSeq f g):=by
 subst_eqs
 exact PSs.imp (pss_cons h k) fun D σ H h_=>by
   sleep 1
   obtain ⟨fl1,C1,e1,e⟩:=Zah e
   refine ⟨ι,ρ,C,fl1,C1,sr,e1,?_⟩
   cases fl1 with
   | nx ρ1=>exact fun ι2 σ' H' x sr'=>⟨ι++ι2,ρ1,C1,fl,C',sr',e,d.tr sr'.cr x⟩
   | rt r=>cases e;exact d
   | bk ρ1=>cases e;exact d
   | ct ρ1=>cases e;exact d
   | rf ps=>cases e;exact d
   | rq ps=>cases e;exact d
theorem ZaC {t:7e1}(hc:QTMt X c t)(h:QBM X sts f)(k:QBM X sts' g):QSM X (.If c sts sts' pos) (mIfS t f g):=by
 subst_eqs
 exact PS.imp (ps_if hc h k) fun D σ H h_=>by
   sleep 1
   obtain ⟨z,C1,e1,e⟩:=Zah e
   refine ⟨ι,ρ,C,z,C1,sr,e1,fun H1 f1 c1=>?_⟩
   cases z with
   | true=>rw[if_pos rfl] at e ⊢;exact ⟨ι,ρ,C1,fl,C',sr.step f1 c1,e,d.fr c1 f1⟩
   | false=>rw[if_neg Yl] at e ⊢;exact ⟨ι,ρ,C1,fl,C',sr.step f1 c1,e,d.fr c1 f1⟩
theorem Zar {f:4e2}(h:QEM X e f):QSM X (.Return (some e) pos) (mRet f):=by
 subst_eqs
 exact PS.imp (ps_ret h) fun D σ H h_=>by
   sleep 1
   obtain ⟨z,C1,e1,e⟩:=Zah e
   cases e
   exact ⟨ι,ρ,C,z,_,sr,e1,fun v H1 f1 c1 r1=>d [] v H1 (Ex.fr f1) (by rw[YF];exact c1) (by rw[YF];exact r1)⟩
theorem Zbf {f:13e7}(h:QFM X e f):QSM X (.Return (some e) pos) (mRetF f):=by
 subst_eqs
 exact PS.imp (ps_ret h) fun D σ H h_=>by
   sleep 1
   obtain ⟨ps,C1,e1,g1⟩:=Zah e
   cases g1
   exact ⟨ι,ρ,C,ps,_,sr,e1,fun q vs H1 f1 c1 hq rs=>d [] q vs H1 (Ex.fr f1) (by rw[YF];exact c1) hq (by rw[YF];exact rs)⟩
theorem q_sm_retQ {x1}{pt:Pos}{fs:2e9}(h:QAM X es fs):QSM X (.Return (some (.Tuple es x1 pt)) pos) (mRetQ fs):=by
 subst_eqs
 exact PS.imp (ps_ret (pe_tup h)) fun D σ H h_=>by
   sleep 1
   obtain ⟨xs,C1,e1,g1⟩:=Zah e
   by_cases hl:xs.length<=1000
   case neg=>rw[if_neg hl] at g1;cases g1
   rw[if_pos hl] at g1
   cases g1
   exact ⟨ι,ρ,C,xs,_,sr,e1,fun vs H1 f1 c1 r1=>⟨by rw[←RepSs.length r1];exact Yz hl (by rw[YE];decide),fun q hq=>d [] q vs H1 (Ex.fr f1) (by rw[YF];exact c1) hq (by rw[YF];exact r1)⟩⟩
theorem Za9 {f:4e2}(h:QEM X e f)(hs:X9 e none pos.line X.env=pure false:=by rfl):QSM X (.Expr e pos) (mDrop f):=by
 subst_eqs
 exact PS.imp (ps_expr h hs) fun D σ H h_=>by
   sleep 1
   obtain ⟨z,C1,e1,e⟩:=Zah e
   cases e
   exact ⟨ι,ρ,C,z,_,sr,e1,fun v H1 f1 c1 r1=>Done.nx0 (sr.step f1 c1) (d.fr c1 f1)⟩
theorem Zaj {i:Nat}{f:4e2}(hN:X.N.Nodup)(hi:X.N[i]? = some x)(hx:Loc X.env.scope x)(h:QEM X e f)(hs:X9 e (some (.Name x pos')) pos.line X.env=pure false:=by rfl)
  (hf:8e0:=by first | exact .inl rfl | exact .inr rfl | assumption):QSM X (.Assign [.Name x pos'] e pos) (mSet i f):=by
 subst_eqs
 exact PS.imp (ps_set hN hi hx h hs hf) fun D σ H h_=>by
   sleep 1
   obtain ⟨z,C1,e1,e⟩:=Zah e
   cases e
   exact ⟨ι,ρ,C,z,_,sr,e1,fun v H1 f1 c1 r1=>Done.nx0 ((sr.step f1 c1).set i r1) (d.fr c1 f1)⟩
theorem Za1 {i:Nat}{f:13e7}(hN:X.N.Nodup)(hi:X.N[i]? = some x)(hx:Loc X.env.scope x)(h:QFM X e f)(hs:X9 e (some (.Name x pos')) pos.line X.env=pure false:=by rfl)
  (hf:8e0:=by first | exact .inl rfl | exact .inr rfl | assumption):QSM X (.Assign [.Name x pos'] e pos) (mNew i f):=by
 subst_eqs
 exact PS.imp (ps_set hN hi hx h hs hf) fun D σ H h_=>by
   sleep 1
   obtain ⟨ps,C1,e1,e⟩:=Zah e
   cases e
   exact ⟨ι,ρ,C,ps,C1,sr,e1,fun q vs H' f1 c1 hq rs=>new_cell sr d f1 c1 hq rs⟩
theorem Zaq {x1}{fs:2e9}(h:QAM X es fs):QEM X (.Tuple es x1 pos) (mTup fs):=by
 subst_eqs
 exact PE.imp (pe_tup h) fun σ H Q h_=>by
   sleep 7
   obtain ⟨xs,C1,e1,e⟩:=Zah e
   obtain ⟨e2,rfl⟩:=ZaK e
   refine ⟨ι,ρ,C,xs,_,sr,e1,fun vs H1 f1 c1 r1=>?_⟩
   by_cases hl:xs.length<=1000
   ·rw[if_pos hl] at e2
    cases hp:plain xs with
    | none=>rw[hp] at e2;cases e2
    | some ps=>
     rw[hp] at e2;cases e2
     obtain ⟨rs,hv⟩:=ZbN hp r1
     refine ⟨by rw[hv];exact k1000 hl,fun q' hq=>q _ _ (f1.trans (Fr.new hq)) (c1.new hq) ?_⟩
     show Rep _ _ _ 9e0 _
     unfold Rep
     exact ⟨q',vs,rfl,ZaM,Reps.stay (fun b o e=>by rw[Zaw (Zap e hq)];exact e) ps vs rs⟩
   ·rw[if_neg hl] at e2;cases e2
theorem Zau {fs:2e9}(h:QAM X es fs):QFM X (.List es pos) (mLst fs):=by
 subst_eqs
 exact PE.imp (pe_lst h) fun σ H Q h_=>by
   sleep 7
   obtain ⟨xs,C1,e1,e⟩:=Zah e
   obtain ⟨e2,rfl⟩:=ZaK e
   refine ⟨ι,ρ,C,xs,_,sr,e1,fun vs H1 f1 c1 r1=>?_⟩
   by_cases hl:xs.length<=1000
   ·rw[if_pos hl] at e2
    obtain ⟨rs,hv⟩:=ZbN e2 r1
    exact ⟨by rw[hv];exact k1000 hl,fun q' hq=>q q' vs H1 f1 c1 hq rs⟩
   ·rw[if_neg hl] at e2;cases e2
theorem Zas {f:13e7}(h:QFM X e f):QEM X e (mVal f):=by
 subst_eqs
 exact PE.imp h fun σ H Q h_=>by
   sleep 7
   obtain ⟨ps,C1,e1,e⟩:=Zah e
   cases e
   exact ⟨ι,ρ,C,ps,_,sr,e1,fun q' vs H1 f1 c1 hq rs=>q _ _ (f1.trans (Fr.new hq)) (c1.new hq) (Zco c1 hq rs)⟩
theorem Zak {i:Nat}(hN:X.N.Nodup)(hi:X.N[i]? = some x)(hx:Loc X.env.scope x)(hf:8e0:=by first | exact .inl rfl | exact .inr rfl | assumption):QGM X (.Name x pos) (hName i):=by
 subst_eqs
 exact PG.imp (pg_name hN hi hx hf) fun v σ H Q h_=>by obtain ⟨ι,ρ,C,p,ρ',sr,r,e,q⟩:=h_;cases e;exact q _ (sr.set i r)
theorem Zbr:QGMs X [] hNil:=by
 subst_eqs
 exact PGs.imp pgs_nil fun v σ H Q h_=>by
   obtain ⟨ι,ρ,C,p,ρ',sr,r,e,q⟩:=h_
   cases p with
   | nil=>cases e;exact ⟨r.inv0,q σ sr⟩
   | cons _ _=>cases e
theorem Zaz {g:5e8}{gs:List PV->PSt->Option PSt}(h:QGM X e g)(k:QGMs X es gs)(hs:(XU 6e5 X.env).map (·.2)=assign e X.env::(XU es X.env).map (·.2):=by rfl):QGMs X 6e5 (hCons g gs):=by
 subst_eqs
 exact PGs.imp (pgs_cons h k hs) fun v σ H Q h_=>by
    obtain ⟨ι,ρ,C,p,ρ',sr,r,e,q⟩:=h_
    cases p with
    | nil=>cases e
    | cons p ps=>
     obtain ⟨w,ws,rfl,r1,r2⟩:=r.inv
     replace e:(g p ρ).bind (fun ρ'=>gs ps ρ')=some ρ':=e
     cases h1:g p ρ with
     | none=>rw[h1] at e;cases e
     | some ρ1=>
      rw[h1] at e
      exact ⟨w,ws,rfl,ι,ρ,C,p,ρ1,sr,r1,h1,fun σ1 sr1=>⟨ι,ρ1,C,ps,ρ',sr1,r2,e,q⟩⟩
theorem ZbK {gs:List PV->PSt->Option PSt}{k n:Nat}(hc:11e3)(h:QGMs X es gs)(hn:(XU es X.env).length=n:=by rfl)(hst:(XU es X.env).findIdx? (·.1)=none:=by rfl):QGM X (.Tuple es k pos) (hTup gs n):=by
 subst_eqs
 exact PG.imp (pg_tup hc h hn hst) fun v σ H Q h_=>by
    obtain ⟨ι,ρ,C,p,ρ',sr,r,e,q⟩:=h_
    cases p with
    | tup ps=>
     unfold Rep at r
     obtain ⟨a,vs,rfl,sq,rs⟩:=r
     replace e:(if ps.length=n then gs ps ρ else none)=some ρ':=e
     by_cases hl:ps.length=n
     ·rw[if_pos hl] at e
      exact ⟨a,vs,rfl,sq.sq,by rw[←rs.length];exact hl,ι,ρ,C,ps,ρ',sr,rs,e,q⟩
     ·rw[if_neg hl] at e;cases e
    | _=>cases e
theorem q_sm_asg {f:4e2}{g:5e8}(h:QEM X e f)(k:QGM X tg g)(hs:swapsWithSole [tg] e pos.line X.env=pure false:=by rfl)(hw:swappedStores [tg] e X.env=pure none:=by rfl)
  (h1:(XU [tg] X.env).map (·.2)=[assign tg X.env]:=by rfl):QSM X (.Assign [tg] e pos) (mAsg f g):=by
 subst_eqs
 exact PS.imp (ps_asg h k hs hw h1) fun D σ H h_=>by
   sleep 1
   obtain ⟨z,C1,e1,e⟩:=Zah e
   refine ⟨ι,ρ,C,z,C1,sr,e1,fun v H1 f1 c1 r1=>?_⟩
   cases z with
   | c k=>cases e
   | v p=>
    have e:(g p ρ).map (fun ρ'=>(PF.nx ρ',C1))=some (fl,C'):=e
    cases hg:g p ρ with
    | none=>rw[hg] at e;cases e
    | some ρ1=>
     rw[hg] at e
     cases e
     exact ⟨ι,ρ,_,p,ρ1,sr.step f1 c1,r1,hg,fun σ' sr'=>Done.nx0 sr' (d.fr c1 f1)⟩
end
section
variable {X:Cx}{e tg iter elt:Expr}{es:6e4}{body:List Stmt}{f:10e9}{pos p:Pos}{x:Str}
theorem Za2 {it:13e7}{g:5e8}(hp:V9 2e8 X.A X.env X.xe)(hc:11e3)(hi:QIM X tg iter it)(hg:QGM X tg g)(hb:QBM X body f)
  (hs:∀x,Xo iter X.env x=pure x:=by intro _;rfl):QSM X (.For tg iter body [] pos) (mFor it g f):=by
 subst_eqs
 exact PS.imp (ps_for hp hc hi hg hb hs) fun D σ H h_=>by
   sleep 1
   obtain ⟨xs,C1,e1,e⟩:=Zah e
   refine ⟨ι,ρ,C,xs,C1,sr,e1,fun J H1 f1 c1 it1=>?_⟩
   have d1:=d.fr c1 f1
   have sr1:=sr.step f1 c1
   refine ⟨fun i m σ2 H2=>∃ι2 ρ2 C2,m=xs.length - i/\i<=xs.length/\Ex ι ι2 H1 H2/\SR X.K 8e9 H2 ρ2 σ2 C2/\loop g f (xs.drop i) ρ2 C2=some (fl,C'),⟨xs.length,[],ρ,C1,rfl,Xe _,Ex.fr .refl,by rw[YF];exact sr1,e⟩,?_⟩
   rintro i m σ2 H2 ⟨ι2,ρ2,C2,rfl,hi2,x2,sr2,e2⟩
   rcases YJ i xs.length with hlt | hge
   ·right
    refine ⟨it1.go ι2 H2 C2 x2 sr2.cr i hlt,fun σ' H'=>∃ι2 ρ2 C2,Ex ι ι2 H1 H'/\SR X.K 8e9 H' ρ2 σ' C2/\loop g f (xs.drop (i + 1)) ρ2 C2=some (fl,C'),?_,?_⟩
    ·rintro σ' H' ⟨ι3,ρ3,C3,x3,sr3,e3⟩
     exact ⟨xs.length - (i + 1),by lia,ι3,ρ3,C3,rfl,hlt,x3,sr3,e3⟩
    ·intro v H3 y
     obtain ⟨sm,q,hq,rq⟩:=it1.yld ι2 H2 C2 x2 sr2.cr i v H3 hlt y
     have hd:xs.drop i=q::xs.drop (i + 1):=by
      rw[Wy hlt]
      rw[Yc hlt] at hq
      rw[YC hq]
     rw[hd] at e2
     unfold loop at e2
     cases hg1:g q ρ2 with
     | none=>rw[hg1] at e2;cases e2
     | some ρ3=>
      rw[hg1] at e2
      obtain ⟨fl1,C3,e3,e4⟩:=Zah e2
      have fr3:Fr 8e9 H2 H3:=fun b o _ z=>sm b o z
      have cr3:CR X.K 8e9 H3 C2:=sr2.cr.same sm
      have x3:Ex ι ι2 H1 H3:=⟨fun b o n z=>sm b o (x2.1 b o n z),x2.2⟩
      refine ⟨ι++ι2,ρ2,C2,q,ρ3,sr2.step fr3 cr3,rq,hg1,fun σ4 sr4=>⟨ι++ι2,ρ3,C2,fl1,C3,sr4,e3,?_⟩⟩
      cases fl1 with
      | nx ρ5=>exact fun ι5 σ5 H5 x5 sr5=>⟨ι2++ι5,ρ5,C3,x3.trans cr3 x5,by rw[←Yj];exact sr5,e4⟩
      | ct ρ5=>exact fun ι5 σ5 H5 x5 sr5=>⟨ι2++ι5,ρ5,C3,x3.trans cr3 x5,by rw[←Yj];exact sr5,e4⟩
      | bk ρ5=>cases e4;exact fun ι5 σ5 H5 x5 sr5=>d1 (ι2++ι5) σ5 H5 (x3.trans cr3 x5) (by rw[←Yj];exact sr5)
      | rf ps=>cases e4;exact fun ι5 q5 vs5 H5 x5 c5 h5 r5=>d1 (ι2++ι5) q5 vs5 H5 (x3.trans cr3 x5) (by rw[←Yj];exact c5) h5 (by rw[←Yj];exact r5)
      | rq ps=>cases e4;exact fun ι5 q5 vs5 H5 x5 c5 h5 r5=>d1 (ι2++ι5) q5 vs5 H5 (x3.trans cr3 x5) (by rw[←Yj];exact c5) h5 (by rw[←Yj];exact r5)
      | rt r=>cases e4;exact fun ι5 v5 H5 x5 c5 r5=>d1 (ι2++ι5) v5 H5 (x3.trans cr3 x5) (by rw[←Yj];exact c5) (by rw[←Yj];exact r5)
   ·left
    have hi3:i=xs.length:=by lia
    subst hi3
    rw[VL] at e2
    cases e2
    exact ⟨it1.stop ι2 H2 _ x2 sr2.cr,d1 ι2 σ2 H2 x2 sr2⟩
section
variable {ifs:6e4}{scope:Scope}{vs fs:6e2}{fr:12e4}{it:13e7}{g:5e8}{tt:7e1}{te:4e2}
theorem Za6:QTsM X [] tOk:=by
 subst_eqs
 exact fun pins s σ H Q I h_=>by
   obtain ⟨ι,ρ,C,b,C',sr,e,q⟩:=h_
   cases e
   exact pts_nil pins s σ H Q I (q H .refl sr.cr)
theorem Zbv {c:Expr}{t:7e1}(h:QTMt X c t):QTsM X [c] t:=by
 subst_eqs
 exact pts_one h
theorem Za3 (S:11e7)(hc:11e3)(hi:QIM X tg iter it)
  (bG:∀C s₀ H₀ ex pn,QGM 2e2 tg g) (bT:∀C s₀ H₀ ex pn,QTsM 2e2 ifs tt) (bE:∀C s₀ H₀ ex pn,QEM 2e2 elt te)
  (hs:∀x,Xo iter X.env x=pure x:=by intro _;rfl):QFM X 11e0 (mComp it vs fr g tt te):=by
 subst_eqs
 exact PE.imp (pe_comp (g:=tMG X.K g) (tt:=tMB X.K tt) (te:=tM X.K te) S hc hi bG bT bE hs) fun σ H Q ⟨ι,ρ,C,res,C',sr,e,q⟩=>comp_pure sr e q
theorem Zbg {i:Nat}{px spos:Pos}(hN:X.N.Nodup)(hx:X.N[i]? = some x)(hl:X.env.scope.names.lookup x=some .local)(S:11e7)(hc:11e3)(hi:QIM X tg iter it)
  (bG:∀C s₀ H₀ ex pn,QGM 2e2 tg g) (bT:∀C s₀ H₀ ex pn,QTsM 2e2 ifs tt) (bE:∀C s₀ H₀ ex pn,QEM 2e2 elt te)
  (hsw:X9 11e0 (some (.Name x px)) spos.line X.env=pure true:=by rfl) (hs:∀x,Xo iter X.env x=pure x:=by intro _;rfl):
  QSM X (.Assign [.Name x px] 11e0 spos) (mSet i (mVal (mComp it vs fr g tt te))):=by
 subst_eqs
 exact PS.imp (ps_comp (g:=tMG X.K g) (tt:=tMB X.K tt) (te:=tM X.K te) hN hx hl S hc hi bG bT bE hsw hs) fun D σ H h_=>by
   sleep 1
   obtain ⟨z,C1,e1,e⟩:=Zah e
   cases e
   obtain ⟨res,C2,e2,e3⟩:=Zah e1
   cases e3
   exact comp_pure sr e2 fun q vs H' f1 c1 hq rs=>Done.nx0 (((sr.step f1 c1).step (Fr.new hq) (c1.new hq)).set i (s:=.v (.lst _)) (Zco c1 hq rs)) (d.fr (c1.new hq) (f1.trans (Fr.new hq)))
end
end
section
variable {P:Yx}{w:World}{K:W.Frag}{mg:3e0}{base:Heap}
theorem q_fn_mk {x qual:Str}{st:Stmt}{f:Addr}{fd:XM}{N ps:6e2}{k:Nat}{body:10e9}(F:Fun K x qual st f fd)(S:FnScope N ps (defScope st))
  (hbody:∀(cdv:Value) (A:Around) (outer:List Env) (s:Shared) (H:Hp) (E:XK),Room k (A.deeper (envOfC qual (defScope st) s.heap.objs.size f cdv))->
   QBM (cxOf CX0 P w K mg base N qual (defScope st) f cdv A outer s H E).nox (defBody st) body):FnOk P w K mg base CX0 (k + 1) f fd ps (liftSp K (mDef ps.length (N.length - ps.length) body)):=by
 subst_eqs;apply @fn_mk<;>assumption
end
end Pu
namespace Pu
open PySem PySem.Spec L2
open PyProof.Rows hiding St Fr
section
variable {X:Cx}
variable {a b e c:Expr}{es:6e4}{fa fb fc:4e2}{pos p:Pos}{x:Str}
theorem Zao (ha:QEM X a fa)(hb:QEM X b fb):QEM X (.BinOp a .Add b pos) (mOp 5e3 fa fb):=by
 subst_eqs
 exact em_op op_addAll add_ok.r ha hb
theorem ZbL (ha:QEM X a fa)(hb:QEM X b fb):QEM X (.BinOp a .Sub b pos) (mOp (g2 subP) fa fb):=by
 subst_eqs
 exact em_op op_sub (int_ok0 fun _ _ _ _=>repI).r ha hb
theorem ZaS (ha:QEM X a fa)(hb:QEM X b fb):QEM X (.BinOp a .Mult b pos) (mOp (g2 mulP) fa fb):=by
 subst_eqs
 exact em_op op_mul (int_ok fun i j h=>by
   rw[VZ] at h
   rcases h with h | h
   ·exact .inl (of_decide_eq_true h)
   ·exact .inr (of_decide_eq_true h)).r ha hb
theorem ZaI (ha:QEM X a fa)(hb:QEM X b fb):QEM X (.BinOp a .Mod b pos) (mOp (g2 modP) fa fb):=by
 subst_eqs
 exact em_op op_mod (int_ok fun i j h=>of_decide_eq_true h).r ha hb
theorem q_em_fdiv (ha:QEM X a fa)(hb:QEM X b fb):QEM X (.BinOp a .FloorDiv b pos) (mOp (g2 fdivP) fa fb):=by
 subst_eqs
 exact em_op op_fdiv (int_ok fun i j h=>(of_decide_eq_true h:0 < j/\j < 1073741824)).r ha hb
theorem q_em_pow (ha:QEM X a fa)(hb:QEM X b fb):QEM X (.BinOp a .Pow b pos) (mOp (g2 powP) fa fb):=by
 subst_eqs
 exact em_op op_pow (int_ok fun i j h=>by
   have h:=of_decide_eq_true h
   exact ⟨h.1,Int.le_trans h.2.1 (by decide),h.2.2⟩).r ha hb
theorem Zb3 (ha:QEM X a fa):QEM X (.UnaryOp .USub a pos) (mNeg fa):=by
 subst_eqs
 refine PE.imp (pe_un un_neg ha) fun σ H Q h_=>?_
 obtain ⟨ι,ρ,C,z,C',sr,e,k⟩:=h_
 obtain ⟨x,C1,e1,e⟩:=Zah e
 obtain ⟨e2,rfl⟩:=ZaK e
 refine ⟨ι,ρ,C,x,_,sr,e1,fun v H1 f1 c1 r1=>?_⟩
 unfold negP at e2
 split at e2
 ·rename_i i hd
  cases e2
  have l:=r1.lies c1 hd
  cases l
  exact ⟨i,rfl,k _ H1 f1 c1 (show Rep _ _ _ _ _ from repI)⟩
 ·cases e2
end
section
variable {X:Cx}{a b e c o:Expr}{es:6e4}{fa fb fc fo:4e2}{fs:2e9}{pos p apos cpos:Pos}{x:Str}
theorem q_em_isi (hgl:Gl X "isinstance")(hm:X.mg "isinstance"=none)(hv:Y8 "isinstance"=some (.builtin "isinstance"))(ha:QAM X 6e5 fs)
  (he:1e5:=by rfl) (hpl:3e3:=by rfl):QEM X (.Call (.Name "isinstance" p) 6e5 [] pos) (mCB (g1 isiH) fs):=by
 subst_eqs
 exact ZcF call_isi isi_ok.c hgl hm hv ha 1e4 1e4 he hpl
theorem ZaH (hgl:Gl X "len")(hm:X.mg "len"=none)(ha:QAM X 6e5 fs)
  (he:1e5:=by rfl) (hpl:3e3:=by rfl):QEM X (.Call (.Name "len" p) 6e5 [] pos) (mCB 9e5 fs):=by
 subst_eqs
 exact ZcF call_len len_ok.c hgl hm PySem.boot_len ha 1e4 1e4 he hpl
theorem q_em_max (hc:11e3)(hgl:Gl X "max")(hm:X.mg "max"=none)(hv:Y8 "max"=some (.builtin "max"))(ha:QAM X 6e5 fs)
  (he:1e5:=by rfl) (hpl:3e3:=by rfl):QEM X (.Call (.Name "max" p) 6e5 [] pos) (mCB (g1 maxH) fs):=by
 subst_eqs
 exact ZcF (call_max2 hc) max_ok.c hgl hm hv ha 1e4 1e4 he hpl
theorem q_em_min (hc:11e3)(hgl:Gl X "min")(hm:X.mg "min"=none)(hv:Y8 "min"=some (.builtin "min"))(ha:QAM X 6e5 fs)
  (he:1e5:=by rfl) (hpl:3e3:=by rfl):QEM X (.Call (.Name "min" p) 6e5 [] pos) (mCB (g1 minH) fs):=by
 subst_eqs
 exact ZcF (call_min2 hc) min_ok.c hgl hm hv ha 1e4 1e4 he hpl
theorem ZcR (hgl:Gl X "int")(hm:X.mg "int"=none)(hv:Y8 "int"=some (.type "int"))(ha:QAM X 6e5 fs)
  (he:1e5:=by rfl) (hpl:3e3:=by rfl):QEM X (.Call (.Name "int" p) 6e5 [] pos) (mCB (g1 intH) fs):=by
 subst_eqs
 exact Zc5 call_int1 intc_ok.c hgl hm hv ha 1e4 1e4 he hpl
theorem ZbB (hgl:Gl X "tuple")(hm:X.mg "tuple"=none)(hv:Y8 "tuple"=some (.type "tuple"))(ha:QAM X 6e5 fs)
  (he:1e5:=by rfl) (hpl:3e3:=by rfl):QEM X (.Call (.Name "tuple" p) 6e5 [] pos) (mCB (g1 tupH) fs):=by
 subst_eqs
 exact Zc5 call_tuple_of tup_ok.c hgl hm hv ha 1e4 1e4 he hpl
theorem Zcm (hgl:Gl X "list")(hm:X.mg "list"=none)(hv:Y8 "list"=some (.type "list"))(ha:QAM X 6e5 fs)
  (he:1e5:=by rfl) (hpl:3e3:=by rfl):QFM X (.Call (.Name "list" p) 6e5 [] pos) (mList fs):=by
 subst_eqs
 exact PE.imp (pe_callTy call_list_of hgl hm hv ha 1e4 1e4 he hpl) fun σ H Q h_=>by
    sleep 7
    obtain ⟨xs,C1,e1,e⟩:=Zah e
    obtain ⟨e2,rfl⟩:=ZaK e
    refine ⟨ι,ρ,C,xs,_,sr,e1,fun vs H1 f1 c1 r1=>?_⟩
    unfold listH at e2
    split at e2
    ·rename_i x
     obtain ⟨v,w,rfl,r1,hw⟩:=r1
     cases (show w=[] from hw)
     split at e2
     ·rename_i hd
      cases e2
      obtain ⟨a,ws,rfl,h1,r2⟩:=liesL (r1.lies c1 hd)
      exact ⟨a,ws,rfl,.inl h1,fun l hl=>q l ws H1 f1 c1 hl r2⟩
     ·rename_i hd
      cases e2
      obtain ⟨a,ws,rfl,h1,r2⟩:=liesT (r1.lies c1 hd)
      exact ⟨a,ws,rfl,.inr h1.sq,fun l hl=>q l ws H1 f1 c1 hl r2⟩
     ·cases e2
    ·cases e2
end
section
variable {X:Cx}{a b e c o i:Expr}{es:6e4}{fa fb fc fo fi fv:4e2}{fs:2e9}{pos p apos cpos:Pos}{x:Str}
theorem ZaY (ho:QEM X o fo)(ha:QAM X 6e5 fs)(hbase:XF o "append" X.env (eval o X.env)=eval o X.env:=by rfl)
  (hfew:((backTo cpos (Yi 6e5 X.env)).all (fun x=>!x.1)&&(V2 cpos (WY [] X.env)).all (fun x=>x.1.isSome)
   &&decide ((e::es).length + ([]:List WZ).length + (if ([]:List WZ).isEmpty then 0 else 1) < 30))=true:=by rfl)
  (hline:12e2:=by rfl) (hs:1e5:=by rfl) (hplain:(backTo cpos (Yi es X.env)).any (·.1)=false:=by rfl):
  QEM X (.Call (.Attribute o "append" apos) 6e5 [] cpos) (mApp fo fs):=by
 subst_eqs
 exact PE.imp (pe_bm WT PySem.F.slot_list_append PySem.F.type_list_append mt_append ho ha hbase hfew hline hs hplain) fun σ H Q h_=>by
    sleep 7
    obtain ⟨x,C1,e1,g1⟩:=Zah e
    obtain ⟨u,C2,e2,g2⟩:=Zah g1
    obtain ⟨ys,C3,e3,g3⟩:=Zah g2
    obtain ⟨hC,k,ps0,hx,hc0⟩:=isLst_some e2
    obtain ⟨k',p',ps,hx',hy,hc,hl,hr,hC'⟩:=appC_some g3
    clear e g1 g2 g3 e2
    subst hC hx hr hC' hy
    cases hx'
    refine ⟨ι,ρ,C,_,_,sr,e1,fun v H1 f1 c1 r1=>?_⟩
    obtain ⟨a,rfl,hk⟩:=r1
    obtain ⟨vs0,h0,_⟩:=ZcG c1 hk hc0
    refine ⟨.inl ⟨rfl,_,.of h0⟩,ι,ρ,_,_,C3,sr.step f1 c1,e3,fun ws H2 f2 c2 r2=>?_⟩
    obtain ⟨w,wr,rfl,rw1,hw⟩:=r2
    cases (show wr=[] from hw)
    obtain ⟨vs,h1,rv⟩:=ZcG c2 hk hc
    obtain ⟨c4,f4⟩:=cr_set c2 hk (rv.append (.cons rw1 .nil))
    exact ⟨a,vs,w,rfl,rfl,h1,by rw[←rv.length];exact Yr hl (k100000 (Yh _)),q _ _ (f1.trans (f2.trans f4)) c4 (show Rep _ _ _ _ _ from repN)⟩
theorem Zdl {spos:Pos}(hv:QEM X e fv)(ho:QEM X o fo)(hi:QEM X i fi)
  (ha:∀v,assign (.Subscript o i spos) X.env v=(do
   let ov ←VP [v] (eval o X.env)
   let iv ←VP [v,ov] (eval i X.env)
   standAt spos
   VP [v,ov,iv] (setItem ov iv v)
   release [v,ov,iv] []):=by intro _;rfl)
  (hs:swapsWithSole [.Subscript o i spos] e pos.line X.env=pure false:=by rfl) (hw:swappedStores [.Subscript o i spos] e X.env=pure none:=by rfl)
  (h1:(XU [.Subscript o i spos] X.env).map (·.2)=[assign (.Subscript o i spos) X.env]:=by rfl):QSM X (.Assign [.Subscript o i spos] e pos) (mSetIx fv fo fi):=by
 subst_eqs
 exact PS.imp (ps_asg hv (pg_sub ho hi set_list ha) hs hw h1) fun D σ H h_=>by
    sleep 1
    obtain ⟨v,C1,e1,g1⟩:=Zah e
    obtain ⟨o,C2,e2,g2⟩:=Zah g1
    obtain ⟨i,C3,e3,g3⟩:=Zah g2
    obtain ⟨k,n,p',ps,j,ho,hi,hv,hc,hj,hf,hC⟩:=setC_some g3
    clear e g1 g2 g3
    subst ho hi hv hf hC
    refine ⟨ι,ρ,C,_,C1,sr,e1,fun x H1 f1 c1 r1=>⟨ι,ρ,C1,_,C2,sr.step f1 c1,e2,fun y H2 f2 c2 r2=>⟨ι,ρ,C2,_,C3,(sr.step f1 c1).step f2 c2,e3,fun w H3 f3 c3 r3=>?_⟩⟩⟩
    obtain ⟨a,rfl,hk⟩:=r2
    have r3:w=.int n:=by unfold RepS Rep at r3;exact r3
    obtain ⟨vs,h1,rv⟩:=ZcG c3 hk hc
    have r1':Rep X.K ι H3 p' x:=Rep.mono c2 f3 _ _ (Rep.mono c1 f2 _ _ r1)
    obtain ⟨c4,f4⟩:=cr_set c3 hk (rv.set j r1')
    refine ⟨a,vs,n,j,rfl,r3,h1,by rw[←rv.length];exact hj,?_⟩
    exact Done.nx0 ((((sr.step f1 c1).step f2 c2).step f3 c3).step f4 c4) (d.fr c4 (f1.trans (f2.trans (f3.trans f4))))
variable {tg l:Expr}
theorem ZaO (hl:QEM X l fa):QIM X tg l (mItems fa):=by
 subst_eqs
 intro pins s σ H R I h
 obtain ⟨ι,ρ,C,xs,C',sr,e,q⟩:=h
 obtain ⟨x,C1,e1,e⟩:=Zah e
 obtain ⟨e2,rfl⟩:=ZaK e
 refine thn (hl pins s σ H (fun v H1=>Fr ι H H1/\CR X.K ι H1 C'/\RepS X.K ι H1 x v) I ⟨ι,ρ,C,x,C',sr,e1,fun v H1 f1 c1 r1=>⟨f1,c1,r1⟩⟩) fun v s1 h_=>?_
 obtain ⟨y,H1,I1,r1,f1,c1,rx⟩:=h_
 have fp:∀b∈[s1.heap.objs.size],FpOk X pins H1 b:=fun b hb=>by
  have e:b=s1.heap.objs.size:=by simpa using hb
  subst e
  exact I1.fpOk (Yh _) (I1.hok.fresh (Yh _))
 unfold itemsP at e2
 split at e2
 ·cases e2
  have rx:Rep X.K ι H1 (.lst _) y:=rx
  unfold Rep at rx
  obtain ⟨a,vs,rfl,hq,rv⟩:=rx
  cases r1
  obtain ⟨its,_,p,hz⟩:=I1.list hq.sq
  refine wpAny_pyIter_list p.isList ?_
  exact ⟨s1.heap.objs.size,[s1.heap.objs.size],_,_,H1,rfl,I1.kept (t':=s1.toks) fun b o e=>Ya _ e,turn_list a _,⟨_,Yq _ rfl,rfl,rfl⟩,fp,q _ H1 f1 c1 (iter_list c1 hq rv)⟩
 ·cases e2
  have rx:Rep X.K ι H1 (.tup _) y:=rx
  unfold Rep at rx
  obtain ⟨a,vs,rfl,hq,rv⟩:=rx
  cases r1
  obtain ⟨its,_,p,hz⟩:=I1.tuple hq.sq
  refine wpAny_pyIter_tuple (show s1.heap.IsTuple a its.toArray from p) ?_
  exact ⟨s1.heap.objs.size,[s1.heap.objs.size],_,_,H1,rfl,I1.kept (t':=s1.toks) fun b o e=>Ya _ e,turn_tuple a _,⟨_,Yq _ rfl,rfl,rfl⟩,fp,q _ H1 f1 c1 (iter_tup c1 hq.sq rv)⟩
 ·cases e2
  have rx:Rep X.K ι H1 (.str _) y:=rx
  rename Str=>z
  unfold Rep at rx
  obtain ⟨rfl,hz⟩:=rx
  obtain ⟨t,rfl⟩:=r1
  cases ha:z.cps.all (· < 128)
  ·exact wpAny_pyIter_wide ha ⟨s1.heap.objs.size,[s1.heap.objs.size],_,_,H1,rfl,I1.kept (t':=s1.toks) fun b o e=>Ya _ e,turn_str (t:=t) (.inr rfl),⟨_,Yq _ rfl,rfl,rfl⟩,fp,q _ H1 f1 c1 iter_str⟩
  ·exact wpAny_pyIter_ascii ha ⟨s1.heap.objs.size,[s1.heap.objs.size],_,_,H1,rfl,I1.kept (t':=s1.toks) fun b o e=>Ya _ e,turn_str (t:=t) (.inl rfl),⟨_,Yq _ rfl,rfl,rfl⟩,fp,q _ H1 f1 c1 iter_str⟩
 ·cases e2
theorem ZaR (hg:Gl X "range")(hm:X.mg "range"=none)(ha:QAM X [a] fs)(hs:Yi [a] X.env=[(false,eval a X.env)]:=by rfl):QIM X tg (.Call (.Name "range" p) [a] [] pos) (mRange1 fs):=by
 subst_eqs
 exact PI.imp (pi_range1 hg hm ha hs) fun σ H R h_=>by
    obtain ⟨ι,ρ,C,xs,C',sr,e,q⟩:=h_
    obtain ⟨zs,C1,e1,g1⟩:=Zah e
    obtain ⟨e2,hC⟩:=ZaK g1
    subst hC
    refine ⟨ι,ρ,C,zs,_,sr,e1,fun vs H1 f1 c1 r1=>?_⟩
    obtain ⟨j,rfl,h,rfl⟩:=rng1_some e2
    obtain ⟨v,w,rfl,r1,hw⟩:=r1
    cases (show w=[] from hw)
    have r1:v=.int j:=by unfold RepS Rep at r1;exact r1
    subst r1
    exact ⟨j,rfl,by lia,by lia,q _ H1 f1 c1 iter_range⟩
end
section
variable {X:Cx}{a b e c o i:Expr}{es:6e4}{fa fb fc fo fi fv:4e2}{fs:2e9}{pos p apos cpos p2:Pos}{x:Str}{lo hi:Option Expr}{l h:PSt->M (Option Int)}
theorem ZaA:QOM X none oNo:=by
 subst_eqs
 exact PO.imp po_none fun σ H Q h_=>by obtain ⟨ι,ρ,C,r,C',sr,e,q⟩:=h_;cases e;exact q H .refl sr.cr
theorem Zay (he:QEM X e fa):QOM X (some e) (oPart fa):=by
 subst_eqs
 exact PO.imp (po_some he) fun σ H Q h_=>by
   obtain ⟨ι,ρ,C,r,C',sr,e,q⟩:=h_
   obtain ⟨z,C1,e1,g1⟩:=Zah e
   obtain ⟨e2,hC⟩:=ZaK g1
   subst hC
   refine ⟨ι,ρ,C,z,_,sr,e1,fun v H1 f1 c1 r1=>?_⟩
   unfold intD at e2
   split at e2
   ·rename_i j hd
    cases e2
    have l:=r1.lies c1 hd
    cases l
    exact ⟨j,rfl,q H1 f1 c1⟩
   ·cases e2
theorem Zav (he:QEM X e fa)(hl:QOM X lo l)(hh:QOM X hi h):QEM X (.Subscript e (.Slice lo hi none p2) pos) (mSlice fa l h):=by
 subst_eqs
 exact PE.imp (pe_slice (SlR.or sl_list (SlR.or sl_tup sl_tupW)) he hl hh) fun σ H Q h_=>by
    sleep 7
    obtain ⟨x,C1,e1,g1⟩:=Zah e
    obtain ⟨i,C2,e2,g2⟩:=Zah g1
    obtain ⟨j,C3,e3,g3⟩:=Zah g2
    obtain ⟨e4,hC⟩:=ZaK g3
    subst hC
    clear e g1 g2 g3
    refine ⟨ι,ρ,C,x,C1,sr,e1,fun v H1 f1 c1 r1=>⟨ι,ρ,C1,i,C2,sr.step f1 c1,e2,fun H2 f2 c2=>⟨ι,ρ,C2,j,_,(sr.step f1 c1).step f2 c2,e3,fun H3 f3 c3=>?_⟩⟩⟩
    have fr:=f1.trans (f2.trans f3)
    have r3:=(r1.mono c1 f2).mono c2 f3
    rcases sliceD_some e4 with ⟨xs,hd,rfl⟩ | ⟨xs,hd,rfl⟩
    ·obtain ⟨a,vs,rfl,h1,rv⟩:=liesL (r3.lies c3 hd)
     exact .inl ⟨a,vs,rfl,h1,fun p hp=>q _ _ (fr.trans (Fr.new hp)) (c3.new hp) (show Rep _ _ _ _ _ from Zco c3 hp (reps_cut rv i j))⟩
    ·obtain ⟨a,vs,rfl,h1,rv⟩:=liesT (r3.lies c3 hd)
     by_cases hw:HT.sIx vs.length 0 i=0/\HT.sIx vs.length vs.length j=vs.length
     ·refine .inr (.inr ⟨a,vs,rfl,h1.sq,hw,?_⟩)
      rw[←rv.length] at hw
      rw[cut_whole hw] at q
      exact q _ H3 fr c3 (show Rep _ _ _ _ _ by unfold Rep;exact ⟨a,vs,rfl,h1,rv⟩)
     ·exact .inr (.inl ⟨a,vs,rfl,h1.sq,hw,fun p hp=>q _ _ (fr.trans (Fr.new hp)) (c3.new hp) (show Rep _ _ _ _ _ from ZcS hp (reps_cut rv i j))⟩)
end
section
variable {X:Cx}{a b e c o i:Expr}{es:6e4}{fa fb fc fo fi fv:4e2}{fs:2e9}{pos p apos cpos p2:Pos}{x:Str}
theorem Zag (hu:X.A.units + 1 < cLine)(ha:QEM X a fa)(hb:QEM X b fb)(hs:PlainIx b:=by exact fun _ _=>rfl):QEM X (.Subscript a b pos) (mOp 2e7 fa fb):=by
 subst_eqs
 exact em_ix (IxR.or ix_seq (ix_dict hu)) ixQ_ok.r ha hb hs
end
end Pu
namespace Pu
open PySem PySem.Spec PySem.W PySem.Calls L2 PySem.SeqAt
open PyProof.Rows hiding St Fr
section
variable {X:Cx}{e o i:Expr}{es:6e4}{fs:2e9}{p pos pos':Pos}{x:Str}{fv fo fi:4e2}
theorem q_em_dictP (hcm:11e3)(hu:6e7)(hgl:Gl X "dict")(hm:X.mg "dict"=none)(hv:Y8 "dict"=some (.type "dict"))(ha:QAM X 6e5 fs)
  (he:1e5:=by rfl) (hpl:3e3:=by rfl):QEM X (.Call (.Name "dict" p) 6e5 [] pos) (mCB dictPH fs):=by
 subst_eqs
 exact Zc5 (call_dictP hcm hu) dictP_ok hgl hm hv ha 1e4 1e4 he hpl
theorem ZcP {n:Nat}{dpos:Pos}(hN:X.N.Nodup)(hi:X.N[n]? = some x)(hx:Loc X.env.scope x)(hs:X9 (.Dict [] [] dpos) (some (.Name x pos')) pos.line X.env=pure false:=by rfl)
  (hf:8e0:=by first | exact .inl rfl | exact .inr rfl | assumption):QSM X (.Assign [.Name x pos'] (.Dict [] [] dpos) pos) (mNewT n):=by
 subst_eqs
 exact PS.imp (ps_set hN hi hx pe_dnewT hs hf) fun D σ H h_=>by
   sleep 1
   cases e
   intro q hq
   have c1:=sr.cr
   have c2:CR X.K (ι++[q]) (upd H q (.dT [])) (C++[.dtt [] []]):=c1.add hq ⟨[],ZaM,rfl,.nil⟩
   have x:Ex ι [q] H (upd H q (.dT [])):=⟨Fr.new hq,fun b hb=>by
    have:b=q:=by simpa using hb
    subst this;exact hq⟩
   refine d [q] _ _ x ((sr.ex x c2).set n ⟨q,rfl,?_⟩)
   rw[←c1.len];simp
theorem ZbV {spos:Pos}(hu:6e7)(hv:QEM X e fv)(ho:QEM X o fo)(hi:QEM X i fi)
  (hs:X9 e (some (.Subscript o i spos)) pos.line X.env=pure false:=by rfl):QSM X (.Assign [.Subscript o i spos] e pos) (mSetIxT fv fo fi):=by
 subst_eqs
 exact PS.imp (ps_dput 1e3 ho hi hv hs) fun D σ H h_=>by
    sleep 1
    obtain ⟨v,C1,e1,g1⟩:=Zah e
    obtain ⟨o,C2,e2,g2⟩:=Zah g1
    obtain ⟨i,C3,e3,g3⟩:=Zah g2
    obtain ⟨k,qs,p',ks,ps,key,ho,hi,hv,hc,hj,hlen,hf,hC⟩:=setT_some g3
    clear e g1 g2 g3
    subst ho hi hv hf hC
    refine ⟨ι,ρ,C,_,C1,sr,e1,fun x H1 f1 c1 r1=>⟨ι,ρ,C1,_,C2,sr.step f1 c1,e2,fun y H2 f2 c2 r2=>⟨ι,ρ,C2,_,C3,(sr.step f1 c1).step f2 c2,e3,fun w H3 f3 c3 r3=>?_⟩⟩⟩
    obtain ⟨a,rfl,hk⟩:=r2
    obtain ⟨vs,h1,hl,rv⟩:=(show CellOk X.K ι H3 a (.dtt ks ps) from c3.ok k a _ hk hc)
    obtain ⟨b,rfl,hb⟩:=ZbU (show Rep X.K ι H3 (.tup qs) w from r3) hj
    have r1':Rep X.K ι H3 p' x:=Rep.mono c2 f3 _ _ (Rep.mono c1 f2 _ _ r1)
    obtain ⟨z1,z2⟩:=put_zip (k:=key) (v:=x) hl
    have fr:Fr ι H3 (upd H3 a (.dT (putK (ks.zip vs) key x))):=fun b u n e=>by
     rw[Zaw (fun z=>n (by rw[z];exact YH hk))];exact e
    have c4:CR X.K ι (upd H3 a (.dT (putK (ks.zip vs) key x))) (C3.set k (.dtt (putKs ks key) (putVs ks ps key p'))):=
     c3.put hk ⟨putVs ks vs key x,by rw[←z1];exact ZaM,z2,Reps.mono c3 fr _ _ (Zcz r1' rv)⟩
    refine ⟨a,_,rfl,DPut.t h1 hb (by rw[WR,YE];lia),?_⟩
    exact Done.nx0 ((((sr.step f1 c1).step f2 c2).step f3 c3).step fr c4) (d.fr c4 (f1.trans (f2.trans (f3.trans fr))))
end
section
variable {X:Cx}{a b:Expr}{fa fb:4e2}{pos:Pos}
theorem Zb4 (hu:X.A.units + 1 < cLine)(ha:QEM X a fa)(hb:QEM X b fb)(hs:PlainIx b:=by exact fun _ _=>rfl):QEM X (.Subscript a b pos) (mOp (g2 ixT) fa fb):=by
 subst_eqs
 exact em_ix (IxR.or ix_seq (ix_dict hu)) ixT_ok.r ha hb hs
end
section
variable {X:Cx}{pos:Pos}{c:Expr}{f:10e9}{body:List Stmt}
theorem Zdk {t:7e1}(hp:V9 2e8 X.A X.env X.xe)(hc:QTMt X c t)(hb:QBM X body f):QSM X (.While c body [] pos) (mWhile t f):=by
 subst_eqs
 exact PS.imp (ps_while hp hc hb) fun D σ H h_=>by
   sleep 1
   refine ⟨fun m σ2 H2=>∃ι2 ρ2 C2,Ex ι ι2 H H2/\SR X.K 8e9 H2 ρ2 σ2 C2/\loopW t f m ρ2 C2=some (fl,C'),⟨1000,[],ρ,C,Ex.fr .refl,by rw[YF];exact sr,e⟩,?_⟩
   rintro m σ2 H2 ⟨ι2,ρ2,C2,x2,sr2,e2⟩
   cases m with
   | zero=>cases e2
   | succ m=>
    unfold loopW at e2
    obtain ⟨z,C3,e3,e2⟩:=Zah e2
    refine ⟨ι++ι2,ρ2,C2,z,C3,sr2,e3,fun H3 f3 c3=>?_⟩
    have x3:Ex ι ι2 H H3:=⟨fun b o n e=>f3 b o (x2.out b o n e).1 (x2.out b o n e).2,x2.2⟩
    have sr3:=sr2.step f3 c3
    cases z with
    | true=>
     rw[if_pos rfl] at e2
     dsimp only
     rw[if_pos rfl]
     obtain ⟨fl1,C4,e4,e5⟩:=Zah e2
     refine ⟨fun σ' H'=>∃ι2 ρ2 C2,Ex ι ι2 H H'/\SR X.K 8e9 H' ρ2 σ' C2/\loopW t f m ρ2 C2=some (fl,C'),fun σ' H' h=>⟨m,VJ _,h⟩,ι++ι2,ρ2,C3,fl1,C4,sr3,e4,?_⟩
     cases fl1 with
     | nx ρ5=>exact fun ι5 σ5 H5 x5 sr5=>⟨ι2++ι5,ρ5,C4,Ex.trans c3 x3 x5,by rw[←Yj];exact sr5,e5⟩
     | ct ρ5=>exact fun ι5 σ5 H5 x5 sr5=>⟨ι2++ι5,ρ5,C4,Ex.trans c3 x3 x5,by rw[←Yj];exact sr5,e5⟩
     | bk ρ5=>cases e5;exact fun ι5 σ5 H5 x5 sr5=>d (ι2++ι5) σ5 H5 (Ex.trans c3 x3 x5) (by rw[←Yj];exact sr5)
     | rf ps=>cases e5;exact fun ι5 q5 vs5 H5 x5 c5 h5 r5=>d (ι2++ι5) q5 vs5 H5 (Ex.trans c3 x3 x5) (by rw[←Yj];exact c5) h5 (by rw[←Yj];exact r5)
     | rq ps=>cases e5;exact fun ι5 q5 vs5 H5 x5 c5 h5 r5=>d (ι2++ι5) q5 vs5 H5 (Ex.trans c3 x3 x5) (by rw[←Yj];exact c5) h5 (by rw[←Yj];exact r5)
     | rt r=>cases e5;exact fun ι5 v5 H5 x5 c5 r5=>d (ι2++ι5) v5 H5 (Ex.trans c3 x3 x5) (by rw[←Yj];exact c5) (by rw[←Yj];exact r5)
    | false=>
     rw[if_neg Yl] at e2
     dsimp only
     rw[if_neg Yl]
     cases e2
     exact d ι2 σ2 H3 x3 sr3
end
end Pu
namespace Pu
open PySem PySem.Spec PySem.W PySem.Calls L2
open PyProof.Rows hiding St Fr
section
variable {X:Cx}{a b e:Expr}{fa fb:4e2}{pos p:Pos}{es:6e4}{fs:2e9}
theorem q_em_rev {X:Cx}{o:Expr}{fo:4e2}{apos cpos:Pos}(ho:QEM X o fo)(hbase:XF o "reverse" X.env (eval o X.env)=eval o X.env:=by rfl)(hline:12e2:=by rfl):
  QEM X (.Call (.Attribute o "reverse" apos) [] [] cpos) (mRev fo):=by
 subst_eqs
 exact PE.imp (pe_bm0 WT PySem.F.slot_list_reverse PySem.F.type_list_reverse mt_reverse ho hbase hline) fun σ H Q h_=>by
    sleep 7
    obtain ⟨x,C1,e1,g1⟩:=Zah e
    obtain ⟨k,ps,rfl,hc,rfl,rfl⟩:=revC_some g1
    refine ⟨ι,ρ,C,_,_,sr,e1,fun v H1 f1 c1 r1=>?_⟩
    obtain ⟨a,rfl,hk⟩:=r1
    obtain ⟨vs,h0,rv⟩:=ZcG c1 hk hc
    obtain ⟨c4,f4⟩:=cr_set c1 hk rv.rev
    exact ⟨.inl ⟨rfl,_,.of h0⟩,a,vs,rfl,rfl,h0,q _ _ (f1.trans f4) c4 (show Rep _ _ _ _ _ from repN)⟩
end
end Pu
namespace Pu
open PySem PySem.Spec PySem.W PySem.Calls L2 PySem.SeqAt
open PyProof.Rows hiding St Fr
section
variable {X:Cx}{e o i a:Expr}{es:6e4}{p pos pos' cpos apos:Pos}{x:Str}{fv fo fi fa:4e2}{fs:2e9}
theorem q_sm_newK {n:Nat}{dpos:Pos}(hN:X.N.Nodup)(hi:X.N[n]? = some x)(hx:Loc X.env.scope x)(hs:X9 (.Dict [] [] dpos) (some (.Name x pos')) pos.line X.env=pure false:=by rfl)
  (hf:8e0:=by first | exact .inl rfl | exact .inr rfl | assumption):QSM X (.Assign [.Name x pos'] (.Dict [] [] dpos) pos) (mNewK n):=by
 subst_eqs
 exact PS.imp (ps_set hN hi hx pe_dnewK hs hf) fun D σ H h_=>by
   sleep 1
   cases e
   intro q hq
   have c1:=sr.cr
   have c2:CR X.K (ι++[q]) (upd H q (.dK [])) (C++[.dct [] []]):=c1.add hq ⟨[],[],ZaM,rfl,rfl,.nil⟩
   have x:Ex ι [q] H (upd H q (.dK [])):=⟨Fr.new hq,fun b hb=>by
    have:b=q:=by simpa using hb
    subst this;exact hq⟩
   refine d [q] _ _ x ((sr.ex x c2).set n ⟨q,rfl,?_⟩)
   rw[←c1.len];simp
theorem q_sm_setixK {spos:Pos}(hu:6e7)(hv:QEM X e fv)(ho:QEM X o fo)(hi:QEM X i fi)
  (hs:X9 e (some (.Subscript o i spos)) pos.line X.env=pure false:=by rfl):QSM X (.Assign [.Subscript o i spos] e pos) (mSetIxK fv fo fi):=by
 subst_eqs;apply @sm_setixK<;>assumption
theorem q_em_getT (hu:6e7)(ho:QEM X o fo)(ha:QAM X 6e5 fs)(hbase:XF o "get" X.env (eval o X.env)=eval o X.env:=by rfl)
  (hfew:((backTo cpos (Yi 6e5 X.env)).all (fun x=>!x.1)&&(V2 cpos (WY [] X.env)).all (fun x=>x.1.isSome)
   &&decide ((e::es).length + ([]:List WZ).length + (if ([]:List WZ).isEmpty then 0 else 1) < 30))=true:=by rfl)
  (hline:12e2:=by rfl) (hs:1e5:=by rfl) (hplain:(backTo cpos (Yi es X.env)).any (·.1)=false:=by rfl):
  QEM X (.Call (.Attribute o "get" apos) 6e5 [] cpos) (mMt "dict" getTH fo fs):=by
 subst_eqs
 exact em_mt PySem.F.plainAttrs_dict W6 PySem.F.type_dict_get (mt_getT hu) getT_ok ho ha hbase hfew hline hs hplain
end
section
variable {X:Cx}
theorem ZbA {e:Expr}{es:6e4}{fs:2e9}{p pos:Pos}(hcm:11e3)(hu:6e7)(hgl:Gl X "sorted")(hm:X.mg "sorted"=none)(hv:Y8 "sorted"=some (.builtin "sorted"))(ha:QAM X 6e5 fs)
  (he:1e5:=by rfl) (hpl:3e3:=by rfl):QFM X (.Call (.Name "sorted" p) 6e5 [] pos) (mSorted3 fs):=by
 subst_eqs
 exact PE.imp (PE.or (fm_sorted2 (p:=p) (pos:=pos) hcm hu hgl hm hv ha he hpl) (pe_callB (call_sortedK hcm hu) hgl hm hv ha 1e4 1e4 he hpl)) fun σ H Q h_=>by
    sleep 7
    obtain ⟨xs,C1,e1,e⟩:=Zah e
    obtain ⟨e2,rfl⟩:=ZaK e
    unfold sortedH3 at e2
    split at e2
    ·rename_i x
     split at e2
     ·rename_i ks vs hd
      split at e2
      ·rename_i qs hk
       by_cases ho:qs.all keyOk=true
       ·rw[if_pos ho] at e2
        refine .inr ⟨ι,ρ,C,[x],_,sr,e1,fun vs H1 f1 c1 r1=>?_⟩
        obtain ⟨v,w,rfl,r1,hw⟩:=r1
        cases (show w=[] from hw)
        obtain ⟨a,qs',ws,rfl,rfl,hd',hl,r⟩:=liesD (r1.lies c1 hd)
        rw[ZaT] at hk
        cases hk
        have ek:((qs.zip ws).map fun q=>kP q.1)=qs.map kP:=by
         have:(qs.zip ws).map V3=qs:=Wz 1e3
         exact (Y2 (f:=V3) (g:=kP) (l:=qs.zip ws)).symm.trans (by rw[this])
        have ev:((qs.zip ws).map fun q=>kV q.1)=qs.map kV:=by
         have:(qs.zip ws).map V3=qs:=Wz 1e3
         exact (Y2 (f:=V3) (g:=kV) (l:=qs.zip ws)).symm.trans (by rw[this])
        have ef:(qs.zip ws).map (·.1)=qs:=Wz 1e3
        refine ⟨a,qs.zip ws,rfl,hd',by rw[ef];exact ho,by rw[ek,e2];rfl,fun l hl=>?_⟩
        refine q l _ H1 f1 c1 hl ?_
        rw[Zcx e2,ek,ev]
        exact Zb1 (reps_kP ho) fun i hi=>ZbD i hi
       ·rw[if_neg ho] at e2;cases e2
      ·cases e2
     ·exact .inl ⟨ι,ρ,C,z,_,sr,by unfold mSorted2;show bnd (fs ρ) _ C=_;unfold bnd;rw[e1];show opM _ _=_;unfold opM;dsimp only;rw[e2],q⟩
    ·cases e2
end
end Pu
namespace Pu
open PySem PySem.Spec L2
open PyProof.Rows hiding St Fr
section
variable {X:Cx}{l:Expr}{elts:6e4}{x1:Nat}{tpos p pos:Pos}
theorem q_im_enum {fs:2e9}(hg:Gl X "enumerate")(hm:X.mg "enumerate"=none)(ha:QAM X [l] fs)(hs:Yi [l] X.env=[(false,eval l X.env)]:=by rfl):QIM X (.Tuple elts x1 tpos) (.Call (.Name "enumerate" p) [l] [] pos) (mEnum fs):=by
 subst_eqs
 exact PI.imp (pi_enum hg hm ha hs) fun σ H R h_=>by
    obtain ⟨ι,ρ,C,xs,C',sr,e,q⟩:=h_
    obtain ⟨zs,C1,e1,g1⟩:=Zah e
    obtain ⟨e2,hC⟩:=ZaK g1
    subst hC
    refine ⟨ι,ρ,C,zs,_,sr,e1,fun vs H1 f1 c1 r1=>?_⟩
    unfold enumP at e2
    split at e2
    ·cases e2
     obtain ⟨v,w,rfl,r1,hw⟩:=r1
     cases (show w=[] from hw)
     replace r1:Rep X.K ι H1 (.lst _) v:=r1
     unfold Rep at r1
     obtain ⟨a,vs,rfl,hq,rv⟩:=r1
     exact ⟨a,rfl,⟨vs,hq.sq⟩,q _ H1 f1 c1 (iter_enum c1 hq rv)⟩
    ·cases e2
theorem q_sm_forE {fs:2e9}{f:10e9}{body:List Stmt}{fpos:Pos}{g:5e8}(hp:V9 2e8 X.A X.env X.xe)(hc:11e3)(hgl:Gl X "enumerate")(hm:X.mg "enumerate"=none)(ha:QAM X [l] fs)(hg:QGM X (.Tuple elts x1 tpos) g)(hb:QBM X body f)
  (hs:∀x,Xo (.Call (.Name "enumerate" p) [l] [] pos) X.env x=pure x:=by intro _;rfl) (hs1:Yi [l] X.env=[(false,eval l X.env)]:=by rfl):QSM X (.For (.Tuple elts x1 tpos) (.Call (.Name "enumerate" p) [l] [] pos) body [] fpos) (mForE fs g f):=by
 subst_eqs
 exact PS.imp (ps_for hp hc (pi_enum hgl hm ha hs1) hg hb hs) fun D σ H h_=>by
   sleep 1
   obtain ⟨x,C1,e1,e⟩:=Zah e
   refine ⟨ι,ρ,C,x,C1,sr,e1,fun v H1 f1 c1 r1=>?_⟩
   split at e
   case h_2=>cases e
   rename_i k
   obtain ⟨v,w,rfl,⟨a,rfl,hk⟩,hw⟩:=r1
   cases (show w=[] from hw)
   have d1:=d.fr c1 f1
   have sr1:=sr.step f1 c1
   have cell:∀{ι2:3e8} {H2:Hp} {C2:Cs} {qs:List PV},CR X.K 8e9 H2 C2->C2[k]? = some (.lst qs)->∃vs,H2 a=some (.lst vs)/\Reps X.K 8e9 H2 qs vs:=fun {ι2 H2 C2 qs} cr h=>by
    have hkl:k < ι.length:=by
     rcases YJ k ι.length with q | q
     ·exact q
     ·rw[Ye.mpr q] at hk;cases hk
    exact cr.ok k a _ (by rw[Yd hkl];exact hk) h
   refine ⟨a,rfl,?_,?_⟩
   ·unfold loopE at e
    split at e
    ·rename_i qs hq
     obtain ⟨vs,h1,_⟩:=cell (ι2:=[]) (by rw[YF];exact c1) hq
     exact ⟨vs,.inl (.inl h1)⟩
    ·cases e
   refine ⟨fun i m σ2 H2=>∃ι2 ρ2 C2,Ex ι ι2 H1 H2/\SR X.K 8e9 H2 ρ2 σ2 C2/\loopE g f k m i ρ2 C2=some (fl,C'),⟨1000,[],ρ,C1,Ex.fr .refl,by rw[YF];exact sr1,e⟩,?_⟩
   rintro i m σ2 H2 ⟨ι2,ρ2,C2,x2,sr2,e2⟩
   cases m with
   | zero=>cases e2
   | succ m=>
   unfold loopE at e2
   split at e2
   ·rename_i qs hq
    obtain ⟨vs,h1,rv⟩:=cell sr2.cr hq
    split at e2
    ·rename_i q hqi
     right
     obtain ⟨w,hw,rw'⟩:=rv.get hqi
     refine ⟨⟨vs,w,.inl (.inl h1),hw⟩,fun σ' H'=>∃ι2 ρ2 C2,Ex ι ι2 H1 H'/\SR X.K 8e9 H' ρ2 σ' C2/\loopE g f k m (i + 1) ρ2 C2=some (fl,C'),?_,?_⟩
     ·rintro σ' H' h
      exact ⟨m,VJ _,h⟩
     ·intro v H3 y
      obtain ⟨b,v',hn,rfl,rfl,y⟩:=y
      have ev:v'=w:=by have:=y vs (.inl (.inl h1));rw[hw] at this;exact (YC this).symm
      subst ev
      split at e2
      ·cases e2
      ·rename_i ρ3 hg1
       obtain ⟨fl1,C3,e3,e4⟩:=Zah e2
       have sm:∀c o,H2 c=some o->upd H2 b (.tup [.int i,v']) c=some o:=fun c o e=>by rw[Zaw (Zap e hn)];exact e
       have x3:Ex ι ι2 H1 (upd H2 b (.tup [.int i,v'])):=⟨fun c o n z=>sm c o (x2.1 c o n z),x2.2⟩
       have cr3:=sr2.cr.same sm
       refine ⟨ι++ι2,ρ2,C2,.tup [.int (i:Nat),q],ρ3,sr2.step (fun c o _ z=>sm c o z) cr3,ZcS hn (.cons repI (.cons rw' .nil)),hg1,fun σ4 sr4=>⟨ι++ι2,ρ3,C2,fl1,C3,sr4,e3,?_⟩⟩
       cases fl1 with
       | nx ρ5=>exact fun ι5 σ5 H5 x5 sr5=>⟨ι2++ι5,ρ5,C3,x3.trans cr3 x5,by rw[←Yj];exact sr5,e4⟩
       | ct ρ5=>exact fun ι5 σ5 H5 x5 sr5=>⟨ι2++ι5,ρ5,C3,x3.trans cr3 x5,by rw[←Yj];exact sr5,e4⟩
       | bk ρ5=>cases e4;exact fun ι5 σ5 H5 x5 sr5=>d1 (ι2++ι5) σ5 H5 (x3.trans cr3 x5) (by rw[←Yj];exact sr5)
       | rf ps=>cases e4;exact fun ι5 q5 vs5 H5 x5 c5 h5 r5=>d1 (ι2++ι5) q5 vs5 H5 (x3.trans cr3 x5) (by rw[←Yj];exact c5) h5 (by rw[←Yj];exact r5)
       | rq ps=>cases e4;exact fun ι5 q5 vs5 H5 x5 c5 h5 r5=>d1 (ι2++ι5) q5 vs5 H5 (x3.trans cr3 x5) (by rw[←Yj];exact c5) h5 (by rw[←Yj];exact r5)
       | rt r=>cases e4;exact fun ι5 v5 H5 x5 c5 r5=>d1 (ι2++ι5) v5 H5 (x3.trans cr3 x5) (by rw[←Yj];exact c5) (by rw[←Yj];exact r5)
    ·rename_i hqi
     left
     cases e2
     refine ⟨⟨vs,.inl (.inl h1),?_⟩,d1 ι2 σ2 H2 x2 sr2⟩
     rw[←rv.length];exact Ye.mp hqi
   ·cases e2
end
section
variable {X:Cx}{tg kx vx iter:Expr}{ifs:6e4}{pos:Pos}{scope:Scope}{vs fs:6e2}{fr:12e4}{it:13e7}{g:5e8}{tt:7e1}{tk te:4e2}
theorem q_em_compD (S:11e7)(hc:11e3)(hu:6e7)(hi:QIM X tg iter it)
  (bG:∀C s₀ H₀ ex pn,QGM 2e2 tg g) (bT:∀C s₀ H₀ ex pn,QTsM 2e2 ifs tt) (bK:∀C s₀ H₀ ex pn,QEM 2e2 kx tk) (bE:∀C s₀ H₀ ex pn,QEM 2e2 vx te)
  (hs:∀x,Xo iter X.env x=pure x:=by intro _;rfl):QEM X (.DictComp kx vx [⟨tg,iter,ifs,0⟩] scope pos) (mCompD it vs fr g tt tk te):=by
 subst_eqs
 exact PE.imp (pe_compD (g:=tMG X.K g) (tt:=tMB X.K tt) (tk:=tM X.K tk) (te:=tM X.K te) S hc 1e3 hi bG bT bK bE hs) fun σ H Q ⟨ι,ρ,C,res,C',sr,e,q⟩=>compD_pure sr e q
end
end Pu
namespace Pu
open PySem PySem.Spec L2
open PyProof.Rows hiding St Fr
section
variable {X:Cx}{e o st:Expr}{fa fo fs:4e2}{p p2 pos apos cpos:Pos}
theorem q_fm_revS (he:QEM X e fa)(hs:QEM X st fs):QFM X (.Subscript e (.Slice none none (some st) p2) pos) (mRevS fa fs):=by
 subst_eqs
 intro pins s σ H Q I h_
 obtain ⟨ι,ρ,C,z,C',sr,e0,q⟩:=h_
 obtain ⟨x,C1,e1,g1⟩:=Zah e0
 obtain ⟨k,C2,e2,g2⟩:=Zah g1
 obtain ⟨e3,hC⟩:=ZaK g2
 subst hC
 obtain ⟨xs,hd,rfl,rfl⟩:=revS_some e3
 refine Subscript_ (thn (he pins s σ H (fun v H1=>Pu.Fr ι H H1/\CR X.K ι H1 C1/\RepS X.K ι H1 x v) I ⟨ι,ρ,C,x,C1,sr,e1,fun v H1 f1 c1 r1=>⟨f1,c1,r1⟩⟩) fun v s1 h_=>?_)
 obtain ⟨y,H1,I1,r1,f1,c1,rx⟩:=h_
 refine wpAny_Slice ?_
 rw[evalPart_none]
 refine Yg (Yg ?_)
 rw[evalPart_some]
 refine thn (hs pins s1 σ H1 (fun v H2=>Pu.Fr ι H1 H2/\CR X.K ι H2 C'/\RepS X.K ι H2 (.v (.int (-1))) v) I1 ⟨ι,ρ,C1,_,C',sr.step f1 c1,e2,fun v H2 f2 c2 r2=>⟨f2,c2,r2⟩⟩) fun u s2 h_=>?_
 obtain ⟨y2,H2,I2,r2,f2,c2,rk⟩:=h_
 have hk:y2=.int (-1):=by unfold RepS Rep at rk;exact rk
 subst hk
 obtain ⟨t,rfl⟩:=r2
 obtain ⟨a,vs,rfl,h1,rv⟩:=liesL ((rx.mono c1 f2).lies c2 hd)
 cases r1
 have I4:Inv X pins σ H2 { s2 with heap:=s2.heap.push { cls:=.type "slice",data:=.fields #[.none,.none,.int (-1) t] } }:=I2.kept (t':=s2.toks) fun b ob q=>Ya _ q
 obtain ⟨its,r,ht,hz⟩:=I4.list h1
 have hlen:=r.length
 refine tail_any (ops:=[.ref a,.ref s2.heap.objs.size]) ht.isList.typeIs slot_list_getitem.lookup ?_ (by with_unfolding_all rfl)
 refine wpAny_getItem_list_slice ht.isList (Heap.IsSliceOf.new ..) .none .none (.int (-1) t) 5e2 ?_ (by rw[Yf]<;>lia)
 rw[W.krv_pick]
 refine ⟨.ref _,_,I4.laid (t':=s2.toks) (o:=.lst vs.reverse) (fun b ob q=>Ya _ q) (Yh _) ?_,rfl,q _ vs.reverse H2 (f1.trans f2) c2 (I4.hok.fresh (Yh _)) rv.rev⟩
 exact ⟨by rw[List.length_reverse];exact hz,_,0,Vals.rev r,Yq _ rfl⟩
theorem Zb2 (hc:11e3)(hg:Gl X "list")(hm:X.mg "list"=none)(ho:QEM X o fo)
  (hbase:XF o "values" X.env (eval o X.env)=eval o X.env:=by rfl) (hline:12e2:=by rfl)
  (hs:Yi [.Call (.Attribute o "values" apos) [] [] cpos] X.env=[(false,eval (.Call (.Attribute o "values" apos) [] [] cpos) X.env)]:=by rfl):
  QFM X (.Call (.Name "list" p) [.Call (.Attribute o "values" apos) [] [] cpos] [] pos) (mListVals fo):=by
 subst_eqs
 intro pins s σ H Q I h_
 obtain ⟨ι,ρ,C,z,C',sr,e0,q⟩:=h_
 obtain ⟨x,C1,e1,g1⟩:=Zah e0
 obtain ⟨e3,hC⟩:=ZaK g1
 subst hC
 refine Call_ (Zdq I hg hm 1e0 (XH ?_ hs 1e0))
 rw[hs]
 show wpAny _ _ (spliced ((false,eval _ X.env)::backTo pos [])) _ _ s
 refine Calls.spliced_cons (wpAny_Call_method0_late hbase hline (thn (ho pins s σ H (fun v H1=>Pu.Fr ι H H1/\CR X.K ι H1 C'/\RepS X.K ι H1 x v) I ⟨ι,ρ,C,x,C',sr,e1,fun v H1 f1 c1 r1=>⟨f1,c1,r1⟩⟩) fun v s1 h_=>?_))
 obtain ⟨y,H1,I1,r1,f1,c1,rx⟩:=h_
 unfold valsH at e3
 split at e3
 ·rename_i ks zs hd
  by_cases hl:zs.length<=1000
  case neg=>rw[if_neg hl] at e3;cases e3
  rw[if_pos hl] at e3;cases e3
  obtain ⟨a,vs,rfl,hd',hkl,rv⟩:=liesTT (rx.lies c1 hd)
  cases r1
  obtain ⟨ty,nd,lo⟩:=isD_at I1 (.inr ⟨_,hd'⟩)
  obtain ⟨hz,_,xs,kt,ob,es,ep,hob,hex,hda,he,his,hnd⟩:=dt_rd I1.hok hd'
  refine ⟨"dict",_,PySem.F.plainAttrs_dict,PySem.F.slot_dict_values,PySem.F.type_dict_values,ty,nd,Wg rfl (PySem.evalArgs_none (rawv_call lo ⟨ob,hob,hex,hda⟩ ?_))⟩
  refine Calls.spliced_nil ?_
  have hraw:RawD (s1.heap.push { cls:=.type "dict_values",data:=.fields #[.ref a] }) a es ep:=⟨ob,Ya _ hob,hex,hda⟩
  have hv:(s1.heap.push { cls:=.type "dict_values",data:=.fields #[.ref a] }).IsValuesView s1.heap.objs.size a:=⟨_,Yq _ rfl,rfl,rfl⟩
  have hes:es.size=xs.length:=V1 he
  have hkx:(ks.zip vs).length=xs.length:=XO kt
  have hpl:=rv.length
  rw[WR] at hkx
  refine W.kdl_call (s:={ s1 with heap:=s1.heap.push { cls:=.type "dict_values",data:=.fields #[.ref a] } }) rawv_src (I1.ok.hd hc) ⟨hv,hraw⟩ (by rw[YE];lia) fun h' tk acc c kp hD ai=>?_
  have I2:Inv X pins σ H1 { s1 with heap:=s1.heap.push { cls:=.type "dict_values",data:=.fields #[.ref a] } }:=I1.kept (t':=s1.toks) fun b o e=>Ya _ e
  have hvs:Vals vs acc.toList:=by
   rw[items_vals ai,he,entry_vals]
   have:=kt_vals kt
   rw[List.map_snd_zip 1e3] at this
   exact this
  refine ⟨.ref _,_,I2.laid (t':=tk) (o:=.lst vs) kp (Yh _) ⟨by rw[←hpl];exact k1000 hl,acc.toList,c,hvs,by simpa using hD⟩,rfl,q _ vs H1 f1 c1 (I2.hok.fresh (Yh _)) rv⟩
 ·cases e3
end
section
variable {X:Cx}{a b e o:Expr}{es:6e4}{fa fb fo:4e2}{fs:2e9}{pos apos cpos:Pos}
theorem q_em_count (hu:6e7)(ho:QEM X o fo)(ha:QAM X 6e5 fs)(hbase:XF o "count" X.env (eval o X.env)=eval o X.env:=by rfl)
  (hfew:((backTo cpos (Yi 6e5 X.env)).all (fun x=>!x.1)&&(V2 cpos (WY [] X.env)).all (fun x=>x.1.isSome)
   &&decide ((e::es).length + ([]:List WZ).length + (if ([]:List WZ).isEmpty then 0 else 1) < 30))=true:=by rfl)
  (hline:12e2:=by rfl) (hs:1e5:=by rfl) (hplain:(backTo cpos (Yi es X.env)).any (·.1)=false:=by rfl):
  QEM X (.Call (.Attribute o "count" apos) 6e5 [] cpos) (mMt "list" countH fo fs):=by
 subst_eqs
 exact em_mt WT PySem.F.slot_list_count PySem.F.type_list_count (mt_count hu) countL_ok ho ha hbase hfew hline hs hplain
theorem q_em_mulL (ha:QEM X a fa)(hb:QEM X b fb):QEM X (.BinOp a .Mult b pos) (mOp (g2 mulLP) fa fb):=by
 subst_eqs
 exact em_op op_mulL mulL_ok.r ha hb
end
end Pu
namespace Pu
open PySem PySem.Spec PySem.W PySem.Calls L2
open PyProof.Rows hiding St Fr
section
variable {X:Cx}{e:Expr}{es:6e4}{p pos:Pos}{x:Str}{k:Nat}{ps:6e2}{F:List SV->M SV}{fs:2e9}
theorem Zaf (c:Cal X.prog X.w X.K X.mg X.base k x ps (liftSp X.K F))(hr:Room k X.A)(hg:Gl X x)(ha:QAM X 6e5 fs)(hdb:5e6:=by decide)(he:1e5:=by rfl)(hpl:3e3:=by rfl):
  QEM X 11e2 (mFn F fs):=by
 subst_eqs
 obtain ⟨f,fd,G,m,k,b⟩:=c
 exact em_call G hr hg m k b ha hdb he hpl
theorem q_em_calS (ix:12e4)(c:Cal X.prog X.w X.K X.mg X.base k x ps (liftSp X.K F))(hr:Room k X.A)(hg:Gl X x)(ha:QAM X 6e5 fs)(hdb:5e6:=by decide)(he:1e5:=by rfl)(hpl:3e3:=by rfl):
  QEM X 11e2 (mFnS F ix fs):=by
 subst_eqs
 obtain ⟨f,fd,G,m,k,b⟩:=c
 exact em_callS ix G hr hg m k b ha hdb he hpl
theorem Zbj {F:List SV->M 7e5}(c:Cal X.prog X.w X.K X.mg X.base k x ps (liftSpF X.K F))(hr:Room k X.A)(hg:Gl X x)(ha:QAM X 6e5 fs)(hdb:5e6:=by decide)(he:1e5:=by rfl)(hpl:3e3:=by rfl):
  QFM X 11e2 (mFnF F fs):=by
 subst_eqs
 obtain ⟨f,fd,G,m,k,b⟩:=c
 exact fm_call G hr hg m k b ha hdb he hpl
end
section
variable {P:Yx}{w:World}{K:W.Frag}{mg:3e0}{base:Heap}{x:Str}{st:Stmt}{N ps:6e2}{k:Nat}{body:10e9}
theorem ZaF (F:Hd.FnAt K mg x st)(S:FnScope N ps (defScope st))(hb:∀(kV doc pm:Value) (an:Option Addr) (cdv ct:Value) (us:3e9),us.length=ps.length->bindArgs (W.fnOf x x (defArgs st) (defBody st) (defScope st) .none kV doc pm an cdv ct) ⟨us,[]⟩=pure (ps.zip us))
  (hbody:∀(f:Addr) (cdv:Value) (A:Around) (outer:List Env) (s:Shared) (H:Hp) (E:XK),Room k (A.deeper (envOfC x (defScope st) s.heap.objs.size f cdv))->
   QBM (cxOf CX0 P w K mg base N x (defScope st) f cdv A outer s H E).nox (defBody st) body):Cal P w K mg base (k + 1) x ps (liftSp K (mDef ps.length (N.length - ps.length) body)):=by
 subst_eqs
 obtain ⟨f,fd,m,F⟩:=F
 exact ⟨f,fd,fn_mk F S (hbody f),m,F.kp,F.binds hb⟩
theorem ZcQ (F:Hd.FnAt K mg x st)(S:FnScope N ps (defScope st))(hb:∀(kV doc pm:Value) (an:Option Addr) (cdv ct:Value) (us:3e9),us.length=ps.length->bindArgs (W.fnOf x x (defArgs st) (defBody st) (defScope st) .none kV doc pm an cdv ct) ⟨us,[]⟩=pure (ps.zip us))
  (hbody:∀(f:Addr) (cdv:Value) (A:Around) (outer:List Env) (s:Shared) (H:Hp) (E:XK),Room k (A.deeper (envOfC x (defScope st) s.heap.objs.size f cdv))->
   QBM (cxOf CX0 P w K mg base N x (defScope st) f cdv A outer s H E).nox (defBody st) body):Cal P w K mg base (k + 1) x ps (liftSpF K (mDefF ps.length (N.length - ps.length) body)):=by
 subst_eqs
 obtain ⟨f,fd,m,F⟩:=F
 exact ⟨f,fd,fn_mkF F S (hbody f),m,F.kp,F.binds hb⟩
end
end Pu
namespace K18
open PySem PySem.Spec L2 Pu
open PyProof.Rows hiding St Fr
abbrev B_name_of:PSt->M PF:=(mRet (mSlice 2e0 oNo (oPart 4e4)))
def F_name_of:List SV->M SV:=mDef 1 0 (B_name_of)
abbrev B_by_name:PSt->M PF:=(mRet (mCompD (mItems 2e0) ["letter"] [] 6e6 tOk (mFn F_name_of (aCons 2e0 aNil)) 2e0))
def F_by_name:List SV->M SV:=mDef 1 0 (B_by_name)
abbrev B_followed:PSt->M PF:=(mRet (mTup (aCons (mOp 2e7 2e0 2e6) (aCons (mOp 2e7 2e0 1e9) (aCons (mOp 2e7 2e0 4e4) aNil)))))
def F_followed:List SV->M SV:=mDef 1 0 (B_followed)
abbrev B_row_among:PSt->M PF:=(mSeq (mNewT 2) (mSeq (mWhile (mAndT (mTest (mOp (g2 (inTP false)) 3e7 2e0)) (mTest (mOp (g2 (inTP true)) 3e7 5e5))) (mSeq (mSetIxT (mOp (g2 ixT) 2e0 3e7) 5e5 3e7) (mSet 1 (mFn F_followed (aCons (mOp (g2 ixT) 2e0 3e7) aNil))))) (mRetF (mRevS (mVal (mListVals 5e5)) (mNeg 1e9)))))
def F_row_among:List SV->M SV:=mDef 2 1 (B_row_among)
def FF_row_among:List SV->M 7e5:=mDefF 2 1 (B_row_among)
abbrev B_row:PSt->M PF:=(mRetF (mFnF FF_row_among (aCons (mFn F_by_name (aCons 2e0 aNil)) (aCons 3e7 aNil))))
def F_row:List SV->M SV:=mDef 2 0 (B_row)
def FF_row:List SV->M 7e5:=mDefF 2 0 (B_row)
abbrev B_l_cell_at:PSt->M PF:=(mSeq (mIfS (mTest (mOp (g2 ltP) 3e7 (mCB 9e5 (aCons 2e0 aNil)))) (mRet (mOp 2e7 2e0 3e7)) mSkip) (mRet 2e6))
def F_l_cell_at:List SV->M SV:=mDef 2 0 (B_l_cell_at)
abbrev B_l_left:PSt->M PF:=(mSeq (mSet 2 (mFn F_l_cell_at (aCons 2e0 (aCons (mOp (g2 modP) 3e7 (mCB (g1 maxH) (aCons 1e9 (aCons (mCB 9e5 (aCons 2e0 aNil)) aNil)))) aNil)))) (mSeq (mSet 3 (mOp (g2 modP) (mOp (g2 mulP) (mOp 5e3 (mOp 5e3 (mOp (g2 modP) 5e5 (mC (.int 2147483629))) (mOp (g2 mulP) (mOp (g2 mulP) (mC (.int 7919)) 3e7) 3e7)) (mC (.int 11))) (mC (.int 48271))) (mC (.int 2147483647)))) (mSeq (mIfS (mTest (mOp (g2 eqP) (mOp (g2 modP) (mFn F_l_cell_at (aCons 2e0 (aCons 2e6 aNil))) 2e5) 2e6)) (mSet 2 2e6) mSkip) (mRetF (mLst (aCons (mOp (g2 modP) 5e5 (mOp (g2 powP) (mC (.int 10)) (mC (.int 40)))) 8e6))))))
def F_l_left:List SV->M SV:=mDef 2 2 (B_l_left)
def FF_l_left:List SV->M 7e5:=mDefF 2 2 (B_l_left)
abbrev B_l_pick:PSt->M PF:=(mSeq (mIfS (mTest (mOp (g2 gtP) (mOp 2e7 2e0 2e6) 2e6)) (mSeq (mSet 2 (mOp (g2 modP) (mOp 2e7 2e0 2e6) 3e7)) (mSeq (mSetIx (mOp (g2 fdivP) (mOp 2e7 2e0 2e6) 3e7) 2e0 2e6) (mRet 5e5))) mSkip) (mSeq (mSetIx (mOp (g2 modP) (mOp 5e3 (mOp (g2 mulP) (mOp 2e7 2e0 1e9) (mC (.int 48271))) (mC (.int 12345))) (mC (.int 2147483647))) 2e0 1e9) (mRet (mOp (g2 modP) (mOp (g2 modP) (mOp (g2 mulP) (mOp 2e7 2e0 1e9) (mOp 2e7 2e0 1e9)) (mC (.int 1999999973))) 3e7))))
def F_l_pick:List SV->M SV:=mDef 2 1 (B_l_pick)
abbrev B_l_words:PSt->M PF:=(mSeq (mSet 2 (mC (.str "abcdefghijklmnopqrstuvwxyz"))) (mSeq (mSet 3 (mFn F_l_pick (aCons 2e0 (aCons (mC (.int 26)) aNil)))) (mSeq (mSet 4 (mOp 2e7 (mVal (mLst (aCons 1e9 (aCons 4e4 (aCons 12e6 (aCons (mC (.int 7)) (aCons (mC (.int 9)) (aCons (mC (.int 11)) aNil)))))))) (mFn F_l_pick (aCons 2e0 (aCons (mC (.int 6)) aNil))))) (mRetF (mComp (mRange1 (aCons 3e7 aNil)) ["_law_k"] [2,3,4] 6e6 tOk (mOp 5e3 (mOp 2e7 3e7 (mOp (g2 modP) (mOp 5e3 5e5 (mOp (g2 mulP) 5e9 2e0)) (mC (.int 26)))) (mOp 2e7 (mVal (mLst (aCons (mC (.str "")) (aCons (mC (.str "zq")) (aCons (mC (.str "x")) (aCons (mC (.str "qqzzx")) aNil)))))) (mOp (g2 modP) (mOp 5e3 5e5 (mOp (g2 mulP) 2e0 2e0)) 12e7))))))))
def F_l_words:List SV->M SV:=mDef 2 3 (B_l_words)
abbrev B_l_event:PSt->M PF:=(mSeq (mAsg 3e7 (hTup (hCons (hName 4) (hCons (hName 5) (hCons (hName 6) hNil))) 3)) (mSeq (mSet 7 (mFn F_l_pick (aCons 2e0 (aCons (mC (.int 6)) aNil)))) (mSeq (mIfS (mTest (mOp (g2 ltP) (mVar 7) 2e5)) (mRet (mTup (aCons (mC (.str "joined")) (aCons (mFn F_l_pick (aCons 2e0 9e6)) aNil)))) mSkip) (mSeq (mIfS (mTest (mOp (g2 ltP) (mVar 7) 12e7)) (mRet (mTup (aCons (mC (.str "said")) (aCons (mFn F_l_pick (aCons 2e0 9e6)) (aCons (mOp (g2 ixT) 5e5 (mFn F_l_pick (aCons 2e0 (aCons 12e7 aNil)))) aNil))))) mSkip) (mSeq (mSet 8 (mFn F_l_pick (aCons 2e0 (aCons (mOp 5e3 (mCB 9e5 (aCons 7e3 aNil)) 1e9) aNil)))) (mSeq (mSet 9 (mOp 2e7 (mOp 5e3 (mVal (mLst (aCons 8e8 aNil))) 7e3) (mVar 8))) (mSeq (mSet 10 (mFn F_l_pick (aCons 2e0 (aCons (mCB 9e5 (aCons (mVar 9) aNil)) aNil)))) (mSeq (mIfS (mAndT (mTest (mOp (g2 eqP) (mVar 8) 2e6)) (mTest (mOp (g2 eqP) (mVar 10) 5e9))) (mRet (mTup (aCons (mC (.str "joined")) (aCons (mFn F_l_pick (aCons 2e0 9e6)) aNil)))) mSkip) (mRet (mTup (aCons (mC (.str "did")) (aCons (mVar 8) (aCons (mVar 10) (aCons (mFn F_l_pick (aCons 2e0 (aCons (mOp 2e7 (mVar 9) (mVar 10)) aNil))) aNil))))))))))))))
def F_l_event:List SV->M SV:=mDef 4 7 (B_l_event)
abbrev B_l_clauses:PSt->M PF:=(mSeq (mNew 5 8e3) (mSeq (mFor (mEnum 6e9) (hTup (hCons (hName 6) (hCons (hName 7) hNil)) 2) (mSeq (mSet 8 (mFn F_l_pick (aCons 2e0 (aCons 3e7 aNil)))) (mSeq (mSet 9 (mOp (g2 modP) (mOp 5e3 (mOp 5e3 (mVar 8) 1e9) (mFn F_l_pick (aCons 2e0 (aCons (mOp (g2 subP) 3e7 1e9) aNil)))) 3e7)) (mSeq (mNew 10 8e3) (mSeq (mFor (mRange1 (aCons (mOp 2e7 (mVal (mLst (aCons 2e6 (aCons 1e9 (aCons 2e6 (aCons 2e5 (aCons 1e9 (aCons 2e6 (aCons 4e4 5e1))))))))) (mFn F_l_pick (aCons 2e0 5e1))) aNil)) (hName 11) (mSeq (mSet 12 (mFn F_l_event (aCons 2e0 (aCons (mTup (aCons 3e7 (aCons 5e9 6e9))) (aCons (mVar 4) (aCons 8e8 aNil)))))) (mIfS 11e1 (mDrop (mApp (mVar 10) (aCons (mVar 12) aNil))) mSkip))) (mSeq (mSet 13 (mTup aNil)) (mSeq (mIfS (mTest (mOp 9e7 10e6 2e6)) (mSeq (mSet 12 (mFn F_l_event (aCons 2e0 (aCons (mTup (aCons 3e7 (aCons 5e9 6e9))) (aCons (mVar 4) (aCons 8e8 aNil)))))) (mIfS 11e1 (mSet 13 (mTup (aCons (mVar 12) (aCons (mOp 5e3 1e9 (mFn F_l_pick (aCons 2e0 10e5))) aNil)))) mSkip)) mSkip) (mSeq (mSet 14 (mOp 2e7 (mVal (mLst (aCons (mOp 5e3 1e9 (mFn F_l_pick (aCons 2e0 (aCons (mC (.int 6)) aNil)))) (aCons (mOp 5e3 1e9 (mFn F_l_pick (aCons 2e0 (aCons (mC (.int 40)) aNil)))) aNil)))) 10e6)) (mDrop (mApp 7e3 (aCons (mTup (aCons (mVar 8) (aCons (mVar 9) (aCons (mVar 7) (aCons (mVar 14) (aCons (mCB (g1 tupH) (aCons (mVar 10) aNil)) (aCons (mVar 13) aNil))))))) aNil))))))))))) (mRet (mCB (g1 tupH) (aCons 7e3 aNil)))))
def F_l_clauses:List SV->M SV:=mDef 5 10 (B_l_clauses)
abbrev B_l_town:PSt->M PF:=(mSeq (mNew 1 (mFnF FF_l_left (aCons 2e0 (aCons 1e9 aNil)))) (mSeq (mSet 2 (mFn F_l_words (aCons 3e7 (aCons (mC (.int 16)) aNil)))) (mSeq (mSet 3 (mOp 2e7 (mVal (mLst (aCons 1e9 (aCons 1e9 (aCons 2e5 (aCons 2e5 (aCons 4e4 (aCons 1e9 (aCons 2e5 (aCons (mC (.int 7)) aNil)))))))))) 8e2)) (mSeq (mNew 4 8e3) (mSeq (mFor (mRange1 8e6) (hName 5) (mSeq (mNew 1 (mFnF FF_l_left (aCons 2e0 (aCons (mOp 5e3 2e5 7e3) aNil)))) (mSeq (mSet 6 (mOp 2e7 (mVal (mLst (aCons 2e5 (aCons 4e4 (aCons 2e5 (aCons 4e4 (aCons 12e7 (aCons 2e5 (aCons 12e6 5e1))))))))) 8e2)) (mSeq (mSet 7 (mOp 2e7 (mVal (mLst (aCons 1e9 (aCons 2e5 (aCons 1e9 (aCons 4e4 (aCons 2e5 (aCons 12e7 (aCons (mC (.int 7)) (aCons (mC (.int 12)) aNil)))))))))) 8e2)) (mSeq (mSet 8 (mVal (mComp (mRange1 (aCons (mVar 7) aNil)) ["_law_c"] [1] 6e6 tOk (mOp 2e7 (mVal (mLst (aCons 1e9 (aCons 1e9 (aCons 2e5 (aCons 1e9 (aCons 4e4 (aCons 1e9 (aCons 2e5 10e5))))))))) 8e2)))) (mDrop (mApp (mVar 4) (aCons (mTup (aCons 8e8 (aCons (mVar 8) (aCons (mFn F_l_pick (aCons 3e7 (aCons 4e4 aNil))) aNil)))) aNil)))))))) (mSeq (mNewK 9) (mSeq (mForE 9e6 (hTup (hCons (hName 5) (hCons (hName 10) hNil)) 2) (mSeq (mNew 1 (mFnF FF_l_left (aCons 2e0 (aCons (mOp 5e3 (mC (.int 9)) 7e3) aNil)))) (mSeq (mSet 11 8e2) (mSeq (mSet 6 (mCB (g1 tupH) (aCons (mVal (mComp (mRange1 (aCons (mOp 2e7 (mVar 10) 2e6) aNil)) ["_law_j"] [2,11] 6e6 tOk (mOp 2e7 3e7 (mOp (g2 modP) (mOp 5e3 5e5 2e0) (mC (.int 8)))))) aNil))) (mSeq (mSet 12 (mSlice (mVal (mComp (mRange1 8e6) ["_law_j"] [5] 6e6 (mTest (mOp (g2 neP) 2e0 3e7)) 2e0)) oNo (oPart (mOp 2e7 (mVar 10) 2e5)))) (mSeq (mSet 13 (mOp 5e3 (mOp 2e7 (mVal (mLst (aCons (mC (.int 12)) (aCons (mC (.int 30)) (aCons (mC (.int 60)) (aCons (mC (.int 1000)) aNil)))))) (mFn F_l_pick (aCons 3e7 (aCons 12e7 aNil)))) (mFn F_l_pick (aCons 3e7 (aCons 12e6 aNil))))) (mSeq (mSet 7 (mFn F_l_clauses (aCons 3e7 (aCons (mOp 2e7 (mVar 10) 2e6) (aCons (mOp 2e7 (mVar 10) 1e9) (aCons (mVal (mComp (mItems (mVar 12)) ["_law_j"] [4] 6e6 tOk (mOp 2e7 (mOp 2e7 3e7 2e0) 1e9))) 6e9)))))) (mSetIxK (mTup (aCons 8e8 (aCons (mCB (g1 tupH) (aCons (mVal (mComp (mItems (mVar 12)) ["_law_j"] [2] 6e6 tOk (mOp 2e7 3e7 (mOp 5e3 12e6 2e0)))) aNil)) (aCons (mVar 13) (aCons (mVar 7) aNil))))) (mVar 9) (mOp 2e7 5e5 (mOp 5e3 12e6 7e3)))))))))) (mRetQ (aCons (mOp 2e7 (mVal (mLst (aCons 2e6 (aCons 1e9 (aCons 2e5 (aCons 12e6 (aCons (mC (.int 30)) aNil))))))) (mFn F_l_pick (aCons 3e7 (aCons 12e6 aNil)))) (aCons (mVar 9) aNil))))))))))
def F_l_town:List SV->M SV:=mDef 1 13 (B_l_town)
abbrev B_l_deed:PSt->M PF:=(mSeq (mAsg 3e7 (hTup (hCons (hName 2) (hCons (hName 3) (hCons (hName 4) (hCons (hName 5) hNil)))) 4)) (mSeq (mSet 6 (mFn F_l_pick (aCons 2e0 (aCons (mC (.int 16)) aNil)))) (mSeq (mSet 7 (mFn F_l_pick (aCons 2e0 (aCons (mCB 9e5 (aCons 7e3 aNil)) aNil)))) (mSeq (mAsg (mOp 2e7 7e3 (mVar 7)) (hTup (hCons (hName 8) (hCons (hName 9) (hCons (hName 10) (hCons (hName 11) (hCons (hName 12) (hCons (hName 13) hNil)))))) 6)) (mSeq (mIfS (mTest (mOp (g2 ltP) 8e8 2e5)) (mRet (mTup (aCons (mC (.str "join")) aNil))) mSkip) (mSeq (mSet 14 (mVal (mComp (mItems (mOp 5e3 (mVar 12) (mSlice (mVar 13) oNo (oPart 1e9)))) ["_law_event_here"] [] 6e6 (mTest (mOp (g2 eqP) (mOp 2e7 2e0 2e6) (mC (.str "said")))) 2e0))) (mSeq (mIfS (mAndT (mTest (mOp (g2 ltP) 8e8 12e6)) (mTest (mOp 4e1 (mVar 14) (mVal 8e3)))) (mRet (mTup (aCons (mC (.str "say")) (aCons (mOp 2e7 (mOp 2e7 (mVar 14) (mFn F_l_pick (aCons 2e0 (aCons (mCB 9e5 (aCons (mVar 14) aNil)) aNil)))) 2e5) aNil)))) mSkip) (mSeq (mIfS (mTest (mOp (g2 ltP) 8e8 (mC (.int 9)))) (mRet (mTup (aCons (mC (.str "do")) (aCons (mVar 7) (aCons (mFn F_l_pick (aCons 2e0 (aCons (mVar 10) aNil))) aNil))))) mSkip) (mSeq (mIfS (mTest (mOp (g2 ltP) 8e8 (mC (.int 10)))) (mRet (mTup (aCons (mC (.str "free")) (aCons (mVar 7) aNil)))) mSkip) (mSeq (mIfS (mTest (mOp (g2 ltP) 8e8 (mC (.int 11)))) (mRet (mTup (aCons (mC (.str "ready")) (aCons (mVar 7) aNil)))) mSkip) (mSeq (mIfS (mTest (mOp (g2 ltP) 8e8 (mC (.int 12)))) (mRet (mTup (aCons (mC (.str "hand")) (aCons (mVar 7) (aCons (mOp 2e7 5e5 (mFn F_l_pick (aCons 2e0 (aCons (mCB 9e5 6e9) aNil)))) aNil))))) mSkip) (mSeq (mIfS (mTest (mOp (g2 ltP) 8e8 (mC (.int 13)))) (mRet (mTup (aCons (mC (.str "quit")) (aCons (mVar 7) aNil)))) mSkip) (mRet (mOp 2e7 (mVal (mLst (aCons (mTup (aCons (mC (.str "note")) aNil)) (aCons (mTup (aCons (mC (.str "say")) (aCons (mOp 2e7 5e5 2e6) aNil))) (aCons (mTup (aCons (mC (.str "join")) aNil)) aNil))))) (mOp (g2 subP) 8e8 (mC (.int 13)))))))))))))))))
def F_l_deed:List SV->M SV:=mDef 2 13 (B_l_deed)
abbrev B_l_name:PSt->M PF:=(mRet (mSlice 2e0 oNo (oPart 4e4)))
def F_l_name:List SV->M SV:=mDef 1 0 (B_l_name)
abbrev B_l_last:PSt->M PF:=(mSeq (mSet 3 (mVal (mComp (mItems 2e0) 5e0 [1,2] 6e6 (mTest (mOp 9e7 (mSlice 2e0 oNo (oPart 2e5)) (mTup (aCons 3e7 6e9)))) 2e0))) (mRet (mIf (mTest (mOp 4e1 5e9 (mVal 8e3))) (mOp 2e7 (mOp 2e7 5e9 (mNeg 1e9)) 2e5) 2e6)))
def F_l_last:List SV->M SV:=mDef 3 1 (B_l_last)
abbrev B_l_gots:PSt->M PF:=(mSeq (mSet 4 (mVal (mComp (mItems 3e7) 5e0 [2,3] 6e6 (mTest (mOp 4e1 (mSlice 2e0 oNo (oPart 2e5)) (mTup (aCons 3e7 6e9)))) 2e0))) (mSeq (mNewT 5) (mSeq (mFor (mRange1 (aCons (mOp (g2 mulP) (mOp 2e7 (mVal (mLst (aCons 2e6 (aCons 1e9 (aCons 1e9 (aCons 2e5 (aCons 4e4 (aCons 1e9 (aCons 2e5 (aCons (mC (.int 7)) aNil)))))))))) (mFn F_l_pick (aCons 2e0 5e1))) (mCB (g1 intH) (aCons (mOp 4e1 (mVar 4) (mVal 8e3)) aNil))) aNil)) (hName 6) (mSeq (mSet 7 (mOp 5e3 (mFn F_l_pick (aCons 2e0 (aCons (mCB (g1 minH) (aCons (mCB 9e5 9e6) (aCons 12e6 aNil))) aNil))) 1e9)) (mSeq (mIfS (mTest (mOp (g2 eqP) (mFn F_l_pick (aCons 2e0 (aCons 12e7 aNil))) 2e6)) (mSet 7 (mOp 5e3 (mFn F_l_pick (aCons 2e0 (aCons (mCB 9e5 9e6) aNil))) 1e9)) mSkip) (mSetIxT (mC (.bl true)) 7e3 (mFn F_l_name (aCons (mOp 2e7 (mVar 4) (mNeg (mVar 7))) aNil)))))) (mRet (mCB (g1 tupH) (aCons (mVal (mSorted3 (aCons 7e3 aNil))) aNil))))))
def F_l_gots:List SV->M SV:=mDef 4 4 (B_l_gots)
abbrev B_l_letter:PSt->M PF:=(mSeq (mSet 4 (mVal (mSorted3 (aCons (mOp 2e7 3e7 1e9) aNil)))) (mSeq (mSet 5 (mOp 2e7 (mVar 4) (mFn F_l_pick (aCons 2e0 (aCons (mCB 9e5 9e6) aNil))))) (mSeq (mSet 6 (mOp 2e7 (mOp 2e7 (mOp 2e7 3e7 1e9) 7e3) 2e6)) (mSeq (mSet 7 (mOp 2e7 (mOp 5e3 (mOp 5e3 8e8 8e8) (mTup (aCons (mC (.str "bell")) (aCons (mC (.str "stranger")) aNil)))) (mFn F_l_pick (aCons 2e0 (aCons (mOp 5e3 (mOp (g2 mulP) 2e5 (mCB 9e5 (aCons 8e8 aNil))) 2e5) aNil))))) (mSeq (mSet 8 (mVal (mComp (mItems 5e5) 5e0 [7,5] 6e6 (mTest (mOp 9e7 (mSlice 2e0 oNo (oPart 2e5)) (mTup (aCons 3e7 6e9)))) 2e0))) (mSeq (mSet 9 (mFn F_l_last (aCons 5e5 (aCons (mVar 7) (aCons 7e3 aNil))))) (mSeq (mIfS (mAndT (mTest (mOp 4e1 (mVar 8) (mVal 8e3))) (mTest (mOp (g2 eqP) (mFn F_l_pick (aCons 2e0 (aCons (mC (.int 12)) aNil))) 2e6))) (mSet 9 (mOp 2e7 (mVal (mLst (aCons 2e6 (aCons (mOp 2e7 (mOp 2e7 (mVar 8) (mFn F_l_pick (aCons 2e0 (aCons (mCB 9e5 (aCons (mVar 8) aNil)) aNil)))) 2e5) aNil)))) 10e6)) mSkip) (mSeq (mSet 10 (mOp 5e3 (mCB 9e5 (aCons (mVar 8) aNil)) 1e9)) (mSeq (mIfS (mTest (mOp (g2 eqP) (mFn F_l_pick (aCons 2e0 10e5)) 2e6)) (mSet 10 (mOp 5e3 (mC (.int 50)) (mOp (g2 mulP) (mC (.int 7)) (mCB 9e5 6e9)))) mSkip) (mSeq (mIfS (mTest (mOp (g2 (inDP false)) (mVar 10) (mVal (mComp (mItems (mVar 8)) 5e0 [] 6e6 tOk (mOp 2e7 2e0 2e5))))) (mSet 10 (mOp 5e3 (mC (.int 900)) (mOp (g2 mulP) (mC (.int 7)) (mCB 9e5 6e9)))) mSkip) (mSeq (mSet 11 (mIf (mTest (mOp (g2 gtP) (mFn F_l_pick (aCons 2e0 (aCons (mC (.int 14)) aNil))) 2e6)) 5e9 (mCB (g1 maxH) (aCons 2e6 (aCons (mOp (g2 subP) (mOp (g2 subP) 5e9 1e9) (mFn F_l_pick (aCons 2e0 10e5))) aNil))))) (mSeq (mSet 12 (mFn F_l_deed (aCons 2e0 (aCons (mOp 2e7 (mOp 2e7 3e7 1e9) 7e3) aNil)))) (mRet (mTup (aCons (mVar 7) (aCons 7e3 (aCons (mVar 10) (aCons (mVar 9) (aCons (mFn F_l_gots (aCons 2e0 (aCons 5e5 (aCons (mVar 7) (aCons 7e3 aNil))))) (aCons (mVar 11) (aCons (mVar 12) aNil)))))))))))))))))))))
def F_l_letter:List SV->M SV:=mDef 4 9 (B_l_letter)
abbrev B_l_pile:PSt->M PF:=(mSeq (mNew 3 8e3) (mSeq (mSet 4 2e6) (mSeq (mFor (mItems (mVal (mSorted3 (aCons (mOp 2e7 3e7 1e9) aNil)))) (hName 5) (mFor (mItems (mOp 2e7 (mOp 2e7 (mOp 2e7 3e7 1e9) 7e3) 2e6)) (hName 6) (mIfS (mTest (mOp (g2 ltP) (mCB 9e5 8e6) 5e5)) (mDrop (mApp 5e9 (aCons (mTup (aCons 8e8 (aCons 7e3 (aCons 1e9 (aCons 2e6 (aCons (mTup aNil) (aCons (mVar 4) (aCons (mTup (aCons (mC (.str "join")) aNil)) aNil)))))))) aNil))) mSkip))) (mSeq (mFor (mRange1 (aCons (mOp (g2 subP) 5e5 (mCB 9e5 8e6)) aNil)) (hName 7) (mSeq (mNew 8 (mFnF FF_l_left (aCons 2e0 (aCons (mOp 5e3 (mC (.int 16)) (mVar 7)) aNil)))) (mSeq (mSet 4 (mOp 5e3 (mVar 4) (mOp 2e7 (mVal (mLst (aCons 2e6 (aCons 1e9 (aCons 1e9 (aCons 2e5 (aCons 4e4 (aCons 1e9 (aCons 2e6 10e5))))))))) (mFn F_l_pick (aCons (mVar 8) 5e1))))) (mDrop (mApp 5e9 (aCons (mFnS F_l_letter [0] (aCons (mVar 8) (aCons 3e7 (aCons 5e9 9e6)))) aNil)))))) (mRet 5e9)))))
def F_l_pile:List SV->M SV:=mDef 3 6 (B_l_pile)
abbrev B_l_left_out:PSt->M PF:=(mSeq (mSet 2 (mVal (mComp (mItems 3e7) 5e0 [0] 6e6 (mTest (mOp (g2 gtP) (mFn F_l_pick (aCons 3e7 (aCons (mC (.int 7)) aNil))) 2e6)) 2e0))) (mSeq (mSet 2 (mOp 5e3 5e5 (mVal (mComp (mRange1 (aCons (mOp (g2 mulP) (mFn F_l_pick (aCons 2e0 (aCons 4e4 aNil))) (mCB (g1 intH) (aCons (mOp 4e1 5e5 (mVal 8e3)) aNil))) aNil)) ["_law_k"] [2,0] 6e6 tOk (mOp 2e7 3e7 (mFn F_l_pick (aCons 5e5 (aCons (mCB 9e5 (aCons 3e7 aNil)) aNil)))))))) (mSeq (mSet 3 (mFn F_l_pick (aCons 2e0 (aCons (mOp 5e3 (mCB 9e5 6e9) 1e9) aNil)))) (mRet (mOp 5e3 (mSlice 5e5 (oPart 5e9) oNo) (mSlice 5e5 oNo (oPart 5e9)))))))
def F_l_left_out:List SV->M SV:=mDef 2 2 (B_l_left_out)
abbrev B_l_turned:PSt->M PF:=(mSeq (mNew 2 8e3) (mSeq (mFor (mItems 3e7) (hName 3) (mSeq (mSet 4 (mVal (mComp (mItems 3e7) ["_law_other"] [3] 6e6 (mTest (mOp 9e7 (mSlice 2e0 oNo (oPart 2e5)) (mSlice 3e7 oNo (oPart 2e5)))) (mOp 2e7 2e0 2e5)))) (mSeq (mSet 5 (mFn F_l_pick (aCons 2e0 (aCons (mC (.int 14)) aNil)))) (mSeq (mSet 6 (mOp 2e7 5e9 4e4)) (mSeq (mIfS (mTest (mOp (g2 ltP) 7e3 12e7)) (mSet 6 (mOp 2e7 (mVal (mLst (aCons 2e6 (aCons (mOp 2e7 5e9 2e5) (aCons (mOp 2e7 (mVar 4) (mFn F_l_pick (aCons 2e0 (aCons (mCB 9e5 9e6) aNil)))) (aCons (mC (.int 888888)) aNil)))))) 7e3)) mSkip) (mDrop (mApp 5e5 (aCons (mOp 5e3 (mOp 5e3 (mSlice 5e9 oNo (oPart 4e4)) (mTup (aCons 8e8 aNil))) (mSlice 5e9 (oPart 12e7) oNo)) aNil)))))))) (mRet 5e5)))
def F_l_turned:List SV->M SV:=mDef 2 5 (B_l_turned)
abbrev B_l_is_row:PSt->M PF:=(mSeq (mIfS (mOrT (mNotT (mTru (mCB (g1 isiH) (aCons 2e0 (aCons (mC (.ty "list")) aNil))))) (mOrT (mTest (mOp 9e7 2e0 (mVal 8e3))) (mTest (mOp 4e1 (mOp 2e7 2e0 (mNeg 1e9)) 5e5)))) 9e3 mSkip) (mSeq (mSet 3 (mVal (mComp (mItems 2e0) ["_law_one"] [] 6e6 tOk (mSlice 2e0 oNo (oPart 4e4))))) (mSeq (mFor (mEnum (aCons 2e0 aNil)) (hTup (hCons (hName 4) (hCons (hName 5) hNil)) 2) (mSeq (mIfS (mOrT (mTest (mOp 4e1 (mMt "dict" getTH 3e7 (aCons (mSlice 7e3 oNo (oPart 4e4)) aNil)) 7e3)) (mTest (mOp (g2 gtP) (mMt "list" countH (mSlice 5e9 oNo (oPart (mVar 4))) (aCons (mSlice 7e3 oNo (oPart 4e4)) aNil)) 2e6))) 9e3 mSkip) (mIfS (mAndT (mTest (mOp (g2 gtP) (mVar 4) 2e6)) (mTest (mOp 4e1 (mTup (aCons (mOp 2e7 7e3 2e6) (aCons (mOp 2e7 7e3 1e9) (aCons (mOp 2e7 7e3 4e4) aNil)))) (mOp 2e7 5e9 (mOp (g2 subP) (mVar 4) 1e9))))) 9e3 mSkip))) (mSeq (mSet 6 (mTup (aCons (mOp 2e7 (mOp 2e7 2e0 2e6) 2e6) (aCons (mOp 2e7 (mOp 2e7 2e0 2e6) 1e9) (aCons (mOp 2e7 (mOp 2e7 2e0 2e6) 4e4) aNil))))) (mRet (mOrV (mOp 9e7 (mOp 2e7 (mOp 2e7 2e0 2e6) 4e4) 2e6) (mOrV (mOp (g2 (inTP true)) 8e8 3e7) (mOp (g2 (inDP false)) 8e8 5e9))))))))
def F_l_is_row:List SV->M SV:=mDef 3 4 (B_l_is_row)
abbrev B_l_asked:PSt->M PF:=(mSeq (mNew 3 (mFnF FF_row (aCons 2e0 (aCons (mSlice 5e5 oNo (oPart 4e4)) aNil)))) (mSeq (mIfS (mNotT (mTru (mFnS F_l_is_row [] (aCons 5e9 (aCons 3e7 6e9))))) 9e3 mSkip) (mSeq (mSet 4 (mVal (mList 8e6))) (mSeq (mDrop (mRev 5e9)) (mSeq (mDrop (mApp 5e9 6e9)) (mRet (mOp 9e7 (mFn F_row (aCons 2e0 (aCons (mSlice 5e5 oNo (oPart 4e4)) aNil))) (mVar 4))))))))
def F_l_asked:List SV->M SV:=mDef 3 2 (B_l_asked)
abbrev B_law:PSt->M PF:=(mSeq (mIfS (mTest (mOp 4e1 (mFn F_row (aCons (mVal 8e3) (aCons (mTup (aCons (mC (.str "a")) (aCons (mC (.str "b")) (aCons 1e9 aNil)))) aNil))) (mVal 8e3))) 9e3 mSkip) (mSeq (mSet 1 (mFn F_l_town (aCons 2e0 aNil))) (mSeq (mNew 2 (mFnF FF_l_left (aCons 2e0 (aCons (mC (.int 50)) aNil)))) (mSeq (mSet 3 (mFn F_l_pile (aCons 2e0 (aCons 3e7 (aCons (mFn F_l_pick (aCons 5e5 (aCons (mC (.int 33)) aNil))) aNil))))) (mSeq (mIfS (mTest (mOp 9e7 (mFn F_l_pick (aCons 5e5 (aCons 2e5 aNil))) 2e6)) (mSet 3 (mFn F_l_turned (aCons 5e5 8e6))) mSkip) (mSeq (mSet 3 (mFn F_l_left_out (aCons 5e5 8e6))) (mSeq (mSet 4 (mVal (mList 8e6))) (mSeq (mSet 5 (mCB dictPH (aCons (mVal (mComp (mItems 5e9) 5e0 [] 6e6 tOk (mTup (aCons (mSlice 2e0 oNo (oPart 4e4)) (aCons 2e0 aNil))))) aNil))) (mSeq (mFor (mItems 5e9) (hName 6) (mSeq (mIfS (mNotT (mTru (mFn F_l_asked (aCons 5e9 (aCons 7e3 (aCons 8e8 aNil)))))) 9e3 mSkip) (mSeq (mSet 7 (mOp (g2 mulLP) (mVal (mLst (aCons (mOp 5e3 (mSlice 8e8 oNo (oPart 2e5)) (mTup (aCons (mOp 2e7 8e8 4e4) aNil))) aNil))) (mCB (g1 intH) (aCons (mOp (g2 gtP) (mOp 2e7 8e8 4e4) 2e6) aNil)))) (mFor (mItems (mOp 5e3 (mOp 5e3 (mVal (mList (aCons (mOp 2e7 8e8 12e7) aNil))) (mVar 7)) (mVal (mLst (aCons (mOp 5e3 (mSlice 8e8 oNo (oPart 2e5)) (mTup (aCons (mC (.int 999999)) aNil))) (aCons (mOp 5e3 (mTup (aCons (mC (.str "zzzz")) aNil)) (mSlice 8e8 (oPart 1e9) (oPart 4e4))) aNil)))))) (hName 8) (mIfS (mAndT (mTest (mOp (g2 (inTP true)) (mVar 8) 7e3)) (mTest (mOp 4e1 (mFn F_row (aCons 5e9 (aCons (mVar 8) aNil))) (mVal 8e3)))) 9e3 mSkip))))) (mRet (mOp 9e7 5e9 (mVar 4))))))))))))
def F_law:List SV->M SV:=mDef 1 8 (B_law)
noncomputable def top (i:Nat):Stmt:=PySem.Challenge.pw_holdword_k18_rows.main.body.getD i (.Pass ⟨0,0,0,0⟩)
structure Txt (mg:Str->Option Value):Prop where
 b_dict:mg "dict"=none
 b_enumerate:mg "enumerate"=none
 b_int:mg "int"=none
 b_isinstance:mg "isinstance"=none
 b_len:mg "len"=none
 b_list:mg "list"=none
 b_max:mg "max"=none
 b_min:mg "min"=none
 b_range:mg "range"=none
 b_sorted:mg "sorted"=none
 b_tuple:mg "tuple"=none
section
variable {P:Yx}{w:World}{K:W.Frag}{mg:3e0}{base:Heap}
abbrev ZcJ:Stmt:=top 1
theorem sc_name_of:FnScope ["letter"] ["letter"] (defScope ZcJ):=1e2
theorem ln0 {P:List Value->Prop}(h:P []):∀us:List Value,us.length=0->P us:=by
 intro us hl
 cases us with
 | nil=>exact h
 | cons a r=>simp at hl
theorem ln1 {P:List Value->Prop}(h:∀a,P [a]):∀us:List Value,us.length=1->P us:=by
 intro us hl
 cases us with
 | nil=>simp at hl
 | cons a r=>exact ln0 (P:=fun r=>P (a::r)) (h a) r (by simpa using hl)
theorem ln2 {P:List Value->Prop}(h:∀a b,P [a,b]):∀us:List Value,us.length=2->P us:=by
 intro us hl
 cases us with
 | nil=>simp at hl
 | cons a r=>exact ln1 (P:=fun r=>P (a::r)) (h a) r (by simpa using hl)
theorem ln3 {P:List Value->Prop}(h:∀a b c,P [a,b,c]):∀us:List Value,us.length=3->P us:=by
 intro us hl
 cases us with
 | nil=>simp at hl
 | cons a r=>exact ln2 (P:=fun r=>P (a::r)) (h a) r (by simpa using hl)
theorem ln4 {P:List Value->Prop}(h:∀a b c d,P [a,b,c,d]):∀us:List Value,us.length=4->P us:=by
 intro us hl
 cases us with
 | nil=>simp at hl
 | cons a r=>exact ln3 (P:=fun r=>P (a::r)) (h a) r (by simpa using hl)
theorem ln5 {P:List Value->Prop}(h:∀a b c d e,P [a,b,c,d,e]):∀us:List Value,us.length=5->P us:=by
 intro us hl
 cases us with
 | nil=>simp at hl
 | cons a r=>exact ln4 (P:=fun r=>P (a::r)) (h a) r (by simpa using hl)
theorem ok_name_of (Fn:Hd.FnAt K mg "name_of" ZcJ)(T:Txt mg):Cal P w K mg base 1 "name_of" ["letter"] (liftSp K (F_name_of)):=
 ZaF Fn sc_name_of (fun _ _ _ _ _ _=>ln1 fun _=>rfl) fun _ cdv A outer s H E hr=>(@Zai _ _ _ (@Zar _ _ _ _ (Zav (Zab 0) ZaA (Zay Zac))))
end
section
variable {P:Yx}{w:World}{K:W.Frag}{mg:3e0}{base:Heap}
abbrev ZcN:Stmt:=top 3
theorem sc_by_name:FnScope ["pile"] ["pile"] (defScope ZcN):=1e2
theorem ok_by_name (Fn:Hd.FnAt K mg "by_name" ZcN)(T:Txt mg)(c_name_of:Cal P w K mg base 1 "name_of" ["letter"] (liftSp K F_name_of)):Cal P w K mg base 2 "by_name" ["pile"] (liftSp K (F_by_name)):=
 ZaF Fn sc_by_name (fun _ _ _ _ _ _=>ln1 fun _=>rfl) fun _ cdv A outer s H E hr=>(@Zai _ _ _ (@Zar _ _ _ _ (q_em_compD (vs:=["letter"]) (fs:=[]) (fr:=[]) 4e0 rfl 9e9 (ZaO (Zab 0)) (fun _ _ _ _ _=>(Zak (i:=0) (show ((["letter"]:List Str)++([]:List Str)).Nodup by decide +kernel) rfl 2e3)) (fun _ _ _ _ _=>Za6) (fun _ _ _ _ _=>(Zaf c_name_of 3e6 1e0 13e3)) (fun _ _ _ _ _=>(Zab 0)))))
end
section
variable {P:Yx}{w:World}{K:W.Frag}{mg:3e0}{base:Heap}
abbrev Zcl:Stmt:=top 4
theorem sc_followed:FnScope ["letter"] ["letter"] (defScope Zcl):=1e2
theorem ok_followed (Fn:Hd.FnAt K mg "followed" Zcl)(T:Txt mg):Cal P w K mg base 1 "followed" ["letter"] (liftSp K (F_followed)):=
 ZaF Fn sc_followed (fun _ _ _ _ _ _=>ln1 fun _=>rfl) fun _ cdv A outer s H E hr=>(@Zai _ _ _ (@Zar _ _ _ _ (Zaq (@Zaa _ _ _ _ _ 10e3 (@Zaa _ _ _ _ _ 10e3 (@Zaa _ _ _ _ _ 10e3 Zad 1e0) 1e0) 1e0))))
end
section
variable {P:Yx}{w:World}{K:W.Frag}{mg:3e0}{base:Heap}
abbrev Zbt:Stmt:=top 6
theorem ZaZ:FnScope ["letters","name","found"] ["letters","name"] (defScope Zbt):=1e2
theorem ok_row_among (Fn:Hd.FnAt K mg "row_among" Zbt)(T:Txt mg)(c_followed:Cal P w K mg base 1 "followed" ["letter"] (liftSp K F_followed)):Cal P w K mg base 2 "row_among" ["letters","name"] (liftSp K (F_row_among)):=
 ZaF Fn ZaZ 7e6 fun _ cdv A outer s H E hr=>(@Zae _ _ _ _ _ (ZcP (n:=2) ZaZ.nd rfl 2e3) (@Zae _ _ _ _ _ (Zdk Y5 (Zb5 (Zbu (Zam (op_inT 9e9) Zdt.r (Zab 1) (Zab 0) rfl) (Zbe (Zam (Zb6 9e9) Zdt.r (Zab 1) (Zab 2) rfl)))) (@Zae _ _ _ _ _ (ZbV 9e9 (Zb4 6e3 (Zab 0) (Zab 1)) (Zab 2) (Zab 1)) (@Zai _ _ _ (Zaj (i:=1) ZaZ.nd rfl 2e3 (Zaf c_followed 3e6 1e0 (@Zaa _ _ _ _ _ (Zb4 6e3 (Zab 0) (Zab 1)) Zad 1e0)))))) (@Zai _ _ _ (Zbf (q_fm_revS (Zas (Zb2 rfl 1e0 T.b_list (Zab 2))) (Zb3 Zac))))))
theorem okF_row_among (Fn:Hd.FnAt K mg "row_among" Zbt)(T:Txt mg)(c_followed:Cal P w K mg base 1 "followed" ["letter"] (liftSp K F_followed)):Cal P w K mg base 2 "row_among" ["letters","name"] (liftSpF K (FF_row_among)):=
 ZcQ Fn ZaZ 7e6 fun _ cdv A outer s H E hr=>(@Zae _ _ _ _ _ (ZcP (n:=2) ZaZ.nd rfl 2e3) (@Zae _ _ _ _ _ (Zdk Y5 (Zb5 (Zbu (Zam (op_inT 9e9) Zdt.r (Zab 1) (Zab 0) rfl) (Zbe (Zam (Zb6 9e9) Zdt.r (Zab 1) (Zab 2) rfl)))) (@Zae _ _ _ _ _ (ZbV 9e9 (Zb4 6e3 (Zab 0) (Zab 1)) (Zab 2) (Zab 1)) (@Zai _ _ _ (Zaj (i:=1) ZaZ.nd rfl 2e3 (Zaf c_followed 3e6 1e0 (@Zaa _ _ _ _ _ (Zb4 6e3 (Zab 0) (Zab 1)) Zad 1e0)))))) (@Zai _ _ _ (Zbf (q_fm_revS (Zas (Zb2 rfl 1e0 T.b_list (Zab 2))) (Zb3 Zac))))))
end
section
variable {P:Yx}{w:World}{K:W.Frag}{mg:3e0}{base:Heap}
abbrev s_row:Stmt:=top 7
theorem sc_row:FnScope ["pile","name"] ["pile","name"] (defScope s_row):=1e2
theorem ok_row (Fn:Hd.FnAt K mg "row" s_row)(T:Txt mg)(c_by_name:Cal P w K mg base 2 "by_name" ["pile"] (liftSp K F_by_name))(cF_row_among:Cal P w K mg base 2 "row_among" ["letters","name"] (liftSpF K FF_row_among)):Cal P w K mg base 3 "row" ["pile","name"] (liftSp K (F_row)):=
 ZaF Fn sc_row 7e6 fun _ cdv A outer s H E hr=>(@Zai _ _ _ (Zbf (Zbj cF_row_among 3e6 1e0 (@Zaa _ _ _ _ _ (Zaf c_by_name 3e6 1e0 13e3) (@Zaa _ _ _ _ _ (Zab 1) Zad 1e0) 1e0))))
theorem okF_row (Fn:Hd.FnAt K mg "row" s_row)(T:Txt mg)(c_by_name:Cal P w K mg base 2 "by_name" ["pile"] (liftSp K F_by_name))(cF_row_among:Cal P w K mg base 2 "row_among" ["letters","name"] (liftSpF K FF_row_among)):Cal P w K mg base 3 "row" ["pile","name"] (liftSpF K (FF_row)):=
 ZcQ Fn sc_row 7e6 fun _ cdv A outer s H E hr=>(@Zai _ _ _ (Zbf (Zbj cF_row_among 3e6 1e0 (@Zaa _ _ _ _ _ (Zaf c_by_name 3e6 1e0 13e3) (@Zaa _ _ _ _ _ (Zab 1) Zad 1e0) 1e0))))
end
section
variable {P:Yx}{w:World}{K:W.Frag}{mg:3e0}{base:Heap}
abbrev ZbT:Stmt:=top 9
theorem sc_l_cell_at:FnScope 12e3 12e3 (defScope ZbT):=1e2
theorem ok_l_cell_at (Fn:Hd.FnAt K mg "_law_cell_at" ZbT)(T:Txt mg):Cal P w K mg base 1 "_law_cell_at" 12e3 (liftSp K (F_l_cell_at)):=
 ZaF Fn sc_l_cell_at 7e6 fun _ cdv A outer s H E hr=>(@Zae _ _ _ _ _ (@ZaC _ _ _ _ _ _ _ _ (Zam Zcv Zcw.r (Zab 1) (ZaH 1e0 T.b_len 13e3) 7e4) (@Zai _ _ _ (@Zar _ _ _ _ (Zag 6e3 (Zab 0) (Zab 1)))) Zax) (@Zai _ _ _ (@Zar _ _ _ _ Zac)))
end
section
variable {P:Yx}{w:World}{K:W.Frag}{mg:3e0}{base:Heap}
abbrev Zcy:Stmt:=top 10
theorem Za8:FnScope ["_law_script","_law_k","_law_cell","_law_seed"] 12e3 (defScope Zcy):=1e2
theorem ok_l_left (Fn:Hd.FnAt K mg "_law_left" Zcy)(T:Txt mg)(c__law_cell_at:Cal P w K mg base 1 "_law_cell_at" 12e3 (liftSp K F_l_cell_at)):Cal P w K mg base 2 "_law_left" 12e3 (liftSp K (F_l_left)):=
 ZaF Fn Za8 7e6 fun _ cdv A outer s H E hr=>(@Zae _ _ _ _ _ (Zaj (i:=2) Za8.nd rfl 2e3 (Zaf c__law_cell_at 3e6 1e0 (@Zaa _ _ _ _ _ (Zab 0) (@Zaa _ _ _ _ _ (ZaI (Zab 1) (q_em_max rfl 1e0 T.b_max 1e0 (@Zaa _ _ _ _ _ Zac (@Zaa _ _ _ _ _ (ZaH 1e0 T.b_len 13e3) Zad 1e0) 1e0))) Zad 1e0) 1e0))) (@Zae _ _ _ _ _ (Zaj (i:=3) Za8.nd rfl 2e3 (ZaI (ZaS (Zao (Zao (ZaI (Zab 2) Zac) (ZaS (ZaS Zac (Zab 1)) (Zab 1))) Zac) Zac) Zac)) (@Zae _ _ _ _ _ (@ZaC _ _ _ _ _ _ _ _ (Zam op_eq eq_ok.r (ZaI (Zaf c__law_cell_at 3e6 1e0 (@Zaa _ _ _ _ _ (Zab 0) 3e1 1e0)) Zac) Zac 7e4) (@Zai _ _ _ (Zaj (i:=2) Za8.nd rfl 2e3 Zac)) Zax) (@Zai _ _ _ (Zbf (Zau (@Zaa _ _ _ _ _ (ZaI (Zab 2) (q_em_pow Zac Zac)) 11e5 1e0)))))))
theorem okF_l_left (Fn:Hd.FnAt K mg "_law_left" Zcy)(T:Txt mg)(c__law_cell_at:Cal P w K mg base 1 "_law_cell_at" 12e3 (liftSp K F_l_cell_at)):Cal P w K mg base 2 "_law_left" 12e3 (liftSpF K (FF_l_left)):=
 ZcQ Fn Za8 7e6 fun _ cdv A outer s H E hr=>(@Zae _ _ _ _ _ (Zaj (i:=2) Za8.nd rfl 2e3 (Zaf c__law_cell_at 3e6 1e0 (@Zaa _ _ _ _ _ (Zab 0) (@Zaa _ _ _ _ _ (ZaI (Zab 1) (q_em_max rfl 1e0 T.b_max 1e0 (@Zaa _ _ _ _ _ Zac (@Zaa _ _ _ _ _ (ZaH 1e0 T.b_len 13e3) Zad 1e0) 1e0))) Zad 1e0) 1e0))) (@Zae _ _ _ _ _ (Zaj (i:=3) Za8.nd rfl 2e3 (ZaI (ZaS (Zao (Zao (ZaI (Zab 2) Zac) (ZaS (ZaS Zac (Zab 1)) (Zab 1))) Zac) Zac) Zac)) (@Zae _ _ _ _ _ (@ZaC _ _ _ _ _ _ _ _ (Zam op_eq eq_ok.r (ZaI (Zaf c__law_cell_at 3e6 1e0 (@Zaa _ _ _ _ _ (Zab 0) 3e1 1e0)) Zac) Zac 7e4) (@Zai _ _ _ (Zaj (i:=2) Za8.nd rfl 2e3 Zac)) Zax) (@Zai _ _ _ (Zbf (Zau (@Zaa _ _ _ _ _ (ZaI (Zab 2) (q_em_pow Zac Zac)) 11e5 1e0)))))))
end
section
variable {P:Yx}{w:World}{K:W.Frag}{mg:3e0}{base:Heap}
abbrev s_l_pick:Stmt:=top 11
theorem sc_l_pick:FnScope ["_law_left_here","_law_many","_law_digit"] ["_law_left_here","_law_many"] (defScope s_l_pick):=1e2
theorem ok_l_pick (Fn:Hd.FnAt K mg "_law_pick" s_l_pick)(T:Txt mg):Cal P w K mg base 1 "_law_pick" ["_law_left_here","_law_many"] (liftSp K (F_l_pick)):=
 ZaF Fn sc_l_pick 7e6 fun _ cdv A outer s H E hr=>(@Zae _ _ _ _ _ (@ZaC _ _ _ _ _ _ _ _ (Zam op_gt gt_ok.r 10e3 Zac 7e4) (@Zae _ _ _ _ _ (Zaj (i:=2) sc_l_pick.nd rfl 2e3 (ZaI 10e3 (Zab 1))) (@Zae _ _ _ _ _ (Zdl (q_em_fdiv 10e3 (Zab 1)) (Zab 0) Zac) (@Zai _ _ _ (@Zar _ _ _ _ (Zab 2))))) Zax) (@Zae _ _ _ _ _ (Zdl (ZaI (Zao (ZaS 10e3 Zac) Zac) Zac) (Zab 0) Zac) (@Zai _ _ _ (@Zar _ _ _ _ (ZaI (ZaI (ZaS 10e3 10e3) Zac) (Zab 1))))))
end
section
variable {P:Yx}{w:World}{K:W.Frag}{mg:3e0}{base:Heap}
abbrev ZcK:Stmt:=top 12
theorem ZbJ:FnScope ["_law_left_here","_law_many","_law_letters","_law_first","_law_step"] ["_law_left_here","_law_many"] (defScope ZcK):=1e2
theorem ok_l_words (Fn:Hd.FnAt K mg "_law_words" ZcK)(T:Txt mg)(c__law_pick:4e6):Cal P w K mg base 2 "_law_words" ["_law_left_here","_law_many"] (liftSp K (F_l_words)):=
 ZaF Fn ZbJ 7e6 fun _ cdv A outer s H E hr=>(@Zae _ _ _ _ _ (Zaj (i:=2) ZbJ.nd rfl (Or.inr rfl) ZaB) (@Zae _ _ _ _ _ (Zaj (i:=3) ZbJ.nd rfl (Or.inr rfl) 1e1) (@Zae _ _ _ _ _ (Zaj (i:=4) ZbJ.nd rfl (Or.inr rfl) (Zag 6e3 (Zas (Zau (@Zaa _ _ _ _ _ Zac (@Zaa _ _ _ _ _ Zac (@Zaa _ _ _ _ _ Zac (@Zaa _ _ _ _ _ Zac (@Zaa _ _ _ _ _ Zac 3e1 1e0) 1e0) 1e0) 1e0) 1e0))) 1e1)) (@Zai _ _ _ (Zbf (Za3 (vs:=["_law_k"]) (fs:=["_law_letters","_law_first","_law_step"]) (fr:=[2,3,4]) 4e0 rfl (ZaR 1e0 T.b_range (@Zaa _ _ _ _ _ (Zab 1) Zad 1e0)) (fun _ _ _ _ _=>(Zak (i:=0) (show ((["_law_k"]:List Str)++(["_law_letters","_law_first","_law_step"]:List Str)).Nodup by decide +kernel) rfl 2e3)) (fun _ _ _ _ _=>Za6) (fun _ _ _ _ _=>(Zao (Zag 6e3 (Zab 1) (ZaI (Zao (Zab 2) (ZaS (Zab 3) (Zab 0))) Zac)) (Zag 6e3 (Zas (Zau (@Zaa _ _ _ _ _ ZaB (@Zaa _ _ _ _ _ ZaB (@Zaa _ _ _ _ _ ZaB (@Zaa _ _ _ _ _ ZaB Zad 1e0) 1e0) 1e0) 1e0))) (ZaI (Zao (Zab 2) (ZaS (Zab 0) (Zab 0))) Zac))))))))))
end
section
variable {P:Yx}{w:World}{K:W.Frag}{mg:3e0}{base:Heap}
abbrev ZcL:Stmt:=top 13
theorem Za0:FnScope ["_law_left_here","_law_deal","_law_named","_law_own","_law_houses","_law_others","_law_clauses_here","_law_way","_law_k","_law_sizes","_law_c"] ["_law_left_here","_law_deal","_law_named","_law_own"] (defScope ZcL):=1e2
theorem ok_l_event (Fn:Hd.FnAt K mg "_law_event" ZcL)(T:Txt mg)(c__law_pick:4e6):Cal P w K mg base 2 "_law_event" ["_law_left_here","_law_deal","_law_named","_law_own"] (liftSp K (F_l_event)):=
 ZaF Fn Za0 (fun _ _ _ _ _ _=>ln4 fun _ _ _ _=>rfl) fun _ cdv A outer s H E hr=>(@Zae _ _ _ _ _ (q_sm_asg (Zab 1) (ZbK rfl (Zaz (Zak (i:=4) Za0.nd rfl 2e3) (Zaz (Zak (i:=5) Za0.nd rfl 2e3) (Zaz (Zak (i:=6) Za0.nd rfl 2e3) Zbr))))) (@Zae _ _ _ _ _ (Zaj (i:=7) Za0.nd rfl 2e3 1e1) (@Zae _ _ _ _ _ (@ZaC _ _ _ _ _ _ _ _ (Zam Zcv Zcw.r (Zab 7) Zac 7e4) (@Zai _ _ _ (@Zar _ _ _ _ (Zaq (@Zaa _ _ _ _ _ ZaB (@Zaa _ _ _ _ _ (Zaf c__law_pick 3e6 1e0 (@Zaa _ _ _ _ _ (Zab 0) 13e4 1e0)) Zad 1e0) 1e0)))) Zax) (@Zae _ _ _ _ _ (@ZaC _ _ _ _ _ _ _ _ (Zam Zcv Zcw.r (Zab 7) Zac 7e4) (@Zai _ _ _ (@Zar _ _ _ _ (Zaq (@Zaa _ _ _ _ _ ZaB (@Zaa _ _ _ _ _ (Zaf c__law_pick 3e6 1e0 (@Zaa _ _ _ _ _ (Zab 0) 13e4 1e0)) (@Zaa _ _ _ _ _ (Zb4 6e3 (Zab 2) 1e1) Zad 1e0) 1e0) 1e0)))) Zax) (@Zae _ _ _ _ _ (Zaj (i:=8) Za0.nd rfl 2e3 (Zaf c__law_pick 3e6 1e0 (@Zaa _ _ _ _ _ (Zab 0) (@Zaa _ _ _ _ _ (Zao (ZaH 1e0 T.b_len (@Zaa _ _ _ _ _ (Zab 5) Zad 1e0)) Zac) Zad 1e0) 1e0))) (@Zae _ _ _ _ _ (Zaj (i:=9) Za0.nd rfl 2e3 (Zag 6e3 (Zao (Zas (Zau (@Zaa _ _ _ _ _ (Zab 6) Zad 1e0))) (Zab 5)) (Zab 8))) (@Zae _ _ _ _ _ (Zaj (i:=10) Za0.nd rfl 2e3 (Zaf c__law_pick 3e6 1e0 (@Zaa _ _ _ _ _ (Zab 0) (@Zaa _ _ _ _ _ (ZaH 1e0 T.b_len (@Zaa _ _ _ _ _ (Zab 9) Zad 1e0)) Zad 1e0) 1e0))) (@Zae _ _ _ _ _ (@ZaC _ _ _ _ _ _ _ _ (Zb5 (Zbu (Zam op_eq eq_ok.r (Zab 8) Zac 7e4) (Zbe (Zam op_eq eq_ok.r (Zab 10) (Zab 3) 7e4)))) (@Zai _ _ _ (@Zar _ _ _ _ (Zaq (@Zaa _ _ _ _ _ ZaB (@Zaa _ _ _ _ _ (Zaf c__law_pick 3e6 1e0 (@Zaa _ _ _ _ _ (Zab 0) 13e4 1e0)) Zad 1e0) 1e0)))) Zax) (@Zai _ _ _ (@Zar _ _ _ _ (Zaq (@Zaa _ _ _ _ _ ZaB (@Zaa _ _ _ _ _ (Zab 8) (@Zaa _ _ _ _ _ (Zab 10) (@Zaa _ _ _ _ _ (Zaf c__law_pick 3e6 1e0 (@Zaa _ _ _ _ _ (Zab 0) (@Zaa _ _ _ _ _ (Zag 6e3 (Zab 9) (Zab 10)) Zad 1e0) 1e0)) Zad 1e0) 1e0) 1e0) 1e0))))))))))))
end
section
variable {P:Yx}{w:World}{K:W.Frag}{mg:3e0}{base:Heap}
abbrev ZbS:Stmt:=top 14
theorem ZaD:FnScope ["_law_left_here","_law_houses","_law_sizes","_law_others","_law_named","_law_clauses_here","_law_c","_law_parts","_law_debtor","_law_creditor","_law_events","_law_k","_law_event_here","_law_leave","_law_within"] ["_law_left_here","_law_houses","_law_sizes","_law_others","_law_named"] (defScope ZbS):=1e2
theorem ok_l_clauses (Fn:Hd.FnAt K mg "_law_clauses" ZbS)(T:Txt mg)(c__law_pick:4e6)(c__law_event:Cal P w K mg base 2 "_law_event" ["_law_left_here","_law_deal","_law_named","_law_own"] (liftSp K F_l_event)):Cal P w K mg base 3 "_law_clauses" ["_law_left_here","_law_houses","_law_sizes","_law_others","_law_named"] (liftSp K (F_l_clauses)):=
 ZaF Fn ZaD (fun _ _ _ _ _ _=>ln5 fun _ _ _ _ _=>rfl) fun _ cdv A outer s H E hr=>(@Zae _ _ _ _ _ (Za1 (i:=5) ZaD.nd rfl 2e3 (Zau Zad)) (@Zae _ _ _ _ _ (Za2 Y5 rfl (q_im_enum 1e0 T.b_enumerate 8e5) (ZbK rfl (Zaz (Zak (i:=6) ZaD.nd rfl 2e3) (Zaz (Zak (i:=7) ZaD.nd rfl 2e3) Zbr))) (@Zae _ _ _ _ _ (Zaj (i:=8) ZaD.nd rfl 2e3 (Zaf c__law_pick 3e6 1e0 (@Zaa _ _ _ _ _ (Zab 0) (@Zaa _ _ _ _ _ (Zab 1) Zad 1e0) 1e0))) (@Zae _ _ _ _ _ (Zaj (i:=9) ZaD.nd rfl 2e3 (ZaI (Zao (Zao (Zab 8) Zac) (Zaf c__law_pick 3e6 1e0 (@Zaa _ _ _ _ _ (Zab 0) (@Zaa _ _ _ _ _ (ZbL (Zab 1) Zac) Zad 1e0) 1e0))) (Zab 1))) (@Zae _ _ _ _ _ (Za1 (i:=10) ZaD.nd rfl 2e3 (Zau Zad)) (@Zae _ _ _ _ _ (Za2 Y5 rfl (ZaR 1e0 T.b_range (@Zaa _ _ _ _ _ (Zag 6e3 4e5 1e1) Zad 1e0)) (Zak (i:=11) ZaD.nd rfl 2e3) (@Zae _ _ _ _ _ (Zaj (i:=12) ZaD.nd rfl 2e3 (Zaf c__law_event 3e6 1e0 (@Zaa _ _ _ _ _ (Zab 0) (@Zaa _ _ _ _ _ (Zaq (@Zaa _ _ _ _ _ (Zab 1) (@Zaa _ _ _ _ _ (Zab 3) 8e5 1e0) 1e0)) (@Zaa _ _ _ _ _ (Zab 4) (@Zaa _ _ _ _ _ (Zab 6) Zad 1e0) 1e0) 1e0) 1e0))) (@Zai _ _ _ (@ZaC _ _ _ _ _ _ _ _ (Zam (op_notInD 9e9) inD_ok.r (Zab 12) (Zab 10) rfl) (@Zai _ _ _ (Za9 (ZaY (Zab 10) (@Zaa _ _ _ _ _ (Zab 12) Zad 1e0)))) Zax)))) (@Zae _ _ _ _ _ (Zaj (i:=13) ZaD.nd rfl 2e3 (Zaq Zad)) (@Zae _ _ _ _ _ (@ZaC _ _ _ _ _ _ _ _ (Zam (Zb7 9e9) ZaQ.r 1e1 Zac 7e4) (@Zae _ _ _ _ _ (Zaj (i:=12) ZaD.nd rfl 2e3 (Zaf c__law_event 3e6 1e0 (@Zaa _ _ _ _ _ (Zab 0) (@Zaa _ _ _ _ _ (Zaq (@Zaa _ _ _ _ _ (Zab 1) (@Zaa _ _ _ _ _ (Zab 3) 8e5 1e0) 1e0)) (@Zaa _ _ _ _ _ (Zab 4) (@Zaa _ _ _ _ _ (Zab 6) Zad 1e0) 1e0) 1e0) 1e0))) (@Zai _ _ _ (@ZaC _ _ _ _ _ _ _ _ (Zam (op_notInD 9e9) inD_ok.r (Zab 12) (Zab 10) rfl) (@Zai _ _ _ (Zaj (i:=13) ZaD.nd rfl 2e3 (Zaq (@Zaa _ _ _ _ _ (Zab 12) (@Zaa _ _ _ _ _ (Zao Zac 1e1) Zad 1e0) 1e0)))) Zax))) Zax) (@Zae _ _ _ _ _ (Zaj (i:=14) ZaD.nd rfl 2e3 (Zag 6e3 (Zas (Zau (@Zaa _ _ _ _ _ (Zao Zac 1e1) (@Zaa _ _ _ _ _ (Zao Zac 1e1) Zad 1e0) 1e0))) 1e1)) (@Zai _ _ _ (Za9 (ZaY (Zab 5) (@Zaa _ _ _ _ _ (Zaq (@Zaa _ _ _ _ _ (Zab 8) (@Zaa _ _ _ _ _ (Zab 9) (@Zaa _ _ _ _ _ (Zab 7) (@Zaa _ _ _ _ _ (Zab 14) (@Zaa _ _ _ _ _ (ZbB 1e0 T.b_tuple 1e0 (@Zaa _ _ _ _ _ (Zab 10) Zad 1e0)) (@Zaa _ _ _ _ _ (Zab 13) Zad 1e0) 1e0) 1e0) 1e0) 1e0) 1e0)) Zad 1e0)))))))))))) (@Zai _ _ _ (@Zar _ _ _ _ (ZbB 1e0 T.b_tuple 1e0 (@Zaa _ _ _ _ _ (Zab 5) Zad 1e0))))))
end
section
variable {P:Yx}{w:World}{K:W.Frag}{mg:3e0}{base:Heap}
abbrev s_l_town:Stmt:=top 15
theorem ZaE:FnScope ["_law_script","_law_left_here","_law_words_here","_law_many","_law_shapes","_law_k","_law_houses","_law_clauses_here","_law_sizes","_law_deals","_law_shape","_law_start","_law_others","_law_close"] ["_law_script"] (defScope s_l_town):=1e2
theorem ok_l_town (Fn:Hd.FnAt K mg "_law_town" s_l_town)(T:Txt mg)(cF__law_left:Cal P w K mg base 2 "_law_left" 12e3 (liftSpF K FF_l_left))(c__law_words:Cal P w K mg base 2 "_law_words" ["_law_left_here","_law_many"] (liftSp K F_l_words))(c__law_pick:4e6)(c__law_clauses:Cal P w K mg base 3 "_law_clauses" ["_law_left_here","_law_houses","_law_sizes","_law_others","_law_named"] (liftSp K F_l_clauses)):Cal P w K mg base 4 "_law_town" ["_law_script"] (liftSp K (F_l_town)):=
 ZaF Fn ZaE (fun _ _ _ _ _ _=>ln1 fun _=>rfl) fun _ cdv A outer s H E hr=>(@Zae _ _ _ _ _ (Za1 (i:=1) ZaE.nd rfl (Or.inr rfl) (Zbj cF__law_left 3e6 1e0 (@Zaa _ _ _ _ _ (Zab 0) 3e1 1e0))) (@Zae _ _ _ _ _ (Zaj (i:=2) ZaE.nd rfl (Or.inr rfl) (Zaf c__law_words 3e6 1e0 (@Zaa _ _ _ _ _ (Zab 1) 3e1 1e0))) (@Zae _ _ _ _ _ (Zaj (i:=3) ZaE.nd rfl 2e3 (Zag 6e3 4e5 6e8)) (@Zae _ _ _ _ _ (Za1 (i:=4) ZaE.nd rfl (Or.inr rfl) (Zau Zad)) (@Zae _ _ _ _ _ (Za2 Y5 rfl (ZaR 1e0 T.b_range 11e5) (Zak (i:=5) ZaE.nd rfl (Or.inr rfl)) (@Zae _ _ _ _ _ (Za1 (i:=1) ZaE.nd rfl (Or.inr rfl) (Zbj cF__law_left 3e6 1e0 (@Zaa _ _ _ _ _ (Zab 0) (@Zaa _ _ _ _ _ (Zao Zac (Zab 5)) Zad 1e0) 1e0))) (@Zae _ _ _ _ _ (Zaj (i:=6) ZaE.nd rfl 2e3 (Zag 6e3 4e5 6e8)) (@Zae _ _ _ _ _ (Zaj (i:=7) ZaE.nd rfl 2e3 (Zag 6e3 4e5 6e8)) (@Zae _ _ _ _ _ (Zbg (i:=8) ZaE.nd rfl rfl (vs:=["_law_c"]) (fs:=["_law_left_here"]) (fr:=[1]) 4e0 rfl (ZaR 1e0 T.b_range (@Zaa _ _ _ _ _ (Zab 7) Zad 1e0)) (fun _ _ _ _ _=>(Zak (i:=0) (show ((["_law_c"]:List Str)++(["_law_left_here"]:List Str)).Nodup by decide +kernel) rfl 2e3)) (fun _ _ _ _ _=>Za6) (fun _ _ _ _ _=>(Zag 6e3 4e5 6e8))) (@Zai _ _ _ (Za9 (ZaY (Zab 4) (@Zaa _ _ _ _ _ (Zaq (@Zaa _ _ _ _ _ (Zab 6) (@Zaa _ _ _ _ _ (Zab 8) (@Zaa _ _ _ _ _ 6e8 Zad 1e0) 1e0) 1e0)) Zad 1e0))))))))) (@Zae _ _ _ _ _ (q_sm_newK (n:=9) ZaE.nd rfl 2e3) (@Zae _ _ _ _ _ (q_sm_forE Y5 rfl 1e0 T.b_enumerate 13e4 (ZbK rfl (Zaz (Zak (i:=5) ZaE.nd rfl (Or.inr rfl)) (Zaz (Zak (i:=10) ZaE.nd rfl 2e3) Zbr))) (@Zae _ _ _ _ _ (Za1 (i:=1) ZaE.nd rfl (Or.inr rfl) (Zbj cF__law_left 3e6 1e0 (@Zaa _ _ _ _ _ (Zab 0) (@Zaa _ _ _ _ _ (Zao Zac (Zab 5)) Zad 1e0) 1e0))) (@Zae _ _ _ _ _ (Zaj (i:=11) ZaE.nd rfl (Or.inr rfl) 6e8) (@Zae _ _ _ _ _ (Zaj (i:=6) ZaE.nd rfl 2e3 (ZbB 1e0 T.b_tuple 1e0 (@Zaa _ _ _ _ _ (Zas (Za3 (vs:=["_law_j"]) (fs:=["_law_words_here","_law_start"]) (fr:=[2,11]) 4e0 rfl (ZaR 1e0 T.b_range (@Zaa _ _ _ _ _ (Zag 6e3 (Zab 10) Zac) Zad 1e0)) (fun _ _ _ _ _=>(Zak (i:=0) (show ((["_law_j"]:List Str)++(["_law_words_here","_law_start"]:List Str)).Nodup by decide +kernel) rfl 2e3)) (fun _ _ _ _ _=>Za6) (fun _ _ _ _ _=>(Zag 6e3 (Zab 1) (ZaI (Zao (Zab 2) (Zab 0)) Zac))))) Zad 1e0))) (@Zae _ _ _ _ _ (Zaj (i:=12) ZaE.nd rfl 2e3 (Zav (Zas (Za3 (vs:=["_law_j"]) (fs:=["_law_k"]) (fr:=[5]) 4e0 rfl (ZaR 1e0 T.b_range 11e5) (fun _ _ _ _ _=>(Zak (i:=0) (show ((["_law_j"]:List Str)++(["_law_k"]:List Str)).Nodup by decide +kernel) rfl 2e3)) (fun _ _ _ _ _=>(Zbv (Zam op_ne ne_ok.r (Zab 0) (Zab 1) 7e4))) (fun _ _ _ _ _=>(Zab 0)))) ZaA (Zay (Zag 6e3 (Zab 10) Zac)))) (@Zae _ _ _ _ _ (Zaj (i:=13) ZaE.nd rfl 2e3 (Zao (Zag 6e3 (Zas (Zau (@Zaa _ _ _ _ _ Zac (@Zaa _ _ _ _ _ Zac (@Zaa _ _ _ _ _ Zac 3e1 1e0) 1e0) 1e0))) 6e8) 6e8)) (@Zae _ _ _ _ _ (Zaj (i:=7) ZaE.nd rfl 2e3 (Zaf c__law_clauses 3e6 1e0 (@Zaa _ _ _ _ _ (Zab 1) (@Zaa _ _ _ _ _ (Zag 6e3 (Zab 10) Zac) (@Zaa _ _ _ _ _ (Zag 6e3 (Zab 10) Zac) (@Zaa _ _ _ _ _ (Zas (Za3 (vs:=["_law_j"]) (fs:=["_law_shapes"]) (fr:=[4]) 4e0 rfl (ZaO (Zab 12)) (fun _ _ _ _ _=>(Zak (i:=0) (show ((["_law_j"]:List Str)++(["_law_shapes"]:List Str)).Nodup by decide +kernel) rfl 2e3)) (fun _ _ _ _ _=>Za6) (fun _ _ _ _ _=>(Zag 6e3 (Zag 6e3 (Zab 1) (Zab 0)) Zac)))) 8e5 1e0) 1e0) 1e0) 1e0))) (@Zai _ _ _ (q_sm_setixK 9e9 (Zaq (@Zaa _ _ _ _ _ (Zab 6) (@Zaa _ _ _ _ _ (ZbB 1e0 T.b_tuple 1e0 (@Zaa _ _ _ _ _ (Zas (Za3 (vs:=["_law_j"]) (fs:=["_law_words_here"]) (fr:=[2]) 4e0 rfl (ZaO (Zab 12)) (fun _ _ _ _ _=>(Zak (i:=0) (show ((["_law_j"]:List Str)++(["_law_words_here"]:List Str)).Nodup by decide +kernel) rfl 2e3)) (fun _ _ _ _ _=>Za6) (fun _ _ _ _ _=>(Zag 6e3 (Zab 1) (Zao Zac (Zab 0)))))) Zad 1e0)) (@Zaa _ _ _ _ _ (Zab 13) (@Zaa _ _ _ _ _ (Zab 7) Zad 1e0) 1e0) 1e0) 1e0)) (Zab 9) (Zag 6e3 (Zab 2) (Zao Zac (Zab 5)))))))))))) (@Zai _ _ _ (q_sm_retQ (@Zaa _ _ _ _ _ (Zag 6e3 (Zas (Zau (@Zaa _ _ _ _ _ Zac (@Zaa _ _ _ _ _ Zac (@Zaa _ _ _ _ _ Zac (@Zaa _ _ _ _ _ Zac 3e1 1e0) 1e0) 1e0) 1e0))) 6e8) (@Zaa _ _ _ _ _ (Zab 9) Zad 1e0) 1e0))))))))))
end
section
variable {P:Yx}{w:World}{K:W.Frag}{mg:3e0}{base:Heap}
abbrev s_l_deed:Stmt:=top 16
theorem ZaN:FnScope ["_law_left_here","_law_deal","_law_houses","_law_others","_law_close","_law_clauses_here","_law_way","_law_c","_law_debtor","_law_creditor","_law_parts","_law_within","_law_conds","_law_leave","_law_said"] ["_law_left_here","_law_deal"] (defScope s_l_deed):=1e2
theorem ok_l_deed (Fn:Hd.FnAt K mg "_law_deed" s_l_deed)(T:Txt mg)(c__law_pick:4e6):Cal P w K mg base 2 "_law_deed" ["_law_left_here","_law_deal"] (liftSp K (F_l_deed)):=
 ZaF Fn ZaN 7e6 fun _ cdv A outer s H E hr=>(@Zae _ _ _ _ _ (q_sm_asg (Zab 1) (ZbK rfl (Zaz (Zak (i:=2) ZaN.nd rfl 2e3) (Zaz (Zak (i:=3) ZaN.nd rfl 2e3) (Zaz (Zak (i:=4) ZaN.nd rfl 2e3) (Zaz (Zak (i:=5) ZaN.nd rfl 2e3) Zbr)))))) (@Zae _ _ _ _ _ (Zaj (i:=6) ZaN.nd rfl 2e3 1e1) (@Zae _ _ _ _ _ (Zaj (i:=7) ZaN.nd rfl 2e3 (Zaf c__law_pick 3e6 1e0 (@Zaa _ _ _ _ _ (Zab 0) (@Zaa _ _ _ _ _ (ZaH 1e0 T.b_len (@Zaa _ _ _ _ _ (Zab 5) Zad 1e0)) Zad 1e0) 1e0))) (@Zae _ _ _ _ _ (q_sm_asg (Zag 6e3 (Zab 5) (Zab 7)) (ZbK rfl (Zaz (Zak (i:=8) ZaN.nd rfl 2e3) (Zaz (Zak (i:=9) ZaN.nd rfl 2e3) (Zaz (Zak (i:=10) ZaN.nd rfl 2e3) (Zaz (Zak (i:=11) ZaN.nd rfl 2e3) (Zaz (Zak (i:=12) ZaN.nd rfl 2e3) (Zaz (Zak (i:=13) ZaN.nd rfl 2e3) Zbr)))))))) (@Zae _ _ _ _ _ (@ZaC _ _ _ _ _ _ _ _ (Zam Zcv Zcw.r (Zab 6) Zac 7e4) (@Zai _ _ _ (@Zar _ _ _ _ (Zaq (@Zaa _ _ _ _ _ ZaB Zad 1e0)))) Zax) (@Zae _ _ _ _ _ (Zbg (i:=14) ZaN.nd rfl rfl (vs:=["_law_event_here"]) (fs:=[]) (fr:=[]) 4e0 rfl (ZaO (Zao (Zab 12) (Zav (Zab 13) ZaA (Zay Zac)))) (fun _ _ _ _ _=>(Zak (i:=0) (show ((["_law_event_here"]:List Str)++([]:List Str)).Nodup by decide +kernel) rfl 2e3)) (fun _ _ _ _ _=>(Zbv (Zam op_eq eq_ok.r 10e3 ZaB 7e4))) (fun _ _ _ _ _=>(Zab 0))) (@Zae _ _ _ _ _ (@ZaC _ _ _ _ _ _ _ _ (Zb5 (Zbu (Zam Zcv Zcw.r (Zab 6) Zac 7e4) (Zbe (Zam (ZbE 9e9) ZaQ.r (Zab 14) (Zas (Zau Zad)) 7e4)))) (@Zai _ _ _ (@Zar _ _ _ _ (Zaq (@Zaa _ _ _ _ _ ZaB (@Zaa _ _ _ _ _ (Zag 6e3 (Zag 6e3 (Zab 14) (Zaf c__law_pick 3e6 1e0 (@Zaa _ _ _ _ _ (Zab 0) (@Zaa _ _ _ _ _ (ZaH 1e0 T.b_len (@Zaa _ _ _ _ _ (Zab 14) Zad 1e0)) Zad 1e0) 1e0))) Zac) Zad 1e0) 1e0)))) Zax) (@Zae _ _ _ _ _ (@ZaC _ _ _ _ _ _ _ _ (Zam Zcv Zcw.r (Zab 6) Zac 7e4) (@Zai _ _ _ (@Zar _ _ _ _ (Zaq (@Zaa _ _ _ _ _ ZaB (@Zaa _ _ _ _ _ (Zab 7) (@Zaa _ _ _ _ _ (Zaf c__law_pick 3e6 1e0 (@Zaa _ _ _ _ _ (Zab 0) (@Zaa _ _ _ _ _ (Zab 10) Zad 1e0) 1e0)) Zad 1e0) 1e0) 1e0)))) Zax) (@Zae _ _ _ _ _ (@ZaC _ _ _ _ _ _ _ _ (Zam Zcv Zcw.r (Zab 6) Zac 7e4) (@Zai _ _ _ (@Zar _ _ _ _ (Zaq (@Zaa _ _ _ _ _ ZaB (@Zaa _ _ _ _ _ (Zab 7) Zad 1e0) 1e0)))) Zax) (@Zae _ _ _ _ _ (@ZaC _ _ _ _ _ _ _ _ (Zam Zcv Zcw.r (Zab 6) Zac 7e4) (@Zai _ _ _ (@Zar _ _ _ _ (Zaq (@Zaa _ _ _ _ _ ZaB (@Zaa _ _ _ _ _ (Zab 7) Zad 1e0) 1e0)))) Zax) (@Zae _ _ _ _ _ (@ZaC _ _ _ _ _ _ _ _ (Zam Zcv Zcw.r (Zab 6) Zac 7e4) (@Zai _ _ _ (@Zar _ _ _ _ (Zaq (@Zaa _ _ _ _ _ ZaB (@Zaa _ _ _ _ _ (Zab 7) (@Zaa _ _ _ _ _ (Zag 6e3 (Zab 2) (Zaf c__law_pick 3e6 1e0 (@Zaa _ _ _ _ _ (Zab 0) (@Zaa _ _ _ _ _ (ZaH 1e0 T.b_len 8e5) Zad 1e0) 1e0))) Zad 1e0) 1e0) 1e0)))) Zax) (@Zae _ _ _ _ _ (@ZaC _ _ _ _ _ _ _ _ (Zam Zcv Zcw.r (Zab 6) Zac 7e4) (@Zai _ _ _ (@Zar _ _ _ _ (Zaq (@Zaa _ _ _ _ _ ZaB (@Zaa _ _ _ _ _ (Zab 7) Zad 1e0) 1e0)))) Zax) (@Zai _ _ _ (@Zar _ _ _ _ (Zag 6e3 (Zas (Zau (@Zaa _ _ _ _ _ (Zaq (@Zaa _ _ _ _ _ ZaB Zad 1e0)) (@Zaa _ _ _ _ _ (Zaq (@Zaa _ _ _ _ _ ZaB (@Zaa _ _ _ _ _ (Zag 6e3 (Zab 2) Zac) Zad 1e0) 1e0)) (@Zaa _ _ _ _ _ (Zaq (@Zaa _ _ _ _ _ ZaB Zad 1e0)) Zad 1e0) 1e0) 1e0))) (ZbL (Zab 6) Zac))))))))))))))))
end
section
variable {P:Yx}{w:World}{K:W.Frag}{mg:3e0}{base:Heap}
abbrev s_l_name:Stmt:=top 17
theorem sc_l_name:FnScope 5e0 5e0 (defScope s_l_name):=1e2
theorem ok_l_name (Fn:Hd.FnAt K mg "_law_name" s_l_name)(T:Txt mg):Cal P w K mg base 1 "_law_name" 5e0 (liftSp K (F_l_name)):=
 ZaF Fn sc_l_name (fun _ _ _ _ _ _=>ln1 fun _=>rfl) fun _ cdv A outer s H E hr=>(@Zai _ _ _ (@Zar _ _ _ _ (Zav (Zab 0) ZaA (Zay Zac))))
end
section
variable {P:Yx}{w:World}{K:W.Frag}{mg:3e0}{base:Heap}
abbrev s_l_last:Stmt:=top 18
theorem sc_l_last:FnScope ["_law_letters","_law_house","_law_deal","_law_mine"] ["_law_letters","_law_house","_law_deal"] (defScope s_l_last):=1e2
theorem ok_l_last (Fn:Hd.FnAt K mg "_law_last" s_l_last)(T:Txt mg):Cal P w K mg base 1 "_law_last" ["_law_letters","_law_house","_law_deal"] (liftSp K (F_l_last)):=
 ZaF Fn sc_l_last (fun _ _ _ _ _ _=>ln3 fun _ _ _=>rfl) fun _ cdv A outer s H E hr=>(@Zae _ _ _ _ _ (Zbg (i:=3) sc_l_last.nd rfl rfl (vs:=5e0) (fs:=["_law_house","_law_deal"]) (fr:=[1,2]) 4e0 rfl (ZaO (Zab 0)) (fun _ _ _ _ _=>(Zak (i:=0) (show ((5e0:6e2)++(["_law_house","_law_deal"]:List Str)).Nodup by decide +kernel) rfl 2e3)) (fun _ _ _ _ _=>(Zbv (Zam (Zb7 9e9) ZaQ.r (Zav (Zab 0) ZaA (Zay Zac)) (Zaq (@Zaa _ _ _ _ _ (Zab 1) 8e5 1e0)) 7e4))) (fun _ _ _ _ _=>(Zab 0))) (@Zai _ _ _ (@Zar _ _ _ _ (q_em_if (Zam (ZbE 9e9) ZaQ.r (Zab 3) (Zas (Zau Zad)) 7e4) (Zag 6e3 (Zag 6e3 (Zab 3) (Zb3 Zac)) Zac) Zac))))
end
section
variable {P:Yx}{w:World}{K:W.Frag}{mg:3e0}{base:Heap}
abbrev s_l_gots:Stmt:=top 19
theorem Zbp:FnScope ["_law_left_here","_law_letters","_law_house","_law_deal","_law_some","_law_found","_law_k","_law_at"] ["_law_left_here","_law_letters","_law_house","_law_deal"] (defScope s_l_gots):=1e2
theorem ok_l_gots (Fn:Hd.FnAt K mg "_law_gots" s_l_gots)(T:Txt mg)(c__law_pick:4e6)(c__law_name:Cal P w K mg base 1 "_law_name" 5e0 (liftSp K F_l_name)):Cal P w K mg base 2 "_law_gots" ["_law_left_here","_law_letters","_law_house","_law_deal"] (liftSp K (F_l_gots)):=
 ZaF Fn Zbp (fun _ _ _ _ _ _=>ln4 fun _ _ _ _=>rfl) fun _ cdv A outer s H E hr=>(@Zae _ _ _ _ _ (Zbg (i:=4) Zbp.nd rfl rfl (vs:=5e0) (fs:=["_law_house","_law_deal"]) (fr:=[2,3]) 4e0 rfl (ZaO (Zab 1)) (fun _ _ _ _ _=>(Zak (i:=0) (show ((5e0:6e2)++(["_law_house","_law_deal"]:List Str)).Nodup by decide +kernel) rfl 2e3)) (fun _ _ _ _ _=>(Zbv (Zam (ZbE 9e9) ZaQ.r (Zav (Zab 0) ZaA (Zay Zac)) (Zaq (@Zaa _ _ _ _ _ (Zab 1) 8e5 1e0)) 7e4))) (fun _ _ _ _ _=>(Zab 0))) (@Zae _ _ _ _ _ (ZcP (n:=5) Zbp.nd rfl 2e3) (@Zae _ _ _ _ _ (Za2 Y5 rfl (ZaR 1e0 T.b_range (@Zaa _ _ _ _ _ (ZaS (Zag 6e3 4e5 1e1) (ZcR 1e0 T.b_int 1e0 (@Zaa _ _ _ _ _ (Zbk (ZbE 9e9) ZaQ.r (Zab 4) (Zas (Zau Zad)) 7e4) Zad 1e0))) Zad 1e0)) (Zak (i:=6) Zbp.nd rfl 2e3) (@Zae _ _ _ _ _ (Zaj (i:=7) Zbp.nd rfl 2e3 (Zao (Zaf c__law_pick 3e6 1e0 (@Zaa _ _ _ _ _ (Zab 0) (@Zaa _ _ _ _ _ (q_em_min rfl 1e0 T.b_min 1e0 (@Zaa _ _ _ _ _ (ZaH 1e0 T.b_len 13e4) 3e1 1e0)) Zad 1e0) 1e0)) Zac)) (@Zae _ _ _ _ _ (@ZaC _ _ _ _ _ _ _ _ (Zam op_eq eq_ok.r 1e1 Zac 7e4) (@Zai _ _ _ (Zaj (i:=7) Zbp.nd rfl 2e3 (Zao (Zaf c__law_pick 3e6 1e0 (@Zaa _ _ _ _ _ (Zab 0) (@Zaa _ _ _ _ _ (ZaH 1e0 T.b_len 13e4) Zad 1e0) 1e0)) Zac))) Zax) (@Zai _ _ _ (ZbV 9e9 ZbC (Zab 5) (Zaf c__law_name 3e6 1e0 (@Zaa _ _ _ _ _ (Zag 6e3 (Zab 4) (Zb3 (Zab 7))) Zad 1e0))))))) (@Zai _ _ _ (@Zar _ _ _ _ (ZbB 1e0 T.b_tuple 1e0 (@Zaa _ _ _ _ _ (Zas (ZbA rfl 9e9 1e0 T.b_sorted 1e0 (@Zaa _ _ _ _ _ (Zab 5) Zad 1e0))) Zad 1e0)))))))
end
section
variable {P:Yx}{w:World}{K:W.Frag}{mg:3e0}{base:Heap}
abbrev Zcj:Stmt:=top 20
theorem ZaG:FnScope ["_law_left_here","_law_town_here","_law_letters","_law_now","_law_names","_law_deal","_law_houses","_law_house","_law_mine","_law_prev","_law_nr","_law_time","_law_deed_here"] ["_law_left_here","_law_town_here","_law_letters","_law_now"] (defScope Zcj):=1e2
theorem ok_l_letter (Fn:Hd.FnAt K mg "_law_letter" Zcj)(T:Txt mg)(c__law_pick:4e6)(c__law_last:Cal P w K mg base 1 "_law_last" ["_law_letters","_law_house","_law_deal"] (liftSp K F_l_last))(c__law_deed:Cal P w K mg base 2 "_law_deed" ["_law_left_here","_law_deal"] (liftSp K F_l_deed))(c__law_gots:Cal P w K mg base 2 "_law_gots" ["_law_left_here","_law_letters","_law_house","_law_deal"] (liftSp K F_l_gots)):Cal P w K mg base 3 "_law_letter" ["_law_left_here","_law_town_here","_law_letters","_law_now"] (liftSp K (F_l_letter)):=
 ZaF Fn ZaG (fun _ _ _ _ _ _=>ln4 fun _ _ _ _=>rfl) fun _ cdv A outer s H E hr=>(@Zae _ _ _ _ _ (Zaj (i:=4) ZaG.nd rfl 2e3 (Zas (ZbA rfl 9e9 1e0 T.b_sorted 1e0 (@Zaa _ _ _ _ _ (Zag 6e3 (Zab 1) Zac) Zad 1e0)))) (@Zae _ _ _ _ _ (Zaj (i:=5) ZaG.nd rfl (Or.inr rfl) (Zag 6e3 (Zab 4) (Zaf c__law_pick 3e6 1e0 (@Zaa _ _ _ _ _ (Zab 0) (@Zaa _ _ _ _ _ (ZaH 1e0 T.b_len 13e4) Zad 1e0) 1e0)))) (@Zae _ _ _ _ _ (Zaj (i:=6) ZaG.nd rfl 2e3 (Zag 6e3 (Zag 6e3 (Zag 6e3 (Zab 1) Zac) (Zab 5)) Zac)) (@Zae _ _ _ _ _ (Zaj (i:=7) ZaG.nd rfl (Or.inr rfl) (Zag 6e3 (Zao (Zao (Zab 6) (Zab 6)) (Zaq (@Zaa _ _ _ _ _ ZaB (@Zaa _ _ _ _ _ ZaB Zad 1e0) 1e0))) (Zaf c__law_pick 3e6 1e0 (@Zaa _ _ _ _ _ (Zab 0) (@Zaa _ _ _ _ _ (Zao (ZaS Zac (ZaH 1e0 T.b_len (@Zaa _ _ _ _ _ (Zab 6) Zad 1e0))) Zac) Zad 1e0) 1e0)))) (@Zae _ _ _ _ _ (Zbg (i:=8) ZaG.nd rfl rfl (vs:=5e0) (fs:=["_law_house","_law_deal"]) (fr:=[7,5]) 4e0 rfl (ZaO (Zab 2)) (fun _ _ _ _ _=>(Zak (i:=0) (show ((5e0:6e2)++(["_law_house","_law_deal"]:List Str)).Nodup by decide +kernel) rfl 2e3)) (fun _ _ _ _ _=>(Zbv (Zam (Zb7 9e9) ZaQ.r (Zav (Zab 0) ZaA (Zay Zac)) (Zaq (@Zaa _ _ _ _ _ (Zab 1) 8e5 1e0)) 7e4))) (fun _ _ _ _ _=>(Zab 0))) (@Zae _ _ _ _ _ (Zaj (i:=9) ZaG.nd rfl 2e3 (Zaf c__law_last 3e6 1e0 (@Zaa _ _ _ _ _ (Zab 2) (@Zaa _ _ _ _ _ (Zab 7) (@Zaa _ _ _ _ _ (Zab 5) Zad 1e0) 1e0) 1e0))) (@Zae _ _ _ _ _ (@ZaC _ _ _ _ _ _ _ _ (Zb5 (Zbu (Zam (ZbE 9e9) ZaQ.r (Zab 8) (Zas (Zau Zad)) 7e4) (Zbe (Zam op_eq eq_ok.r 1e1 Zac 7e4)))) (@Zai _ _ _ (Zaj (i:=9) ZaG.nd rfl 2e3 (Zag 6e3 (Zas (Zau (@Zaa _ _ _ _ _ Zac (@Zaa _ _ _ _ _ (Zag 6e3 (Zag 6e3 (Zab 8) (Zaf c__law_pick 3e6 1e0 (@Zaa _ _ _ _ _ (Zab 0) (@Zaa _ _ _ _ _ (ZaH 1e0 T.b_len (@Zaa _ _ _ _ _ (Zab 8) Zad 1e0)) Zad 1e0) 1e0))) Zac) Zad 1e0) 1e0))) 1e1))) Zax) (@Zae _ _ _ _ _ (Zaj (i:=10) ZaG.nd rfl 2e3 (Zao (ZaH 1e0 T.b_len (@Zaa _ _ _ _ _ (Zab 8) Zad 1e0)) Zac)) (@Zae _ _ _ _ _ (@ZaC _ _ _ _ _ _ _ _ (Zam op_eq eq_ok.r 1e1 Zac 7e4) (@Zai _ _ _ (Zaj (i:=10) ZaG.nd rfl 2e3 (Zao Zac (ZaS Zac (ZaH 1e0 T.b_len 8e5))))) Zax) (@Zae _ _ _ _ _ (@ZaC _ _ _ _ _ _ _ _ (Zam (op_inD 9e9) inD_ok.r (Zab 10) (Zas (Za3 (vs:=5e0) (fs:=[]) (fr:=[]) 4e0 rfl (ZaO (Zab 8)) (fun _ _ _ _ _=>(Zak (i:=0) (show ((5e0:6e2)++([]:List Str)).Nodup by decide +kernel) rfl 2e3)) (fun _ _ _ _ _=>Za6) (fun _ _ _ _ _=>10e3))) rfl) (@Zai _ _ _ (Zaj (i:=10) ZaG.nd rfl 2e3 (Zao Zac (ZaS Zac (ZaH 1e0 T.b_len 8e5))))) Zax) (@Zae _ _ _ _ _ (Zaj (i:=11) ZaG.nd rfl 2e3 (q_em_if (Zam op_gt gt_ok.r 1e1 Zac 7e4) (Zab 3) (q_em_max rfl 1e0 T.b_max 1e0 (@Zaa _ _ _ _ _ Zac (@Zaa _ _ _ _ _ (ZbL (ZbL (Zab 3) Zac) 1e1) Zad 1e0) 1e0)))) (@Zae _ _ _ _ _ (Zaj (i:=12) ZaG.nd rfl 2e3 (Zaf c__law_deed 3e6 1e0 (@Zaa _ _ _ _ _ (Zab 0) (@Zaa _ _ _ _ _ (Zag 6e3 (Zag 6e3 (Zab 1) Zac) (Zab 5)) Zad 1e0) 1e0))) (@Zai _ _ _ (@Zar _ _ _ _ (Zaq (@Zaa _ _ _ _ _ (Zab 7) (@Zaa _ _ _ _ _ (Zab 5) (@Zaa _ _ _ _ _ (Zab 10) (@Zaa _ _ _ _ _ (Zab 9) (@Zaa _ _ _ _ _ (Zaf c__law_gots 3e6 1e0 (@Zaa _ _ _ _ _ (Zab 0) (@Zaa _ _ _ _ _ (Zab 2) (@Zaa _ _ _ _ _ (Zab 7) (@Zaa _ _ _ _ _ (Zab 5) Zad 1e0) 1e0) 1e0) 1e0)) (@Zaa _ _ _ _ _ (Zab 11) (@Zaa _ _ _ _ _ (Zab 12) Zad 1e0) 1e0) 1e0) 1e0) 1e0) 1e0) 1e0))))))))))))))))
end
section
variable {P:Yx}{w:World}{K:W.Frag}{mg:3e0}{base:Heap}
abbrev s_l_pile:Stmt:=top 21
theorem Za7:FnScope ["_law_script","_law_town_here","_law_many","_law_letters","_law_now","_law_deal","_law_house","_law_k","_law_left_here"] ["_law_script","_law_town_here","_law_many"] (defScope s_l_pile):=1e2
theorem ok_l_pile (Fn:Hd.FnAt K mg "_law_pile" s_l_pile)(T:Txt mg)(cF__law_left:Cal P w K mg base 2 "_law_left" 12e3 (liftSpF K FF_l_left))(c__law_pick:4e6)(c__law_letter:Cal P w K mg base 3 "_law_letter" ["_law_left_here","_law_town_here","_law_letters","_law_now"] (liftSp K F_l_letter)):Cal P w K mg base 4 "_law_pile" ["_law_script","_law_town_here","_law_many"] (liftSp K (F_l_pile)):=
 ZaF Fn Za7 (fun _ _ _ _ _ _=>ln3 fun _ _ _=>rfl) fun _ cdv A outer s H E hr=>(@Zae _ _ _ _ _ (Za1 (i:=3) Za7.nd rfl 2e3 (Zau Zad)) (@Zae _ _ _ _ _ (Zaj (i:=4) Za7.nd rfl 2e3 Zac) (@Zae _ _ _ _ _ (Za2 Y5 rfl (ZaO (Zas (ZbA rfl 9e9 1e0 T.b_sorted 1e0 (@Zaa _ _ _ _ _ (Zag 6e3 (Zab 1) Zac) Zad 1e0)))) (Zak (i:=5) Za7.nd rfl 2e3) (@Zai _ _ _ (Za2 Y5 rfl (ZaO (Zag 6e3 (Zag 6e3 (Zag 6e3 (Zab 1) Zac) (Zab 5)) Zac)) (Zak (i:=6) Za7.nd rfl 2e3) (@Zai _ _ _ (@ZaC _ _ _ _ _ _ _ _ (Zam Zcv Zcw.r (ZaH 1e0 T.b_len 11e5) (Zab 2) 7e4) (@Zai _ _ _ (Za9 (ZaY (Zab 3) (@Zaa _ _ _ _ _ (Zaq (@Zaa _ _ _ _ _ (Zab 6) (@Zaa _ _ _ _ _ (Zab 5) (@Zaa _ _ _ _ _ Zac (@Zaa _ _ _ _ _ Zac (@Zaa _ _ _ _ _ (Zaq Zad) (@Zaa _ _ _ _ _ (Zab 4) (@Zaa _ _ _ _ _ (Zaq (@Zaa _ _ _ _ _ ZaB Zad 1e0)) Zad 1e0) 1e0) 1e0) 1e0) 1e0) 1e0) 1e0)) Zad 1e0)))) Zax))))) (@Zae _ _ _ _ _ (Za2 Y5 rfl (ZaR 1e0 T.b_range (@Zaa _ _ _ _ _ (ZbL (Zab 2) (ZaH 1e0 T.b_len 11e5)) Zad 1e0)) (Zak (i:=7) Za7.nd rfl 2e3) (@Zae _ _ _ _ _ (Za1 (i:=8) Za7.nd rfl 2e3 (Zbj cF__law_left 3e6 1e0 (@Zaa _ _ _ _ _ (Zab 0) (@Zaa _ _ _ _ _ (Zao Zac (Zab 7)) Zad 1e0) 1e0))) (@Zae _ _ _ _ _ (Zaj (i:=4) Za7.nd rfl 2e3 (Zao (Zab 4) (Zag 6e3 4e5 (Zaf c__law_pick 3e6 1e0 (@Zaa _ _ _ _ _ (Zab 8) 3e1 1e0))))) (@Zai _ _ _ (Za9 (ZaY (Zab 3) (@Zaa _ _ _ _ _ (q_em_calS [0] c__law_letter 3e6 1e0 (@Zaa _ _ _ _ _ (Zab 8) (@Zaa _ _ _ _ _ (Zab 1) (@Zaa _ _ _ _ _ (Zab 3) 13e4 1e0) 1e0) 1e0)) Zad 1e0))))))) (@Zai _ _ _ (@Zar _ _ _ _ (Zab 3)))))))
end
section
variable {P:Yx}{w:World}{K:W.Frag}{mg:3e0}{base:Heap}
abbrev Zby:Stmt:=top 22
theorem Zba:FnScope ["_law_left_here","_law_pile_here","_law_some","_law_turn"] ["_law_left_here","_law_pile_here"] (defScope Zby):=1e2
theorem ok_l_left_out (Fn:Hd.FnAt K mg "_law_left_out" Zby)(T:Txt mg)(c__law_pick:4e6):Cal P w K mg base 2 "_law_left_out" ["_law_left_here","_law_pile_here"] (liftSp K (F_l_left_out)):=
 ZaF Fn Zba 7e6 fun _ cdv A outer s H E hr=>(@Zae _ _ _ _ _ (Zaj (i:=2) Zba.nd rfl (Or.inr rfl) (Zas (Za3 (vs:=5e0) (fs:=["_law_left_here"]) (fr:=[0]) 4e0 rfl (ZaO (Zab 1)) (fun _ _ _ _ _=>(Zak (i:=0) (show ((5e0:6e2)++(["_law_left_here"]:List Str)).Nodup by decide +kernel) rfl 2e3)) (fun _ _ _ _ _=>(Zbv (Zam op_gt gt_ok.r 6e8 Zac 7e4))) (fun _ _ _ _ _=>(Zab 0))))) (@Zae _ _ _ _ _ (Zaj (i:=2) Zba.nd rfl (Or.inr rfl) (Zao (Zab 2) (Zas (Za3 (vs:=["_law_k"]) (fs:=["_law_some","_law_left_here"]) (fr:=[2,0]) 4e0 rfl (ZaR 1e0 T.b_range (@Zaa _ _ _ _ _ (ZaS 1e1 (ZcR 1e0 T.b_int 1e0 (@Zaa _ _ _ _ _ (Zbk (ZbE 9e9) ZaQ.r (Zab 2) (Zas (Zau Zad)) 7e4) Zad 1e0))) Zad 1e0)) (fun _ _ _ _ _=>(Zak (i:=0) (show ((["_law_k"]:List Str)++(["_law_some","_law_left_here"]:List Str)).Nodup by decide +kernel) rfl 2e3)) (fun _ _ _ _ _=>Za6) (fun _ _ _ _ _=>(Zag 6e3 (Zab 1) (Zaf c__law_pick 3e6 1e0 (@Zaa _ _ _ _ _ (Zab 2) (@Zaa _ _ _ _ _ (ZaH 1e0 T.b_len (@Zaa _ _ _ _ _ (Zab 1) Zad 1e0)) Zad 1e0) 1e0)))))))) (@Zae _ _ _ _ _ (Zaj (i:=3) Zba.nd rfl 2e3 (Zaf c__law_pick 3e6 1e0 (@Zaa _ _ _ _ _ (Zab 0) (@Zaa _ _ _ _ _ (Zao (ZaH 1e0 T.b_len 8e5) Zac) Zad 1e0) 1e0))) (@Zai _ _ _ (@Zar _ _ _ _ (Zao (Zav (Zab 2) (Zay (Zab 3)) ZaA) (Zav (Zab 2) ZaA (Zay (Zab 3)))))))))
end
section
variable {P:Yx}{w:World}{K:W.Frag}{mg:3e0}{base:Heap}
abbrev Zci:Stmt:=top 23
theorem ZaX:FnScope ["_law_left_here","_law_pile_here","_law_made","_law_letter_here","_law_mine","_law_way","_law_prev"] ["_law_left_here","_law_pile_here"] (defScope Zci):=1e2
theorem ok_l_turned (Fn:Hd.FnAt K mg "_law_turned" Zci)(T:Txt mg)(c__law_pick:4e6):Cal P w K mg base 2 "_law_turned" ["_law_left_here","_law_pile_here"] (liftSp K (F_l_turned)):=
 ZaF Fn ZaX 7e6 fun _ cdv A outer s H E hr=>(@Zae _ _ _ _ _ (Za1 (i:=2) ZaX.nd rfl 2e3 (Zau Zad)) (@Zae _ _ _ _ _ (Za2 Y5 rfl (ZaO (Zab 1)) (Zak (i:=3) ZaX.nd rfl (Or.inr rfl)) (@Zae _ _ _ _ _ (Zbg (i:=4) ZaX.nd rfl rfl (vs:=["_law_other"]) (fs:=5e0) (fr:=[3]) 4e0 rfl (ZaO (Zab 1)) (fun _ _ _ _ _=>(Zak (i:=0) (show ((["_law_other"]:List Str)++(5e0:6e2)).Nodup by decide +kernel) rfl 2e3)) (fun _ _ _ _ _=>(Zbv (Zam (Zb7 9e9) ZaQ.r (Zav (Zab 0) ZaA (Zay Zac)) (Zav (Zab 1) ZaA (Zay Zac)) 7e4))) (fun _ _ _ _ _=>10e3)) (@Zae _ _ _ _ _ (Zaj (i:=5) ZaX.nd rfl 2e3 1e1) (@Zae _ _ _ _ _ (Zaj (i:=6) ZaX.nd rfl 2e3 (Zag 6e3 (Zab 3) Zac)) (@Zae _ _ _ _ _ (@ZaC _ _ _ _ _ _ _ _ (Zam Zcv Zcw.r (Zab 5) Zac 7e4) (@Zai _ _ _ (Zaj (i:=6) ZaX.nd rfl 2e3 (Zag 6e3 (Zas (Zau (@Zaa _ _ _ _ _ Zac (@Zaa _ _ _ _ _ (Zag 6e3 (Zab 3) Zac) (@Zaa _ _ _ _ _ (Zag 6e3 (Zab 4) (Zaf c__law_pick 3e6 1e0 (@Zaa _ _ _ _ _ (Zab 0) (@Zaa _ _ _ _ _ (ZaH 1e0 T.b_len 13e4) Zad 1e0) 1e0))) 3e1 1e0) 1e0) 1e0))) (Zab 5)))) Zax) (@Zai _ _ _ (Za9 (ZaY (Zab 2) (@Zaa _ _ _ _ _ (Zao (Zao (Zav (Zab 3) ZaA (Zay Zac)) (Zaq (@Zaa _ _ _ _ _ (Zab 6) Zad 1e0))) (Zav (Zab 3) (Zay Zac) ZaA)) Zad 1e0))))))))) (@Zai _ _ _ (@Zar _ _ _ _ (Zab 2)))))
end
section
variable {P:Yx}{w:World}{K:W.Frag}{mg:3e0}{base:Heap}
abbrev Zck:Stmt:=top 24
theorem Zbd:FnScope ["_law_found","_law_named","_law_letter_here","_law_names","_law_k","_law_one","_law_first"] ["_law_found","_law_named","_law_letter_here"] (defScope Zck):=1e2
theorem ok_l_is_row (Fn:Hd.FnAt K mg "_law_is_row" Zck)(T:Txt mg):Cal P w K mg base 1 "_law_is_row" ["_law_found","_law_named","_law_letter_here"] (liftSp K (F_l_is_row)):=
 ZaF Fn Zbd (fun _ _ _ _ _ _=>ln3 fun _ _ _=>rfl) fun _ cdv A outer s H E hr=>(@Zae _ _ _ _ _ (@ZaC _ _ _ _ _ _ _ _ (Zb5 (q_wm_or (q_tm_not (q_tm_tru (q_em_isi 1e0 T.b_isinstance 1e0 (@Zaa _ _ _ _ _ (Zab 0) (@Zaa _ _ _ _ _ (q_em_ty 1e0 T.b_list 1e0) Zad 1e0) 1e0)))) (q_wm_or (Zam (Zb7 9e9) ZaQ.r (Zab 0) (Zas (Zau Zad)) 7e4) (q_wm_or1 (Zam (ZbE 9e9) ZaQ.r (Zag 6e3 (Zab 0) (Zb3 Zac)) (Zab 2) 7e4))))) (@Zai _ _ _ (@Zar _ _ _ _ ZbC)) Zax) (@Zae _ _ _ _ _ (Zbg (i:=3) Zbd.nd rfl rfl (vs:=["_law_one"]) (fs:=[]) (fr:=[]) 4e0 rfl (ZaO (Zab 0)) (fun _ _ _ _ _=>(Zak (i:=0) (show ((["_law_one"]:List Str)++([]:List Str)).Nodup by decide +kernel) rfl 2e3)) (fun _ _ _ _ _=>Za6) (fun _ _ _ _ _=>(Zav (Zab 0) ZaA (Zay Zac)))) (@Zae _ _ _ _ _ (Za2 Y5 rfl (q_im_enum 1e0 T.b_enumerate 13e3) (ZbK rfl (Zaz (Zak (i:=4) Zbd.nd rfl 2e3) (Zaz (Zak (i:=5) Zbd.nd rfl 2e3) Zbr))) (@Zae _ _ _ _ _ (@ZaC _ _ _ _ _ _ _ _ (Zb5 (q_wm_or (Zam (ZbE 9e9) ZaQ.r (q_em_getT 9e9 (Zab 1) (@Zaa _ _ _ _ _ (Zav (Zab 5) ZaA (Zay Zac)) Zad 1e0)) (Zab 5) 7e4) (q_wm_or1 (Zam op_gt gt_ok.r (q_em_count 9e9 (Zav (Zab 3) ZaA (Zay (Zab 4))) (@Zaa _ _ _ _ _ (Zav (Zab 5) ZaA (Zay Zac)) Zad 1e0)) Zac 7e4)))) (@Zai _ _ _ (@Zar _ _ _ _ ZbC)) Zax) (@Zai _ _ _ (@ZaC _ _ _ _ _ _ _ _ (Zb5 (Zbu (Zam op_gt gt_ok.r (Zab 4) Zac 7e4) (Zbe (Zam (ZbE 9e9) ZaQ.r (Zaq (@Zaa _ _ _ _ _ (Zag 6e3 (Zab 5) Zac) (@Zaa _ _ _ _ _ (Zag 6e3 (Zab 5) Zac) (@Zaa _ _ _ _ _ (Zag 6e3 (Zab 5) Zac) Zad 1e0) 1e0) 1e0)) (Zag 6e3 (Zab 3) (ZbL (Zab 4) Zac)) 7e4)))) (@Zai _ _ _ (@Zar _ _ _ _ ZbC)) Zax)))) (@Zae _ _ _ _ _ (Zaj (i:=6) Zbd.nd rfl 2e3 (Zaq (@Zaa _ _ _ _ _ (Zag 6e3 10e3 Zac) (@Zaa _ _ _ _ _ (Zag 6e3 10e3 Zac) (@Zaa _ _ _ _ _ (Zag 6e3 10e3 Zac) Zad 1e0) 1e0) 1e0))) (@Zai _ _ _ (@Zar _ _ _ _ (q_em_or (Zbk (Zb7 9e9) ZaQ.r (Zag 6e3 10e3 Zac) Zac 7e4) (q_em_or (Zbk (Zb6 9e9) Zdt.r (Zab 6) (Zab 1) rfl) (q_em_one (Zbk (op_inD 9e9) inD_ok.r (Zab 6) (Zab 3) rfl))))))))))
end
section
variable {P:Yx}{w:World}{K:W.Frag}{mg:3e0}{base:Heap}
abbrev ZcM:Stmt:=top 25
theorem Zch:FnScope ["_law_pile_here","_law_named","_law_letter_here","_law_found","_law_held"] ["_law_pile_here","_law_named","_law_letter_here"] (defScope ZcM):=1e2
theorem ok_l_asked (Fn:Hd.FnAt K mg "_law_asked" ZcM)(T:Txt mg)(cF_row:Cal P w K mg base 3 "row" ["pile","name"] (liftSpF K FF_row))(c__law_is_row:Cal P w K mg base 1 "_law_is_row" ["_law_found","_law_named","_law_letter_here"] (liftSp K F_l_is_row))(c_row:Cal P w K mg base 3 "row" ["pile","name"] (liftSp K F_row)):Cal P w K mg base 4 "_law_asked" ["_law_pile_here","_law_named","_law_letter_here"] (liftSp K (F_l_asked)):=
 ZaF Fn Zch (fun _ _ _ _ _ _=>ln3 fun _ _ _=>rfl) fun _ cdv A outer s H E hr=>(@Zae _ _ _ _ _ (Za1 (i:=3) Zch.nd rfl 2e3 (Zbj cF_row 3e6 1e0 (@Zaa _ _ _ _ _ (Zab 0) (@Zaa _ _ _ _ _ (Zav (Zab 2) ZaA (Zay Zac)) Zad 1e0) 1e0))) (@Zae _ _ _ _ _ (@ZaC _ _ _ _ _ _ _ _ (q_tm_not (q_tm_tru (q_em_calS [] c__law_is_row 3e6 1e0 (@Zaa _ _ _ _ _ (Zab 3) (@Zaa _ _ _ _ _ (Zab 1) 8e5 1e0) 1e0)))) (@Zai _ _ _ (@Zar _ _ _ _ ZbC)) Zax) (@Zae _ _ _ _ _ (Zaj (i:=4) Zch.nd rfl 2e3 (Zas (Zcm 1e0 T.b_list 1e0 11e5))) (@Zae _ _ _ _ _ (Za9 (q_em_rev (Zab 3))) (@Zae _ _ _ _ _ (Za9 (ZaY (Zab 3) 8e5)) (@Zai _ _ _ (@Zar _ _ _ _ (Zbk (Zb7 9e9) ZaQ.r (Zaf c_row 3e6 1e0 (@Zaa _ _ _ _ _ (Zab 0) (@Zaa _ _ _ _ _ (Zav (Zab 2) ZaA (Zay Zac)) Zad 1e0) 1e0)) (Zab 4) 7e4))))))))
end
section
variable {P:Yx}{w:World}{K:W.Frag}{mg:3e0}{base:Heap}
abbrev s_law:Stmt:=top 26
theorem Zbx:FnScope ["_law_script","_law_town_here","_law_left_here","_law_pile_here","_law_held","_law_named","_law_letter_here","_law_ahead","_law_name_here"] ["_law_script"] (defScope s_law):=1e2
theorem ok_law {f_me:Addr}{fd_me:XM}(Fn:Fun K "law" "law" s_law f_me fd_me)(T:Txt mg)(c_row:Cal P w K mg base 3 "row" ["pile","name"] (liftSp K F_row))(c__law_town:Cal P w K mg base 4 "_law_town" ["_law_script"] (liftSp K F_l_town))(cF__law_left:Cal P w K mg base 2 "_law_left" 12e3 (liftSpF K FF_l_left))(c__law_pick:4e6)(c__law_pile:Cal P w K mg base 4 "_law_pile" ["_law_script","_law_town_here","_law_many"] (liftSp K F_l_pile))(c__law_turned:Cal P w K mg base 2 "_law_turned" ["_law_left_here","_law_pile_here"] (liftSp K F_l_turned))(c__law_left_out:Cal P w K mg base 2 "_law_left_out" ["_law_left_here","_law_pile_here"] (liftSp K F_l_left_out))(c__law_asked:Cal P w K mg base 4 "_law_asked" ["_law_pile_here","_law_named","_law_letter_here"] (liftSp K F_l_asked)):FnOk P w K mg base CX0 5 f_me fd_me ["_law_script"] (liftSp K (F_law)):=
 q_fn_mk Fn Zbx fun cdv A outer s H E hr=>(@Zae _ _ _ _ _ (@ZaC _ _ _ _ _ _ _ _ (Zam (ZbE 9e9) ZaQ.r (Zaf c_row 3e6 1e0 (@Zaa _ _ _ _ _ (Zas (Zau Zad)) (@Zaa _ _ _ _ _ (Zaq (@Zaa _ _ _ _ _ ZaB (@Zaa _ _ _ _ _ ZaB 3e1 1e0) 1e0)) Zad 1e0) 1e0)) (Zas (Zau Zad)) 7e4) (@Zai _ _ _ (@Zar _ _ _ _ ZbC)) Zax) (@Zae _ _ _ _ _ (Zaj (i:=1) Zbx.nd rfl 2e3 (Zaf c__law_town 3e6 1e0 13e3)) (@Zae _ _ _ _ _ (Za1 (i:=2) Zbx.nd rfl 2e3 (Zbj cF__law_left 3e6 1e0 (@Zaa _ _ _ _ _ (Zab 0) 3e1 1e0))) (@Zae _ _ _ _ _ (Zaj (i:=3) Zbx.nd rfl 2e3 (Zaf c__law_pile 3e6 1e0 (@Zaa _ _ _ _ _ (Zab 0) (@Zaa _ _ _ _ _ (Zab 1) (@Zaa _ _ _ _ _ (Zaf c__law_pick 3e6 1e0 (@Zaa _ _ _ _ _ (Zab 2) 3e1 1e0)) Zad 1e0) 1e0) 1e0))) (@Zae _ _ _ _ _ (@ZaC _ _ _ _ _ _ _ _ (Zam (Zb7 9e9) ZaQ.r (Zaf c__law_pick 3e6 1e0 (@Zaa _ _ _ _ _ (Zab 2) 3e1 1e0)) Zac 7e4) (@Zai _ _ _ (Zaj (i:=3) Zbx.nd rfl 2e3 (Zaf c__law_turned 3e6 1e0 (@Zaa _ _ _ _ _ (Zab 2) 11e5 1e0)))) Zax) (@Zae _ _ _ _ _ (Zaj (i:=3) Zbx.nd rfl 2e3 (Zaf c__law_left_out 3e6 1e0 (@Zaa _ _ _ _ _ (Zab 2) 11e5 1e0))) (@Zae _ _ _ _ _ (Zaj (i:=4) Zbx.nd rfl 2e3 (Zas (Zcm 1e0 T.b_list 1e0 11e5))) (@Zae _ _ _ _ _ (Zaj (i:=5) Zbx.nd rfl 2e3 (q_em_dictP rfl 9e9 1e0 T.b_dict 1e0 (@Zaa _ _ _ _ _ (Zas (Za3 (vs:=5e0) (fs:=[]) (fr:=[]) 4e0 rfl (ZaO (Zab 3)) (fun _ _ _ _ _=>(Zak (i:=0) (show ((5e0:6e2)++([]:List Str)).Nodup by decide +kernel) rfl 2e3)) (fun _ _ _ _ _=>Za6) (fun _ _ _ _ _=>(Zaq (@Zaa _ _ _ _ _ (Zav (Zab 0) ZaA (Zay Zac)) 13e3 1e0))))) Zad 1e0))) (@Zae _ _ _ _ _ (Za2 Y5 rfl (ZaO (Zab 3)) (Zak (i:=6) Zbx.nd rfl 2e3) (@Zae _ _ _ _ _ (@ZaC _ _ _ _ _ _ _ _ (q_tm_not (q_tm_tru (Zaf c__law_asked 3e6 1e0 (@Zaa _ _ _ _ _ (Zab 3) (@Zaa _ _ _ _ _ (Zab 5) (@Zaa _ _ _ _ _ (Zab 6) Zad 1e0) 1e0) 1e0)))) (@Zai _ _ _ (@Zar _ _ _ _ ZbC)) Zax) (@Zae _ _ _ _ _ (Zaj (i:=7) Zbx.nd rfl 2e3 (q_em_mulL (Zas (Zau (@Zaa _ _ _ _ _ (Zao (Zav (Zab 6) ZaA (Zay Zac)) (Zaq (@Zaa _ _ _ _ _ (Zag 6e3 (Zab 6) Zac) Zad 1e0))) Zad 1e0))) (ZcR 1e0 T.b_int 1e0 (@Zaa _ _ _ _ _ (Zbk op_gt gt_ok.r (Zag 6e3 (Zab 6) Zac) Zac 7e4) Zad 1e0)))) (@Zai _ _ _ (Za2 Y5 rfl (ZaO (Zao (Zao (Zas (Zcm 1e0 T.b_list 1e0 (@Zaa _ _ _ _ _ (Zag 6e3 (Zab 6) Zac) Zad 1e0))) (Zab 7)) (Zas (Zau (@Zaa _ _ _ _ _ (Zao (Zav (Zab 6) ZaA (Zay Zac)) (Zaq 3e1)) (@Zaa _ _ _ _ _ (Zao (Zaq (@Zaa _ _ _ _ _ ZaB Zad 1e0)) (Zav (Zab 6) (Zay Zac) (Zay Zac))) Zad 1e0) 1e0))))) (Zak (i:=8) Zbx.nd rfl 2e3) (@Zai _ _ _ (@ZaC _ _ _ _ _ _ _ _ (Zb5 (Zbu (Zam (Zb6 9e9) Zdt.r (Zab 8) (Zab 5) rfl) (Zbe (Zam (ZbE 9e9) ZaQ.r (Zaf c_row 3e6 1e0 (@Zaa _ _ _ _ _ (Zab 3) (@Zaa _ _ _ _ _ (Zab 8) Zad 1e0) 1e0)) (Zas (Zau Zad)) 7e4)))) (@Zai _ _ _ (@Zar _ _ _ _ ZbC)) Zax))))))) (@Zai _ _ _ (@Zar _ _ _ _ (Zbk (Zb7 9e9) ZaQ.r (Zab 3) (Zab 4) 7e4))))))))))))
end
local macro_rules
 | `(tactic| simp![$args,*])=>`(tactic| simp[mDef,mRet,mRetF,mAndV,mOrV,mNotV,mCB,mOp,mChain,mTest,mTru,mNotT,mAndT,mOrT,mIf,mIfS,mSeq,mSkip,mSet,mDrop,mTup,mLst,mVal,mFn,mFnF,mSlice,mMt,mDict,mDict0,mList,listH,bnd,opM,aCons,aNil,mVar,mC,Pu.ret,g1,g2,derefs,deref,isiH,isiP,tyN,mB,asB,intP,fin,truP,lenH,Pu.plain,oNo,oPart,Pu.intD,sliceD,sliceP,isTy,tyP,mtD,eqP,neP,scP,$args,*])
local macro_rules
 |`(#[$x])=>`(some (.v $x))
theorem ZbQ {te:4e2}{f:PV->PV}:∀(xs:List PV) (ρ:PSt) (ys:List PV) (C:Cs),(∀x∈xs,te (ρ.set 0 #[x]) C=some (.v (f x),C))->compL 6e6 tOk te xs ρ ys C=some (ys++xs.map f,C)
 | [],ρ,ys,C,_=>by simp[compL,Pu.ret]
 | x::xs,ρ,ys,C,h=>by
  have h1:=h x 5e2
  have h2:=ZbQ xs (ρ.set 0 #[x]) (ys++[f x]) C fun y hy=>by rw[Xr];exact h y (by simp[hy])
  simp[compL,hName,bnd,tOk,Pu.ret,h1,h2]
theorem tk (C:Cs)(k:Nat)(v:PV):(C.set k v).take C.length=C.set k v:=List.take_of_length_le 5e2
theorem setAt {C:Cs}{k:Nat}{v w:PV}(h:C[k]? = some w):(C.set k v)[k]? = some v:=by
 have:k < C.length:=by
  rcases YJ k C.length with q | q
  ·exact q
  ·rw[Ye.mpr q] at h;cases h
 rw[Xk this]
theorem pick_spec (k:Nat)(x y m:Int)(C:Cs)(hC:C[k]? = some (.lst [.int x,.int y]))(hy:0<=y/\y < 2147483647)(hm:0 < m/\m < 1073741824):
  ∃d x' y',F_l_pick [.c k,.v (.int m)] C=some (.v (.int d),C.set k (.lst [.int x',.int y']))/\0<=d/\d < m/\0<=y'/\y' < 2147483647:=by
 by_cases hx:0 < x
 ·refine ⟨x % m,x / m,y,?_,Y6 _ 1e3,YW _ hm.1,hy.1,hy.2⟩
  simp![F_l_pick,ixQ,ixP,atI,ixN,hC,hx,hm.1,hm.2,mSetIx,setC,tk]
 ·have h1:0<=(y * 48271 + 12345) % 2147483647:=Y6 _ 1e4
  have h2:(y * 48271 + 12345) % 2147483647 < 2147483647:=YW _ 1e4
  refine ⟨(y * 48271 + 12345) % 2147483647 * ((y * 48271 + 12345) % 2147483647) % 1999999973 % m,x,(y * 48271 + 12345) % 2147483647,?_,Y6 _ 1e3,YW _ hm.1,h1,h2⟩
  generalize hz:(y * 48271 + 12345) % 2147483647=z at h1 h2
  have c1:(-18446744073709551616 < z/\z < 18446744073709551616):=by lia
  simp![F_l_pick,ixQ,ixP,atI,ixN,hC,hx,hm.1,hm.2,mSetIx,setC,tk,addP,setAt hC,hz,c1]
def GS (C:Cs)(k:Nat):Prop:=∃x y:Int,C[k]? = some (.lst [.int x,.int y])/\0<=y/\y < 2147483647
structure Adv (k:Nat)(C C':Cs):Prop where
 len:C'.length=C.length
 gs:GS C' k
 oth:∀j,j≠k->C'[j]? = C[j]?
theorem Adv.refl {k:Nat}{C:Cs}(h:GS C k):Adv k C C:=⟨rfl,h,fun _ _=>rfl⟩
theorem Adv.trans {k:Nat}{C C1 C2:Cs}(a:Adv k C C1)(b:Adv k C1 C2):Adv k C C2:=⟨b.len.trans a.len,b.gs,fun j h=>(b.oth j h).trans (a.oth j h)⟩
theorem Adv.take {k:Nat}{C C':Cs}(a:Adv k C C'):C'.take C.length=C':=List.take_of_length_le (by rw[a.len];exact Yh _)
theorem Zal (k:Nat)(m:Int)(C:Cs)(h:GS C k)(hm:0 < m/\m < 1073741824):∃d C',F_l_pick [.c k,.v (.int m)] C=some (.v (.int d),C')/\0<=d/\d < m/\Adv k C C':=by
 obtain ⟨x,y,hC,h1,h2⟩:=h
 obtain ⟨d,x',y',e,a1,a2,a3,a4⟩:=pick_spec k x y m C hC ⟨h1,h2⟩ hm
 exact ⟨d,_,e,a1,a2,by simp,⟨x',y',setAt hC,a3,a4⟩,fun j hj=>by rw[Ym (Xi hj)]⟩
theorem comp_adv {te:4e2}{k:Nat}{Pp:PV->Prop}:∀(xs:List PV) (ρ:PSt) (ys:List PV) (C:Cs),GS C k->(∀x C,GS C k->∃p C',te (ρ.set 0 #[x]) C=some (.v p,C')/\Pp p/\Adv k C C')->
  ∃zs C',compL 6e6 tOk te xs ρ ys C=some (ys++zs,C')/\zs.length=xs.length/\(∀p∈zs,Pp p)/\Adv k C C'
 | [],ρ,ys,C,g,h=>⟨[],C,by simp[compL,Pu.ret],rfl,by simp,Adv.refl g⟩
 | x::xs,ρ,ys,C,g,h=>by
  obtain ⟨p,C1,e1,hp,a1⟩:=h x C g
  obtain ⟨zs,C2,e2,hl,hz,a2⟩:=comp_adv (te:=te) (Pp:=Pp) xs (ρ.set 0 #[x]) (ys++[p]) C1 a1.gs fun y C' g'=>by rw[Xr];exact h y C' g'
  refine ⟨p::zs,C2,?_,by simp[hl],fun q hq=>?_,a1.trans a2⟩
  ·simp[compL,hName,bnd,tOk,Pu.ret,e1,e2]
  ·rcases Ys.mp hq with rfl | hq
   ·exact hp
   ·exact hz q hq
theorem ix_all {okk:PV->Bool}(L:List PV)(h:L.all okk=true)(d:Int)(h1:0<=d)(h2:d < L.length):∃p,ixQ (.lst L) (.int d)=some p/\okk p=true:=by
 have hd:d.toNat < L.length:=by lia
 refine ⟨L[d.toNat],?_,YM.mp h _ (YV hd)⟩
 simp[ixQ,ixP,atI,ixN,h1,h2,Yc hd]
theorem cut_len (xs:List PV)(lo hi:Option Int):(cutP xs lo hi).length<=xs.length:=by
 unfold cutP
 rw[Xh,VI]
 lia
theorem Zdw (ns:List Int)(i:Int)(C:Cs)(hi:0<=i):∃v:Int,F_l_cell_at [.v 12e5,.v (.int i)] C=some (.v (.int v),C):=by
 by_cases h:i < ns.length
 ·have hd:i.toNat < ns.length:=by lia
  refine ⟨ns[i.toNat],?_⟩
  simp![F_l_cell_at,ixQ,ixP,atI,ixN,hi,h,Yc hd]
 ·exact ⟨0,by simp![F_l_cell_at,h]⟩
theorem ZcX (ns:List Int)(k:Int)(C:Cs)(h1:0<=k)(h2:k<=1000):∃x y:Int,FF_l_left [.v 12e5,.v (.int k)] C=some ([.int x,.int y],C)/\0<=y/\y < 2147483647:=by
 have hm:0 < (if (ns.length:Int) > 1 then (ns.length:Int) else 1):=by split<;>lia
 obtain ⟨v,ev⟩:=Zdw ns (k % (if (ns.length:Int) > 1 then (ns.length:Int) else 1)) C (Y6 _ 1e3)
 obtain ⟨u,eu⟩:=Zdw ns 0 C 1e4
 have c1:-18446744073709551616 < k/\k < 18446744073709551616:=by lia
 have hm':0 < (if 1 < (ns.length:Int) then (ns.length:Int) else 1):=hm
 have ev':F_l_cell_at [.v 12e5,.v (.int (k % (if 1 < (ns.length:Int) then (ns.length:Int) else 1)))] C=some (.v (.int v),C):=ev
 have hcast:(if 1 < (ns.length:Int) then (ns.length:Int) else 1)=if 1 < ns.length then (ns.length:Int) else 1:=by
  by_cases q:1 < ns.length
  ·rw[if_pos q,if_pos 1e3]
  ·rw[if_neg q,if_neg 1e3]
 have p40:(0:Int) < 10 ^ 40:=by decide
 by_cases hu:u % 2=0
 ·refine ⟨0,(v % 2147483629 + 7919 * k * k + 11) * 48271 % 2147483647,?_,Y6 _ 1e4,YW _ 1e4⟩
  simp![FF_l_left,mDefF,maxH,ev',eu,hm',c1,addP,hu]
 ·refine ⟨v % 10 ^ 40,(v % 2147483629 + 7919 * k * k + 11) * 48271 % 2147483647,?_,Y6 _ 1e4,YW _ 1e4⟩
  simp![FF_l_left,mDefF,maxH,ev',eu,hm',c1,addP,hu]
theorem ZcC {g:5e8}{f:10e9}(Pi:PSt->Cs->Prop):∀(xs:List PV),(∀x∈xs,∀ρ C,Pi ρ C->∃ρ1 ρ2 C2,g x ρ=some ρ1/\f ρ1 C=some (.nx ρ2,C2)/\Pi ρ2 C2)->∀ρ C,Pi ρ C->∃ρ' C',loop g f xs ρ C=some (.nx ρ',C')/\Pi ρ' C'
 | [],_,ρ,C,h=>⟨ρ,C,rfl,h⟩
 | x::xs,hs,ρ,C,h=>by
  obtain ⟨ρ1,ρ2,C2,e1,e2,h2⟩:=hs x 5e2 ρ C h
  obtain ⟨ρ',C',e3,h3⟩:=ZcC Pi xs (fun y hy=>hs y (by simp[hy])) ρ2 C2 h2
  refine ⟨ρ',C',?_,h3⟩
  unfold loop
  simp only[e1,bnd,e2,e3]
structure Lt where
 h:Str
 d:Str
 n:Int
 pv:Int
 gs:List 9e8
 t:Int
 dd:List Key
def Lt.P (l:Lt):PV:=.tup [.str l.h,.str l.d,.int l.n,.int l.pv,.tup (l.gs.map tupK),.int l.t,tupK l.dd]
noncomputable def Lt.nm (l:Lt):List Key:=[.inr l.h,.inr l.d,.inl l.n]
noncomputable def Lt.fo (l:Lt):List Key:=[.inr l.h,.inr l.d,.inl l.pv]
theorem ZaW {α:Type}{f:α->PV}(h:∀x,dat (f x)=true):∀l:List α,dats (l.map f)=true
 | []=>rfl
 | a::l=>by rw[Yu];unfold dats;rw[h a,ZaW h l];rfl
theorem ZaV {α:Type}{f:α->PV}{n:Nat}(h:∀x,dep (f x)<=n):∀l:List α,deps (l.map f)<=n
 | []=>Xe _
 | a::l=>by rw[Yu];unfold deps;have:=h a;have:=ZaV h l;lia
theorem Zbw {α:Type}{f:α->PV}(h:∀x,pur (f x)=true):∀l:List α,purs (l.map f)=true
 | []=>rfl
 | a::l=>by rw[Yu];unfold purs;rw[h a,Zbw h l];rfl
theorem Zc3 {α:Type}{f:α->PV}(h:∀x,flat (f x)=true):∀l:List α,flats (l.map f)=true
 | []=>rfl
 | a::l=>by rw[Yu];unfold flats;rw[h a,Zc3 h l];rfl
theorem dat_kP (k:Key):dat (kP k)=true:=by cases k<;>rfl
theorem dep_kP (k:Key):dep (kP k)<=0:=by cases k<;>exact Yh _
theorem pur_kP (k:Key):pur (kP k)=true:=by cases k<;>rfl
theorem flat_kP (k:Key):flat (kP k)=true:=by cases k<;>rfl
theorem Za4 (k:9e2):dat (tupK k)=true:=by unfold tupK dat;exact ZaW dat_kP k
theorem Zbn (k:9e2):dep (tupK k)<=1:=by unfold tupK dep;have:=ZaV dep_kP k;lia
theorem Zbl (k:9e2):pur (tupK k)=true:=by unfold tupK pur;exact Zbw pur_kP k
theorem flat_tupK (k:9e2):flat (tupK k)=true:=by unfold tupK flat;exact Zc3 flat_kP k
theorem dat_P (l:Lt):dat l.P=true:=by simp[Lt.P,dat,dats,ZaW Za4,Za4]
theorem dep_P (l:Lt):dep l.P<=3:=by
 have h1:=ZaV Zbn l.gs
 have h2:=Zbn l.dd
 simp only[Lt.P,dep,deps];lia
theorem pur_P (l:Lt):pur l.P=true:=by simp[Lt.P,pur,purs,Zbw Zbl,Zbl]
theorem flat_P (l:Lt):flat l.P=true:=by simp[Lt.P,flat,flats,Zc3 flat_tupK,flat_tupK]
theorem nm_P (l:Lt):tupK l.nm=.tup [.str l.h,.str l.d,.int l.n]:=rfl
theorem fo_P (l:Lt):tupK l.fo=.tup [.str l.h,.str l.d,.int l.pv]:=rfl
theorem cut3 (l:Lt):cutP [PV.str l.h,.str l.d,.int l.n,.int l.pv,.tup (l.gs.map tupK),.int l.t,tupK l.dd] none (some 3)=[.str l.h,.str l.d,.int l.n]:=by
 simp[cutP,HT.sIx]
theorem cut2 (l:Lt):cutP [PV.str l.h,.str l.d,.int l.n,.int l.pv,.tup (l.gs.map tupK),.int l.t,tupK l.dd] none (some 2)=[.str l.h,.str l.d]:=by
 simp[cutP,HT.sIx]
theorem name_of_eq (l:Lt)(C:Cs):F_name_of [.v l.P] C=some (.v (tupK l.nm),C):=by
 simp![F_name_of,Lt.P,cut3,nm_P]
theorem followed_eq (l:Lt)(C:Cs):F_followed [.v l.P] C=some (.v (tupK l.fo),C):=by
 simp![F_followed,Lt.P,ixQ,ixP,atI,ixN,fo_P]
def pr (l:Lt):List Key×PV:=(l.nm,l.P)
def dF (ls:List Lt):List 9e8×List PV:=dFold (ls.map pr) [] []
theorem put_len {ks:List 9e8}{ps:List PV}{k:9e2}{p:PV}(h:ks.length=ps.length):(putKs ks k).length=(putVs ks ps k p).length:=by
 unfold putKs putVs
 cases inK k ks with
 | true=>simp[h]
 | false=>simp[h]
theorem putKs_le (ks:List 9e8)(k:9e2):(putKs ks k).length<=ks.length + 1:=by
 unfold putKs;split<;>simp
theorem inK_put (ks:List 9e8)(k q:9e2):inK q (putKs ks k)=(decide (k=q)||inK q ks):=by
 unfold putKs
 cases e:inK k ks with
 | true=>
  simp only[if_true]
  by_cases h:k=q
  ·subst h;rw[e];simp
  ·simp[h]
 | false=>
  simp only[YT,if_false]
  unfold inK
  rw[List.any_append]
  simp[Bool.or_comm]
theorem ZcV (k q:9e2)(p:PV):∀{ks:List 9e8} {ps:List PV},ks.length=ps.length->inK k ks=true->lookT ks ((ks.zip ps).map fun z=>if z.1=k then p else z.2) q=if k=q then some p else lookT ks ps q
 | [],ps,h,hi=>by cases hi
 | a::ks,[],h,hi=>by simp at h
 | a::ks,b::ps,h,hi=>by
  rw[YU,Yu]
  unfold lookT
  by_cases ha:a=k
  ·subst ha
   by_cases hq:a=q
   ·simp[hq]
   ·simp only[if_true,hq,if_false]
    by_cases hi2:inK a ks=true
    ·rw[ZcV a q p 12e0 hi2,if_neg hq]
    ·have:((ks.zip ps).map fun z=>if z.1=a then p else z.2)=ps:=by
      clear hi
      induction ks generalizing ps with
      | nil=>cases ps with
       | nil=>rfl
       | cons _ _=>simp at h
      | cons c ks ih=>
       cases ps with
       | nil=>simp at h
       | cons d ps=>
        have hc:¬c=a:=fun z=>hi2 (by unfold inK;rw[Xs,z];simp)
        rw[YU,Yu,ih (ps:=ps) 12e0 (fun z=>hi2 (by unfold inK at z ⊢;rw[Xs,z];simp))]
        simp[hc]
     rw[this]
  ·have hi2:inK k ks=true:=by unfold inK at hi ⊢;rw[Xs,decide_eq_false ha] at hi;simpa using hi
   simp only[ha,if_false]
   by_cases hq:a=q
   ·subst hq
    rw[if_pos rfl,if_pos rfl,if_neg (fun z=>ha z.symm)]
   ·rw[if_neg hq,if_neg hq];exact ZcV k q p 12e0 hi2
theorem Zdo (k q:9e2)(p:PV):∀{ks:List 9e8} {ps:List PV},ks.length=ps.length->inK k ks=false->lookT (ks++[k]) (ps++[p]) q=if k=q then some p else lookT ks ps q
 | [],[],h,hi=>by simp[lookT]
 | [],_::_,h,hi=>by simp at h
 | a::ks,[],h,hi=>by simp at h
 | a::ks,b::ps,h,hi=>by
  unfold inK at hi
  rw[Xs,Bool.or_eq_false_iff] at hi
  have ha:¬a=k:=of_decide_eq_false hi.1
  rw[List.cons_append,List.cons_append]
  unfold lookT
  by_cases hq:a=q
  ·subst hq
   rw[if_pos rfl,if_pos rfl,if_neg (fun z=>ha z.symm)]
  ·rw[if_neg hq,if_neg hq];exact Zdo k q p 12e0 hi.2
theorem lookT_put {ks:List 9e8}{ps:List PV}(k q:9e2)(p:PV)(h:ks.length=ps.length):lookT (putKs ks k) (putVs ks ps k p) q=if k=q then some p else lookT ks ps q:=by
 unfold putKs putVs
 cases e:inK k ks with
 | true=>simp only[if_true];exact ZcV k q p h e
 | false=>simp only[YT,if_false];exact Zdo k q p h e
theorem dF_look (q:9e2):∀(ls:List Lt) (ks:List 9e8) (ps:List PV),ks.length=ps.length->
  (∃l∈ls,l.nm=q/\lookT (dFold (ls.map pr) ks ps).1 (dFold (ls.map pr) ks ps).2 q=some l.P/\inK q (dFold (ls.map pr) ks ps).1=true)\/
  ((∀l∈ls,l.nm≠q)/\lookT (dFold (ls.map pr) ks ps).1 (dFold (ls.map pr) ks ps).2 q=lookT ks ps q/\inK q (dFold (ls.map pr) ks ps).1=inK q ks)
 | [],ks,ps,h=>.inr ⟨(fun _ z=>(nomatch z)),rfl,rfl⟩
 | l::ls,ks,ps,h=>by
  rw[show dFold ((l::ls).map pr) ks ps=dFold (ls.map pr) (putKs ks l.nm) (putVs ks ps l.nm l.P) from rfl]
  rcases dF_look q ls (putKs ks l.nm) (putVs ks ps l.nm l.P) (put_len h) with ⟨m,hm,e1,e2,e3⟩ | ⟨h1,h2,h3⟩
  ·exact .inl ⟨m,YL _ hm,e1,e2,e3⟩
  ·by_cases hq:l.nm=q
   ·refine .inl ⟨l,YS,hq,?_,?_⟩
    ·exact h2.trans (by rw[lookT_put _ _ _ h,if_pos hq])
    ·exact h3.trans (by rw[inK_put,decide_eq_true hq];rfl)
   ·refine .inr ⟨fun m hm=>?_,?_,?_⟩
    ·rcases Ys.mp hm with rfl | hm
     ·exact hq
     ·exact h1 m hm
    ·exact h2.trans (by rw[lookT_put _ _ _ h,if_neg hq])
    ·exact h3.trans (by rw[inK_put,decide_eq_false hq];rfl)
def Uq (ls:List Lt):Prop:=∀l∈ls,∀m∈ls,l.nm=m.nm->l=m
theorem look_in {ls:List Lt}(u:Uq ls){l:Lt}(h:l∈ls):lookT (dF ls).1 (dF ls).2 l.nm=some l.P/\inK l.nm (dF ls).1=true:=by
 rcases dF_look l.nm ls [] [] rfl with ⟨m,hm,e1,e2,e3⟩ | ⟨h1,_⟩
 ·rw[u m hm l h e1] at e2;exact ⟨e2,e3⟩
 ·exact absurd rfl (h1 l h)
theorem look_out {ls:List Lt}{q:9e2}(h:∀l∈ls,l.nm≠q):inK q (dF ls).1=false:=by
 rcases dF_look q ls [] [] rfl with ⟨m,hm,e1,e2,e3⟩ | ⟨h1,_,h3⟩
 ·exact absurd e1 (h m hm)
 ·exact h3
abbrev bte:PSt->M SV:=mFn F_name_of (aCons 2e0 aNil)
theorem compD_run (C0:Cs):∀(ls:List Lt) (ρ:PSt) (ks:List 9e8) (ps:List PV),ρ.length=1->ks.length + ls.length<=1000->
  compD 6e6 tOk bte 2e0 C0.length (ls.map Lt.P) ρ (C0++[.dtt ks ps])=some ((),C0++[.dtt (dFold (ls.map pr) ks ps).1 (dFold (ls.map pr) ks ps).2])
 | [],ρ,ks,ps,hr,h=>rfl
 | l::ls,[o],ks,ps,hr,h=>by
  have ih:=compD_run C0 ls [#[l.P]] (putKs ks l.nm) (putVs ks ps l.nm l.P) rfl (by have:=putKs_le ks l.nm;simp at h;lia)
  have hl:ks.length < 1000:=by simp at h;lia
  have hk:keysP [PV.str l.h,.str l.d,.int l.n]=some l.nm:=ZaT l.nm
  rw[Yu,Yu]
  show compD _ _ _ _ _ _ _ _=some ((),C0++[.dtt (dFold (ls.map pr) (putKs ks l.nm) (putVs ks ps l.nm l.P)).1 _])
  unfold compD
  simp[hName,bnd,tOk,Pu.ret,bte,mFn,aCons,aNil,mVar,name_of_eq,nm_P,putD,hk,hl,ih]
  rfl
theorem Zdx (ls:List Lt)(C:Cs)(h:ls.length<=1000):F_by_name [.v 7e0] C=some (.v (.dtt (dF ls).1 (dF ls).2),C):=by
 have:=compD_run C ls [none] [] [] rfl 12e0
 have hb:B_by_name=mRet (mCompD (mItems 2e0) ["letter"] [] 6e6 tOk bte 2e0):=rfl
 unfold F_by_name
 rw[hb]
 generalize hz:(dFold (ls.map pr) [] []:List 9e8×List PV)=z at this
 simp[mDef,mRet,mCompD,mItems,bnd,mVar,opM,itemsP,stIn',this,fin,Pu.ret,dF,hz]
def look (ls:List Lt)(q:9e2):Option Lt:=ls.find? fun l=>decide (l.nm=q)
theorem Zca {ls:List Lt}{q:9e2}{l:Lt}(h:look ls q=some l):l∈ls/\l.nm=q:=by
 unfold look at h
 have h2:=List.find?_some h
 exact ⟨List.mem_of_find?_eq_some h,by simpa using h2⟩
theorem ZcT {ls:List Lt}{q:9e2}(h:look ls q=none):∀l∈ls,l.nm≠q:=by
 unfold look at h
 intro l hl e
 have:=List.find?_eq_none.mp h l hl
 simp[e] at this
def chain (ls:List Lt):Nat->List Key->List Lt->List Lt
 | 0,_,acc=>acc
 | n + 1,q,acc=>match look ls q with
  | none=>acc
  | some l=>if inK q (acc.map Lt.nm) then acc else chain ls n l.fo (l::acc)
abbrev wte:PSt->M Bool:=mAndT (mTest (mOp (g2 (inTP false)) 3e7 2e0)) (mTest (mOp (g2 (inTP true)) 3e7 5e5))
abbrev wbo:PSt->M PF:=mSeq (mSetIxT (mOp (g2 ixT) 2e0 3e7) 5e5 3e7) (mSet 1 (mFn F_followed (aCons (mOp (g2 ixT) 2e0 3e7) aNil)))
theorem inK_rev (q:9e2)(ks:List 9e8):inK q ks.reverse=inK q ks:=by unfold inK;rw[List.any_reverse]
theorem len_sub {α:Type}:∀{a b:List α},a.Nodup->(∀x∈a,x∈b)->a.length<=b.length
 | [],b,_,_=>Xe _
 | x::a,b,nd,h=>by
  obtain ⟨b1,b2,rfl⟩:=List.append_of_mem (h x YS)
  rw[Y9] at nd
  have:=len_sub (a:=a) (b:=b1++b2) nd.2 fun y hy=>by
   have h1:=h y (YL _ hy)
   rcases YB.mp h1 with h1 | h1
   ·exact Xa _ h1
   ·rcases Ys.mp h1 with rfl | h1
    ·exact absurd hy nd.1
    ·exact YA _ h1
  simp at this ⊢;lia
theorem Zb8 {ls acc:List Lt}(nd:(acc.map Lt.nm).Nodup)(sub:∀l∈acc,l∈ls):acc.length<=ls.length:=by
 have h:=len_sub (b:=ls.map Lt.nm) nd fun x hx=>by
  obtain ⟨l,hl,rfl⟩:=Yy.mp hx
  exact X8 (sub l hl)
 simpa using h
theorem Zdn {ls:List Lt}(u:Uq ls)(hls:ls.length < 900)(k:Nat):∀(m:Nat) (q:9e2) (acc:List Lt) (C:Cs),C[k]? = some (.dtt (acc.reverse.map Lt.nm) (acc.reverse.map Lt.P))->(acc.map Lt.nm).Nodup->(∀l∈acc,l∈ls)->ls.length < acc.length + m->
  ∃q',loopW wte wbo m [4e7,#[tupK q],3e2] C=some (.nx [4e7,#[tupK q'],3e2],C.set k (.dtt ((chain ls m q acc).reverse.map Lt.nm) ((chain ls m q acc).reverse.map Lt.P)))
 | 0,q,acc,C,hC,nd,sub,hm=>by have:=Zb8 nd sub;lia
 | m + 1,q,acc,C,hC,nd,sub,hm=>by
  have hk:keysP (q.map kP)=some q:=ZaT q
  have same:C.set k (.dtt (acc.reverse.map Lt.nm) (acc.reverse.map Lt.P))=C:=by
   apply YZ
   intro j
   by_cases hj:k=j
   ·subst hj;rw[setAt hC,hC]
   ·rw[Ym hj]
  unfold chain
  cases hl:look ls q with
  | none=>
   have:=look_out (ZcT hl)
   refine ⟨q,?_⟩
   unfold loopW
   simp[wte,mAndT,mTest,mOp,bnd,mVar,opM,g2,deref,inTP,tupK,hk,this,mB,asB,Pu.ret]
   simpa using same.symm
  | some l=>
   obtain ⟨hin,hnm⟩:=Zca hl
   obtain ⟨e1,e2⟩:=look_in u hin
   rw[hnm] at e1 e2
   by_cases hq:inK q (acc.map Lt.nm)=true
   ·have h2:inK q (acc.reverse.map Lt.nm)=true:=by rw[XE,inK_rev];exact hq
    have h2':inK q (acc.map Lt.nm).reverse=true:=by rw[←XE];exact h2
    refine ⟨q,?_⟩
    unfold loopW
    dsimp only
    rw[if_pos hq]
    have hC':C[k]? = some (.dtt (acc.map Lt.nm).reverse (acc.map Lt.P).reverse):=by rw[hC,XE,XE]
    simp[wte,mAndT,mTest,mOp,bnd,mVar,opM,g2,deref,inTP,tupK,hk,e2,mB,asB,Pu.ret,hC',h2']
    simpa using same.symm
   ·have h2:inK q (acc.reverse.map Lt.nm)=false:=by rw[XE,inK_rev];simpa using hq
    have hlen:=Zb8 nd sub
    have hput:putKs (acc.reverse.map Lt.nm) q=((l::acc).reverse.map Lt.nm):=by unfold putKs;rw[h2];simp[hnm]
    have hpv:putVs (acc.reverse.map Lt.nm) (acc.reverse.map Lt.P) q l.P=((l::acc).reverse.map Lt.P):=by unfold putVs;rw[h2];simp
    obtain ⟨q',ih⟩:=Zdn u hls k m l.fo (l::acc) (C.set k (.dtt ((l::acc).reverse.map Lt.nm) ((l::acc).reverse.map Lt.P))) (setAt hC) (by rw[Yu,Y9,hnm];exact ⟨fun z=>hq (inK_iff.mpr z),nd⟩) (fun x hx=>by
     rcases Ys.mp hx with rfl | hx
     ·exact hin
     ·exact sub x hx) (by simp;lia)
    refine ⟨q',?_⟩
    rw[Xr] at ih
    unfold loopW
    dsimp only
    rw[if_neg hq]
    have hl9:acc.length < 1000:=by lia
    generalize hR:chain ls m l.fo (l::acc)=R at ih ⊢
    have step:(fun ρ=>wbo ρ) [4e7,#[tupK q],3e2] C=some (.nx [4e7,#[tupK l.fo],3e2],C.set k (.dtt ((l::acc).reverse.map Lt.nm) ((l::acc).reverse.map Lt.P))):=by
     have ee:setT (.v l.P) (.c k) (.v (.tup (q.map kP))) [4e7,#[tupK q],3e2] C=some (.nx [4e7,#[tupK q],3e2],C.set k (.dtt ((l::acc).reverse.map Lt.nm) ((l::acc).reverse.map Lt.P))):=by
      unfold setT
      simp only[hC,hk]
      rw[if_pos (by simpa using hl9),hput,hpv]
     simp only[wbo,mSeq,mSetIxT,mSet,mOp,bnd,mVar,opM,g2,deref,ixT,tupK,hk,e1,List.getElem?_cons_zero,List.getElem?_cons_succ,Vi] at ee ⊢
     simp[ee,mFn,aCons,aNil,bnd,mVar,opM,Pu.ret,followed_eq,hk,e1,tupK,mOp,g2,deref,ixT]
    have test:wte [4e7,#[tupK q],3e2] C=some (true,C):=by
     have hC':C[k]? = some (.dtt (acc.map Lt.nm).reverse (acc.map Lt.P).reverse):=by rw[hC,XE,XE]
     have h2':inK q (acc.map Lt.nm).reverse=false:=by rw[←XE];exact h2
     simp[wte,mAndT,mTest,mOp,bnd,mVar,opM,g2,deref,inTP,tupK,hk,e2,mB,asB,Pu.ret,hC',h2']
    unfold bnd
    rw[test]
    dsimp only
    rw[if_pos rfl]
    dsimp only at step
    rw[step]
    exact ih
def rowL (ls:List Lt)(q:9e2):List Lt:=chain ls 1000 q []
def Lk:List Lt->Prop
 | a::b::r=>b.fo=a.nm/\Lk (b::r)
 | _=>True
theorem chain_ok {ls:List Lt}:∀(m:Nat) (q:9e2) (acc:List Lt),(acc.map Lt.nm).Nodup->(∀l∈acc,l∈ls)->Lk acc->(∀a r,acc=a::r->q=a.fo)->ls.length < acc.length + m->
  ((chain ls m q acc).map Lt.nm).Nodup/\(∀l∈chain ls m q acc,l∈ls)/\Lk (chain ls m q acc)/\(∃pre,chain ls m q acc=pre++acc)/\∀a r,chain ls m q acc=a::r->(∀l∈ls,l.nm≠a.fo)\/a.fo∈(chain ls m q acc).map Lt.nm
 | 0,q,acc,nd,sub,lk,hq,hm=>by have:=Zb8 nd sub;lia
 | m + 1,q,acc,nd,sub,lk,hq,hm=>by
  unfold chain
  cases hl:look ls q with
  | none=>exact ⟨nd,sub,lk,⟨[],rfl⟩,fun a r e=>.inl (by rw[←hq a r e];exact ZcT hl)⟩
  | some l=>
   obtain ⟨hin,hnm⟩:=Zca hl
   dsimp only
   by_cases hi:inK q (acc.map Lt.nm)=true
   ·rw[if_pos hi]
    exact ⟨nd,sub,lk,⟨[],rfl⟩,fun a r e=>.inr (by rw[←hq a r e];exact inK_iff.mp hi)⟩
   ·rw[if_neg hi]
    have ih:=chain_ok (ls:=ls) m l.fo (l::acc) (by rw[Yu,Y9,hnm];exact ⟨fun z=>hi (inK_iff.mpr z),nd⟩) (fun x hx=>by
     rcases Ys.mp hx with rfl | hx
     ·exact hin
     ·exact sub x hx) (by
     cases acc with
     | nil=>trivial
     | cons a r=>exact ⟨by rw[hnm];exact (hq a r rfl).symm,lk⟩) (fun a r e=>by cases e;rfl) (by simp;lia)
    obtain ⟨a1,a2,a3,⟨pre,a4⟩,a5⟩:=ih
    exact ⟨a1,a2,a3,⟨pre++[l],by rw[a4];simp⟩,a5⟩
theorem row_in {ls:List Lt}(u:Uq ls)(hls:ls.length < 900){l:Lt}(h:l∈ls):
  ((rowL ls l.nm).map Lt.nm).Nodup/\(∀m∈rowL ls l.nm,m∈ls)/\Lk (rowL ls l.nm)/\(∃pre,rowL ls l.nm=pre++[l])/\∀a r,rowL ls l.nm=a::r->(∀m∈ls,m.nm≠a.fo)\/a.fo∈(rowL ls l.nm).map Lt.nm:=by
 have hlk:look ls l.nm=some l:=by
  cases e:look ls l.nm with
  | none=>exact absurd rfl (ZcT e l h)
  | some m=>obtain ⟨a,b⟩:=Zca e;rw[u m a l h b]
 have e:rowL ls l.nm=chain ls 999 l.fo [l]:=by
  unfold rowL
  show (match look ls l.nm with | none=>[] | some l'=>if inK l.nm (([]:List Lt).map Lt.nm) then [] else chain ls 999 l'.fo [l'])=_
  rw[hlk]
  rfl
 rw[e]
 exact chain_ok 999 l.fo [l] 5e2 12e0 trivial (fun a r e=>by cases e;rfl) 12e1
theorem row_out {ls:List Lt}{q:9e2}(h:∀l∈ls,l.nm≠q):rowL ls q=[]:=by
 have hlk:look ls q=none:=by
  cases e:look ls q with
  | none=>rfl
  | some m=>obtain ⟨a,b⟩:=Zca e;exact absurd b (h m a)
 unfold rowL
 show (match look ls q with | none=>[] | some l'=>if inK q (([]:List Lt).map Lt.nm) then [] else chain ls 999 l'.fo [l'])=_
 rw[hlk]
theorem chain_len {ls:List Lt}(hls:ls.length < 900)(q:9e2):(rowL ls q).length<=ls.length:=by
 obtain ⟨a1,a2,_⟩:=chain_ok (ls:=ls) 1000 q [] 5e2 (fun _ z=>(nomatch z)) trivial (fun a r e=>by cases e) 12e1
 exact Zb8 a1 a2
theorem Zcs {ls:List Lt}(u:Uq ls)(hls:ls.length < 900)(q:9e2)(C:Cs):FF_row_among [.v (.dtt (dF ls).1 (dF ls).2),.v (tupK q)] C=some ((rowL ls q).map Lt.P,C):=by
 obtain ⟨q',e⟩:=Zdn u hls C.length 1000 q [] (C++[.dtt [] []]) 5e2 5e2 (fun _ z=>(nomatch z)) 12e1
 have hl:=chain_len hls q
 have hb:B_row_among=mSeq (mNewT 2) (mSeq (mWhile wte wbo) (mRetF (mRevS (mVal (mListVals 5e5)) (mNeg 1e9)))):=rfl
 have e':mWhile wte wbo [4e7,#[tupK q],5e4] (C++[.dtt [] []])=some (.nx [4e7,#[tupK q'],5e4],C++[.dtt ((rowL ls q).reverse.map Lt.nm) ((rowL ls q).reverse.map Lt.P)]):=by
  have e2:(C++[PV.dtt [] []]).set C.length (.dtt ((rowL ls q).reverse.map Lt.nm) ((rowL ls q).reverse.map Lt.P))=C++[.dtt ((rowL ls q).reverse.map Lt.nm) ((rowL ls q).reverse.map Lt.P)]:=by simp
  rw[←e2]
  exact e
 unfold FF_row_among
 rw[hb]
 generalize rowL ls q=R at e' hl
 have hR:R.length<=1000:=by lia
 simp[mDefF,mSeq,mNewT,bnd,e',mRetF,mRevS,mVal,mListVals,mVar,opM,valsH,deref,hR,mNeg,negP,mC,Pu.ret,revS,intP,Pu.intD]
theorem FF_row_eq {ls:List Lt}(u:Uq ls)(hls:ls.length < 900)(q:9e2)(C:Cs):FF_row [.v 7e0,.v (tupK q)] C=some ((rowL ls q).map Lt.P,C):=by
 simp![FF_row,mDefF,Zdx ls C 1e3,Zcs u hls q C]
theorem F_row_eq {ls:List Lt}(u:Uq ls)(hls:ls.length < 900)(q:9e2)(C:Cs):F_row [.v 7e0,.v (tupK q)] C=some (.v (.lst ((rowL ls q).map Lt.P)),C):=by
 simp![F_row,Zdx ls C 1e3,Zcs u hls q C]
def nmV (l:Lt):PV:=tupK l.nm
abbrev ibo:PSt->M PF:=mSeq (mIfS (mOrT (mTest (mOp 4e1 (mMt "dict" getTH 3e7 (aCons (mSlice 7e3 oNo (oPart 4e4)) aNil)) 7e3)) (mTest (mOp (g2 gtP) (mMt "list" countH (mSlice 5e9 oNo (oPart (mVar 4))) (aCons (mSlice 7e3 oNo (oPart 4e4)) aNil)) 2e6))) 9e3 mSkip) (mIfS (mAndT (mTest (mOp (g2 gtP) (mVar 4) 2e6)) (mTest (mOp 4e1 (mTup (aCons (mOp 2e7 7e3 2e6) (aCons (mOp 2e7 7e3 1e9) (aCons (mOp 2e7 7e3 4e4) aNil)))) (mOp 2e7 5e9 (mOp (g2 subP) (mVar 4) 1e9))))) 9e3 mSkip)
theorem Lk.get:∀{R:List Lt},Lk R->∀(i:Nat) (h:i + 1 < R.length),(R[i + 1]).fo=(R[i]' 1e3).nm
 | [],_,i,h=>by simp at h
 | [a],_,i,h=>by simp at h
 | a::b::r,lk,0,h=>lk.1
 | a::b::r,lk,i + 1,h=>Lk.get (R:=b::r) lk.2 i 12e0
theorem eqD_nm (a b:9e2):eqD (tupK a) (tupK b)=decide (a=b):=by
 by_cases h:a=b
 ·subst h;rw[decide_eq_true rfl];exact Zbb (Zbl a)
 ·rw[decide_eq_false h]
  cases e:eqD (tupK a) (tupK b) with
  | false=>rfl
  | true=>
   have:=(Zbo (tupK a) (Zbl a) (Zbl b)).mp e
   unfold tupK at this
   have h2:a.map kP=b.map kP:=by simpa using this
   have h3:=ZaT a
   rw[h2,ZaT] at h3
   exact absurd (YC h3).symm h
theorem ibo_ok {ls R:List Lt}(u:Uq ls)(nd:(R.map Lt.nm).Nodup)(sub:∀m∈R,m∈ls)(lk:Lk R)(l:Lt)(i:Nat)(hi:i < R.length)(C:Cs):
  ibo [#[.lst 13e6],4e7,#[l.P],#[.lst (R.map nmV)],#[10e7],#[(R[i]).P],none] C
   = some (.nx [#[.lst 13e6],4e7,#[l.P],#[.lst (R.map nmV)],#[10e7],#[(R[i]).P],none],C):=by
 have hin:=sub R[i] (YV hi)
 obtain ⟨e1,_⟩:=look_in u hin
 have hk:keysP [PV.str R[i].h,.str R[i].d,.int R[i].n]=some R[i].nm:=ZaT R[i].nm
 have hd:=dat_P R[i]
 have hdp:dep R[i].P<=60:=Yz (dep_P _) 1e4
 have hcut:cutP (R.map nmV) none (some (i:Int))=(R.take i).map nmV:=by
  have h2:HT.sIx (R.map nmV).length (R.map nmV).length (some (i:Int))=i:=by
   unfold HT.sIx;dsimp only;rw[if_neg 1e3];simp;lia
  unfold cutP
  rw[h2,show HT.sIx (R.map nmV).length 0 none=0 from rfl]
  simp[List.map_take]
 have hcount:((R.take i).map nmV).countP (fun p=>eqD p (.tup 13e1))=0:=by
  rw[List.countP_eq_zero]
  intro p hp
  obtain ⟨m,hm,rfl⟩:=Yy.mp hp
  obtain ⟨j,hj,rfl⟩:=Xx hm
  have hj2:j < i:=by simp at hj;lia
  rw[List.getElem_take]
  show ¬eqD (tupK R[j].nm) (tupK R[i].nm)=true
  rw[eqD_nm]
  intro z
  have z:=of_decide_eq_true z
  have:=(XD (xs:=R.map Lt.nm) (i:=j) (j:=i) (h₀:=by simp;lia) (h₁:=by simpa using hi) nd).mp (by simpa using z)
  lia
 have hds:dats ((R.take i).map nmV)=true:=ZaW (f:=nmV) (fun m=>Za4 m.nm) _
 have hdep:deps ((R.take i).map nmV)<=50:=Yz (ZaV (f:=nmV) (fun m=>Zbn m.nm) _) 1e4
 have hdt:dat (.tup 13e1)=true:=Za4 R[i].nm
 have hself:eqD R[i].P R[i].P=true:=Zbb (pur_P _)
 have cutl:cutP [PV.str R[i].h,.str R[i].d,.int R[i].n,.int R[i].pv,.tup (R[i].gs.map tupK),.int R[i].t,tupK R[i].dd] none (some 3)=13e1:=cut3 R[i]
 have sl:sliceD C (.v R[i].P) none (some 3)=#[.tup 13e1]:=by
  simp[sliceD,deref,sliceP,Lt.P,cutl]
 have x0:ixQ R[i].P (.int 0)=some (.str R[i].h):=by simp[Lt.P,ixQ,ixP,atI,ixN]
 have x1:ixQ R[i].P (.int 1)=some (.str R[i].d):=by simp[Lt.P,ixQ,ixP,atI,ixN]
 have x3:ixQ R[i].P (.int 3)=some (.int R[i].pv):=by simp[Lt.P,ixQ,ixP,atI,ixN]
 have sl2:sliceD C (.v (.lst (R.map nmV))) none (some (i:Int))=#[.lst ((R.take i).map nmV)]:=by
  simp[sliceD,deref,sliceP,hcut]
 have neq:deepP (fun p q=>!eqD p q) R[i].P R[i].P=some (.bl false):=by simp[deepP,hd,hdp,hself]
 have cnt:countH (.lst ((R.take i).map nmV)) [.tup 13e1]=some (.int 0):=by
  show (if (dats ((R.take i).map nmV)&&dat (.tup 13e1)&&decide (deps ((R.take i).map nmV)<=50))=true then some (PV.int ((((R.take i).map nmV).countP (fun p=>eqD p (.tup 13e1)):Nat):Int)) else none)=_
  rw[hds,hdt,hcount,decide_eq_true hdep];rfl
 have cnt':countH (.lst ((R.map nmV).take i)) [.tup 13e1]=some (.int 0):=by rw[←List.map_take];exact cnt
 generalize hP:R[i].P=Q at *
 have t1:mOrT (mTest (mOp 4e1 (mMt "dict" getTH 3e7 (aCons (mSlice 7e3 oNo (oPart 4e4)) aNil)) 7e3)) (mTest (mOp (g2 gtP) (mMt "list" countH (mSlice 5e9 oNo (oPart (mVar 4))) (aCons (mSlice 7e3 oNo (oPart 4e4)) aNil)) 2e6))
   [#[.lst 13e6],4e7,#[l.P],#[.lst (R.map nmV)],#[10e7],#[Q],none] C=some (false,C):=by
  simp[mOrT,mTest,mOp,mMt,mSlice,bnd,mVar,oNo,oPart,mC,opM,Pu.ret,Pu.intD,intP,sl,aCons,aNil,derefs,deref,getTH,hk,e1,hP,g2,neq,mB,asB,sl2,cnt,cnt',mtD,isTy,tyP,gtP]
 unfold ibo
 rw[show mSeq (mIfS _ _ _) _=_ from rfl]
 unfold mSeq mIfS bnd
 rw[t1]
 dsimp only
 rw[if_neg Yl]
 simp only[mSkip,Pu.ret]
 by_cases h0:i=0
 ·subst h0
  simp[mIfS,mAndT,mTest,mOp,bnd,mVar,mC,opM,g2,deref,gtP,intP,mB,asB,Pu.ret,mSkip]
 ·obtain ⟨j,rfl⟩:∃j,i=j + 1:=⟨i - 1,by lia⟩
  have lkj:=lk.get j hi
  have hn1:ixQ (.lst (R.map nmV)) (.int (((j + 1:Nat):Int) - 1))=some (nmV (R[j]' 1e3)):=by
   have:(((j + 1:Nat):Int) - 1)=(j:Int):=by lia
   rw[this]
   have hj:j < (R.map nmV).length:=by simp;lia
   simp[ixQ,ixP,atI,ixN,Yc,show j < R.length by lia]
  have hf:PV.tup [.str (R[j + 1]).h,.str (R[j + 1]).d,.int (R[j + 1]).pv]=nmV (R[j]' 1e3):=by
   unfold nmV;rw[←lkj];rfl
  have hself2:eqD (nmV (R[j]' 1e3)) (nmV (R[j]' 1e3))=true:=Zbb (Zbl _)
  have hd2:dat (nmV (R[j]' 1e3))=true:=Za4 _
  have hdp2:dep (nmV (R[j]' 1e3))<=60:=Yz (Zbn _) 1e4
  have neq2:deepP (fun p q=>!eqD p q) (.tup [.str (R[j + 1]).h,.str (R[j + 1]).d,.int (R[j + 1]).pv]) (nmV (R[j]' 1e3))=some (.bl false):=by
   rw[hf];simp[deepP,hd2,hdp2,hself2]
  generalize nmV (R[j]' 1e3)=Z at hn1 neq2
  have hn2:ixQ (.lst (R.map nmV)) (.int ((j:Int) + 1 - 1))=some Z:=by
   have:((j:Int) + 1 - 1)=(((j + 1:Nat):Int) - 1):=by lia
   rw[this];exact hn1
  have hn3:ixQ (.lst (R.map nmV)) (.int (j:Int))=some Z:=by
   have:(j:Int)=(((j + 1:Nat):Int) - 1):=by lia
   rw[this];exact hn1
  simp[mIfS,mAndT,mTest,mOp,bnd,mVar,mC,opM,g2,deref,gtP,intP,mB,asB,Pu.ret,mSkip,mTup,aCons,aNil,x0,x1,x3,Pu.plain,subP,hn1,hn2,hn3,neq2]
theorem enum_mem {R:List Lt}{x:PV}(h:x∈enumL 13e6):∃(i:Nat) (hi:i < R.length),x=.tup [.int (i:Nat),(R[i]).P]:=by
 unfold enumL at h
 obtain ⟨i,hi,rfl⟩:=Yy.mp h
 have hi:i < R.length:=by simpa using hi
 exact ⟨i,hi,by simp[hi]⟩
abbrev nte:PSt->M SV:=mSlice 2e0 oNo (oPart 4e4)
theorem names_comp (R:List Lt)(C:Cs):compL 6e6 tOk nte 13e6 [none] [] C=some (R.map nmV,C):=by
 have:=ZbQ (te:=nte) (f:=fun p=>match p with | .tup (.str a::.str b::.int c::_)=>.tup [.str a,.str b,.int c] | _=>.non) (R.map Lt.P) [none] [] C (fun x hx=>by
  obtain ⟨m,_,rfl⟩:=Yy.mp hx
  simp[nte,mSlice,bnd,mVar,oNo,oPart,mC,opM,Pu.ret,Pu.intD,deref,sliceD,sliceP,Lt.P,cut3])
 rw[this,Xg,Y2]
 rfl
theorem last_ix (pre:List Lt)(l:Lt):ixQ (.lst ((pre++[l]).map Lt.P)) (.int (-1))=some l.P:=by
 have e:(-1 + ((pre.length:Int) + 1)).toNat=pre.length:=by lia
 simp[ixQ,ixP,atI,ixN]
 rw[if_pos 1e3,e]
 simp
theorem is_row_eq {ls R:List Lt}(u:Uq ls)(hR:R.length<=1000)(nd:(R.map Lt.nm).Nodup)(sub:∀m∈R,m∈ls)(lk:Lk R)(l:Lt)(pre:List Lt)(hp:R=pre++[l])(he:∀a r,R=a::r->(∀m∈ls,m.nm≠a.fo)\/a.fo∈R.map Lt.nm)(C:Cs):
  F_l_is_row [.v (.lst 13e6),.v (.dtt (dF ls).1 (dF ls).2),.v l.P] C=some (.v (.bl true),C):=by
 obtain ⟨a,r,ha⟩:∃a r,R=a::r:=by
  cases R with
  | nil=>simp at hp
  | cons a r=>exact ⟨a,r,rfl⟩
 have hb:B_l_is_row=mSeq (mIfS (mOrT (mNotT (mTru (mCB (g1 isiH) (aCons 2e0 (aCons (mC (.ty "list")) aNil))))) (mOrT (mTest (mOp 9e7 2e0 (mVal 8e3))) (mTest (mOp 4e1 (mOp 2e7 2e0 (mNeg 1e9)) 5e5)))) 9e3 mSkip) (mSeq (mSet 3 (mVal (mComp (mItems 2e0) ["_law_one"] [] 6e6 tOk nte))) (mSeq (mFor (mEnum (aCons 2e0 aNil)) (hTup (hCons (hName 4) (hCons (hName 5) hNil)) 2) ibo) (mSeq (mSet 6 (mTup (aCons (mOp 2e7 (mOp 2e7 2e0 2e6) 2e6) (aCons (mOp 2e7 (mOp 2e7 2e0 2e6) 1e9) (aCons (mOp 2e7 (mOp 2e7 2e0 2e6) 4e4) aNil))))) (mRet (mOrV (mOp 9e7 (mOp 2e7 (mOp 2e7 2e0 2e6) 4e4) 2e6) (mOrV (mOp (g2 (inTP true)) 8e8 3e7) (mOp (g2 (inDP false)) 8e8 5e9))))))):=rfl
 have hds:dats 13e6=true:=ZaW dat_P _
 have hdp:dep (.lst 13e6)<=60:=by unfold dep;have:=ZaV dep_P R;lia
 have hdl:dat (.lst 13e6)=true:=by unfold dat;exact hds
 have t0:deepP eqD (.lst 13e6) (.lst [])=some (.bl false):=by
  have:eqD (.lst 13e6) (.lst [])=false:=by rw[ha];simp[eqD,eqDs]
  simp[deepP,hdl,hdp,this];simp[dat,dats]
 have t1:ixQ (.lst 13e6) (.int (-1))=some l.P:=by rw[hp];exact last_ix pre l
 have t2:deepP (fun p q=>!eqD p q) l.P l.P=some (.bl false):=by
  have h1:=dat_P l
  have h2:dep l.P<=60:=Yz (dep_P _) 1e4
  have h3:eqD l.P l.P=true:=Zbb (pur_P _)
  simp[deepP,h1,h2,h3]
 have t3:ixQ (.lst 13e6) (.int 0)=some a.P:=by rw[ha];simp[ixQ,ixP,atI,ixN]
 have x0:ixQ a.P (.int 0)=some (.str a.h):=by simp[Lt.P,ixQ,ixP,atI,ixN]
 have x1:ixQ a.P (.int 1)=some (.str a.d):=by simp[Lt.P,ixQ,ixP,atI,ixN]
 have x3:ixQ a.P (.int 3)=some (.int a.pv):=by simp[Lt.P,ixQ,ixP,atI,ixN]
 have hk:keysP [PV.str a.h,.str a.d,.int a.pv]=some a.fo:=ZaT a.fo
 have hnm:dats (R.map nmV)=true:=ZaW (f:=nmV) (fun m=>Za4 m.nm) _
 have hnd:deps (R.map nmV)<=50:=Yz (ZaV (f:=nmV) (fun m=>Zbn m.nm) _) 1e4
 have hfd:dat (.tup [.str a.h,.str a.d,.int a.pv])=true:=Za4 a.fo
 have hx:(∃b,inTP true (.tup [.str a.h,.str a.d,.int a.pv]) (.dtt (dF ls).1 (dF ls).2)=some (.bl b)/\(b=false->inDP false (.tup [.str a.h,.str a.d,.int a.pv]) (.lst (R.map nmV))=some (.bl true))):=by
  refine ⟨!inK a.fo (dF ls).1,by simp[inTP,hk],fun hb=>?_⟩
  rcases he a r ha with h | h
  ·rw[look_out h] at hb;cases hb
  ·have:(R.map nmV).any (fun p=>eqD p (.tup [.str a.h,.str a.d,.int a.pv]))=true:=by
    obtain ⟨m,hm,e⟩:=Yy.mp h
    rw[List.any_eq_true]
    refine ⟨nmV m,X8 hm,?_⟩
    show eqD (tupK m.nm) (tupK a.fo)=true
    rw[e];exact Zbb (Zbl _)
   unfold inDP
   dsimp only
   rw[hnm,hfd,decide_eq_true hnd,this];rfl
 obtain ⟨b,hx1,hx2⟩:=hx
 obtain ⟨ρ',C',el,hpi⟩:=ZcC (g:=hTup (hCons (hName 4) (hCons (hName 5) hNil)) 2) (f:=ibo) (fun ρ C1=>C1=C/\∃p q,ρ=[#[.lst 13e6],4e7,#[l.P],#[.lst (R.map nmV)],p,q,none]) (enumL 13e6) (fun x hx ρ C1 h_=>by
  obtain ⟨hC,p,q,hρ⟩:=h_
  obtain ⟨i,hi,rfl⟩:=enum_mem hx
  subst hC hρ
  exact ⟨_,_,_,rfl,ibo_ok u nd sub lk l i hi C1,rfl,_,_,rfl⟩) [#[.lst (R.map Lt.P)],#[.dtt (dF ls).1 (dF ls).2],#[l.P],#[.lst (R.map nmV)],none,none,none] C ⟨rfl,none,none,rfl⟩
 obtain ⟨rfl,p,q,rfl⟩:=hpi
 have hnc:=names_comp R C'
 unfold F_l_is_row
 rw[hb]
 clear hb ha hp he nd sub lk
 have hlen:(R.map Lt.P).length<=100000:=by simp;lia
 have t4:deepP eqD (.int a.pv) (.int 0)=some (.bl (a.pv==0)):=by simp[deepP,dat,dep,eqD]
 generalize R.map Lt.P=RP at *
 generalize R.map nmV=RN at *
 cases hz:(a.pv==0)<;>rw[hz] at t4<;>cases b with
 | true=>simp[mDef,mSeq,mIfS,mOrT,mNotT,mTru,mCB,g1,aCons,aNil,mVar,mC,bnd,opM,Pu.ret,derefs,deref,isiH,isiP,tyN,truP,mTest,mOp,g2,mVal,mLst,Pu.plain,t0,mB,asB,mNeg,negP,t1,t2,mSkip,mSet,mComp,mItems,itemsP,stIn',hlen,hnc,mFor,mEnum,enumP,el,mTup,t3,x0,x1,x3,mRet,mOrV,hx1,fin,t4]
 | false=>simp[mDef,mSeq,mIfS,mOrT,mNotT,mTru,mCB,g1,aCons,aNil,mVar,mC,bnd,opM,Pu.ret,derefs,deref,isiH,isiP,tyN,truP,mTest,mOp,g2,mVal,mLst,Pu.plain,t0,mB,asB,mNeg,negP,t1,t2,mSkip,mSet,mComp,mItems,itemsP,stIn',hlen,hnc,mFor,mEnum,enumP,el,mTup,t3,x0,x1,x3,mRet,mOrV,hx1,hx2 rfl,fin,t4]
theorem eqL_self (R:List Lt):deepP eqD (.lst 13e6) (.lst 13e6)=some (.bl true):=by
 have hds:dat (.lst 13e6)=true:=by unfold dat;exact ZaW dat_P _
 have hdp:dep (.lst 13e6)<=60:=by unfold dep;have:=ZaV dep_P R;lia
 have he:eqD (.lst 13e6) (.lst 13e6)=true:=by
  show eqDs _ _=true
  exact (eqDs_pur _ (Zbw pur_P R) (Zbw pur_P R)).mpr rfl
 simp[deepP,hds,hdp,he]
theorem sl3 (l:Lt)(C:Cs):sliceD C (.v l.P) none (some 3)=#[tupK l.nm]:=by
 simp[sliceD,deref,sliceP,Lt.P,cut3,nm_P]
theorem asked_eq {ls:List Lt}(u:Uq ls)(hls:ls.length < 900){l:Lt}(h:l∈ls)(C:Cs):F_l_asked [.v 7e0,.v (.dtt (dF ls).1 (dF ls).2),.v l.P] C=some (.v (.bl true),C):=by
 obtain ⟨a1,a2,a3,⟨pre,a4⟩,a5⟩:=row_in u hls h
 have hr:=FF_row_eq u hls l.nm
 have hr2:=F_row_eq u hls l.nm
 have hlen:=chain_len hls l.nm
 generalize hR:rowL ls l.nm=R at *
 have hi:=is_row_eq u 1e3 a1 a2 a3 l pre a4 a5 []
 have ee:=eqL_self R
 have fl:flat (.bl true)=true:=rfl
 have hl3:=sl3 l
 have hn:(R.map Lt.P).length<=1000:=by simp;lia
 have hn2:(R.map Lt.P).length < 100000:=by simp;lia
 generalize hLP:l.P=LP at *
 generalize hN:tupK l.nm=N at *
 generalize R.map Lt.P=RP at *
 sleep 2
 generalize (dF ls).1=K1 at *
 generalize (dF ls).2=K2 at *
 have hb:B_l_asked=mSeq (mNew 3 (mFnF FF_row (aCons 2e0 (aCons (mSlice 5e5 oNo (oPart 4e4)) aNil)))) (mSeq (mIfS (mNotT (mTru (mFnS F_l_is_row [] (aCons 5e9 (aCons 3e7 6e9))))) 9e3 mSkip) (mSeq (mSet 4 (mVal (mList 8e6))) (mSeq (mDrop (mRev 5e9)) (mSeq (mDrop (mApp 5e9 6e9)) (mRet (mOp 9e7 (mFn F_row (aCons 2e0 (aCons (mSlice 5e5 oNo (oPart 4e4)) aNil))) (mVar 4))))))):=rfl
 unfold F_l_asked
 rw[hb]
 simp[mDef,mSeq,mNew,mFnF,aCons,aNil,mVar,bnd,mSlice,oNo,oPart,mC,opM,Pu.ret,Pu.intD,deref,hl3,hr,mIfS,mNotT,mTru,mFnS,pickK,smallX,smallC,hi,fl,backC,truP,mSkip,mSet,mVal,mList,listH,mDrop,mRev,revC,mApp,isLst,appC,hn,hn2,mRet,mOp,mFn,hr2,g2,ee,fin]
abbrev inb:PSt->M PF:=mIfS (mAndT (mTest (mOp (g2 (inTP true)) (mVar 8) 7e3)) (mTest (mOp 4e1 (mFn F_row (aCons 5e9 (aCons (mVar 8) aNil))) (mVal 8e3)))) 9e3 mSkip
abbrev ahd:PSt->M SV:=mOp (g2 mulLP) (mVal (mLst (aCons (mOp 5e3 (mSlice 8e8 oNo (oPart 2e5)) (mTup (aCons (mOp 2e7 8e8 4e4) aNil))) aNil))) (mCB (g1 intH) (aCons (mOp (g2 gtP) (mOp 2e7 8e8 4e4) 2e6) aNil))
abbrev inl:PSt->M SV:=mOp 5e3 (mOp 5e3 (mVal (mList (aCons (mOp 2e7 8e8 12e7) aNil))) (mVar 7)) (mVal (mLst (aCons (mOp 5e3 (mSlice 8e8 oNo (oPart 2e5)) (mTup (aCons (mC (.int 999999)) aNil))) (aCons (mOp 5e3 (mTup (aCons (mC (.str "zzzz")) aNil)) (mSlice 8e8 (oPart 1e9) (oPart 4e4))) aNil))))
abbrev obd:PSt->M PF:=mSeq (mIfS (mNotT (mTru (mFn F_l_asked (aCons 5e9 (aCons 7e3 (aCons 8e8 aNil)))))) 9e3 mSkip) (mSeq (mSet 7 ahd) (mFor (mItems inl) (hName 8) inb))
abbrev dte:PSt->M SV:=mTup (aCons (mSlice 2e0 oNo (oPart 4e4)) (aCons 2e0 aNil))
abbrev lend:PSt->M PF:=mSeq (mSet 4 (mVal (mList 8e6))) (mSeq (mSet 5 (mCB dictPH (aCons (mVal (mComp (mItems 5e9) 5e0 [] 6e6 tOk dte)) aNil))) (mSeq (mFor (mItems 5e9) (hName 6) obd) (mRet (mOp 9e7 5e9 (mVar 4)))))
def inQ (l:Lt):List 9e8:=l.gs++(if 0 < l.pv then [l.fo] else [])++[[.inr l.h,.inr l.d,.inl 999999],[.inr "zzzz",.inr l.d,.inl l.n]]
theorem cut13 (l:Lt):cutP [PV.str l.h,.str l.d,.int l.n,.int l.pv,.tup (l.gs.map tupK),.int l.t,tupK l.dd] (some 1) (some 3)=[.str l.d,.int l.n]:=by
 simp[cutP,HT.sIx]
section
variable (s town:7e8)(k:7e8)(ls:List Lt)(x7 x8:7e8)(l:Lt)(C:Cs)
theorem ahd_eq:ahd [s,town,k,1e6,1e6,4e7,#[l.P],x7,x8] C=some (.v (.lst ((if 0 < l.pv then [l.fo] else []).map tupK)),C):=by
 have s2:sliceD C (.v l.P) none (some 2)=#[.tup [.str l.h,.str l.d]]:=by simp[sliceD,deref,sliceP,Lt.P,cut2]
 have x3:ixQ l.P (.int 3)=some (.int l.pv):=by simp[Lt.P,ixQ,ixP,atI,ixN]
 have hf:tupK l.fo=.tup [.str l.h,.str l.d,.int l.pv]:=rfl
 by_cases h:0 < l.pv
 ·rw[if_pos h,Yu,hf]
  generalize l.P=LP at *
  simp[ahd,mOp,mVal,mLst,mTup,aCons,aNil,mVar,mC,bnd,opM,Pu.ret,g1,g2,deref,derefs,addP,mSlice,oNo,oPart,Pu.intD,s2,x3,Pu.plain,mCB,intH,gtP,intP,h,mulLP]
 ·rw[if_neg h]
  generalize l.P=LP at *
  simp[ahd,mOp,mVal,mLst,mTup,aCons,aNil,mVar,mC,bnd,opM,Pu.ret,g1,g2,deref,derefs,addP,mSlice,oNo,oPart,Pu.intD,s2,x3,Pu.plain,mCB,intH,gtP,intP,h,mulLP]
theorem inl_eq (hg:l.gs.length<=100):mItems inl [s,town,k,1e6,1e6,4e7,#[l.P],#[.lst ((if 0 < l.pv then [l.fo] else []).map tupK)],x8] C=some ((inQ l).map tupK,C):=by
 have h4:ixQ l.P (.int 4)=some (.tup (l.gs.map tupK)):=by simp[Lt.P,ixQ,ixP,atI,ixN]
 have s2:sliceD C (.v l.P) none (some 2)=#[.tup [.str l.h,.str l.d]]:=by simp[sliceD,deref,sliceP,Lt.P,cut2]
 have s13:sliceD C (.v l.P) (some 1) (some 3)=#[.tup [.str l.d,.int l.n]]:=by simp[sliceD,deref,sliceP,Lt.P,cut13]
 have hgl:(l.gs.map tupK).length<=1000:=by simp;lia
 have hm:∀(a:List PV),(inQ l).map tupK=l.gs.map tupK++(if 0 < l.pv then [l.fo] else []).map tupK++[.tup [.str l.h,.str l.d,.int 999999],.tup [.str "zzzz",.str l.d,.int l.n]]:=fun _=>by
  unfold inQ;rw[Xf,Xf];rfl
 rw[hm []]
 have h5:((if 0 < l.pv then [l.fo] else []).map tupK).length<=1:=by split<;>simp
 generalize (if 0 < l.pv then [l.fo] else []).map tupK=A at h5
 generalize l.gs.map tupK=G at *
 generalize l.P=LP at *
 have h6:G.length + A.length<=1000000:=by lia
 have h7:G.length + A.length<=999998:=by lia
 have h8:G.length + (A.length + 2)<=1000000:=by lia
 have h9:G.length + A.length + 2<=1000000:=by lia
 simp[mItems,inl,mOp,mVal,mList,mLst,mTup,aCons,aNil,mVar,mC,bnd,opM,Pu.ret,g2,deref,derefs,h4,listH,hgl,addP,mSlice,oNo,oPart,Pu.intD,s2,s13,Pu.plain,itemsP,h6,h7,h8,h9]
end
section
variable (s town:7e8)(k:7e8){ls:List Lt}
theorem inb_ok (u:Uq ls)(hls:ls.length < 900)(x6 x7:7e8)(q:9e2)(C:Cs):
  inb [s,town,k,1e6,1e6,4e7,x6,x7,#[tupK q]] C
   = some (.nx [s,town,k,1e6,1e6,4e7,x6,x7,#[tupK q]],C):=by
 have hk:keysP (q.map kP)=some q:=ZaT q
 cases hi:inK q (dF ls).1 with
 | true=>
  have t:inTP true (tupK q) (.dtt (dF ls).1 (dF ls).2)=some (.bl false):=by unfold tupK inTP;simp[hk,hi]
  generalize tupK q=T at *
  simp[inb,mIfS,mAndT,mTest,mOp,bnd,mVar,opM,g2,deref,t,mB,asB,Pu.ret,mSkip]
 | false=>
  have t:inTP true (tupK q) (.dtt (dF ls).1 (dF ls).2)=some (.bl true):=by unfold tupK inTP;simp[hk,hi]
  have hr:=F_row_eq u hls q C
  rw[row_out (fun m hm e=>by have:=(look_in u hm).2;rw[e,hi] at this;cases this)] at hr
  have t2:deepP (fun p q=>!eqD p q) (.lst (([]:List Lt).map Lt.P)) (.lst [])=some (.bl false):=by simp[deepP,dat,dats,dep,deps,eqD,eqDs]
  generalize tupK q=T at *
  sleep 2
  simp only[W5] at t2 hr
  simp[inb,mIfS,mAndT,mTest,mOp,bnd,mVar,opM,g2,deref,t,mB,asB,Pu.ret,mSkip,mFn,aCons,aNil,hr,mVal,mLst,Pu.plain,t2]
theorem obd_ok (u:Uq ls)(hls:ls.length < 900)(x7 x8:7e8)(l:Lt)(hl:l∈ls)(hg:l.gs.length<=100)(C:Cs):
  ∃x7' x8',obd [s,town,k,1e6,1e6,4e7,#[l.P],x7,x8] C
   = some (.nx [s,town,k,1e6,1e6,4e7,#[l.P],x7',x8'],C):=by
 have ha:=asked_eq u hls hl C
 have h7:=ahd_eq s town k ls x7 x8 l C
 have h8:=inl_eq s town k ls x8 l C hg
 generalize (if 0 < l.pv then [l.fo] else []).map tupK=A at h7 h8
 obtain ⟨ρ',C',el,hpi⟩:=ZcC (g:=hName 8) (f:=inb) (fun ρ C1=>C1=C/\∃y,ρ=[s,town,k,1e6,1e6,4e7,#[l.P],#[.lst A],y]) ((inQ l).map tupK) (fun x hx ρ C1 h_=>by
  obtain ⟨hC,y,hρ⟩:=h_
  obtain ⟨q,_,rfl⟩:=Yy.mp hx
  subst hC hρ
  exact ⟨_,_,_,rfl,inb_ok s town k u hls _ _ q C1,rfl,_,rfl⟩) [s,town,k,#[.lst (ls.map Lt.P)],#[.lst (ls.map Lt.P)],#[.dtt (dF ls).1 (dF ls).2],#[l.P],#[.lst A],x8] C ⟨rfl,_,rfl⟩
 obtain ⟨rfl,y,rfl⟩:=hpi
 refine ⟨#[.lst A],y,?_⟩
 have st1:mIfS (mNotT (mTru (mFn F_l_asked (aCons 5e9 (aCons 7e3 (aCons 8e8 aNil)))))) 9e3 mSkip [s,town,k,1e6,1e6,4e7,#[l.P],x7,x8] C'=some (.nx [s,town,k,1e6,1e6,4e7,#[l.P],x7,x8],C'):=by
  simp[mIfS,mNotT,mTru,mFn,aCons,aNil,bnd,mVar,opM,Pu.ret,ha,deref,truP,mSkip]
 have st2:mSet 7 ahd [s,town,k,1e6,1e6,4e7,#[l.P],x7,x8] C'=some (.nx [s,town,k,1e6,1e6,4e7,#[l.P],#[.lst A],x8],C'):=by
  unfold mSet bnd;rw[h7];rfl
 have st3:mFor (mItems inl) (hName 8) inb [s,town,k,1e6,1e6,4e7,#[l.P],#[.lst A],x8] C'=some (.nx [s,town,k,1e6,1e6,4e7,#[l.P],#[.lst A],y],C'):=by
  unfold mFor bnd;rw[h8];exact el
 show mSeq _ (mSeq _ _) _ _=_
 unfold mSeq bnd
 rw[st1]
 dsimp only
 rw[st2]
 exact st3
theorem pairs_eq:∀ls:List Lt,pairsP (ls.map fun l=>.tup [tupK l.nm,l.P])=some (ls.map pr)
 | []=>rfl
 | l::ls=>by
  rw[Yu]
  unfold pairsP
  have:pairP (.tup [tupK l.nm,l.P])=some (pr l):=by
   unfold tupK pairP
   dsimp only
   rw[ZaT];rfl
  rw[this,pairs_eq ls];rfl
theorem dcomp (ls:List Lt)(C:Cs):compL 6e6 tOk dte (ls.map Lt.P) [none] [] C=some (ls.map fun l=>.tup [tupK l.nm,l.P],C):=by
 have:=ZbQ (te:=dte) (f:=fun p=>match p with | .tup (.str a::.str b::.int c::r)=>.tup [.tup [.str a,.str b,.int c],.tup (.str a::.str b::.int c::r)] | _=>.non) (ls.map Lt.P) [none] [] C (fun x hx=>by
  obtain ⟨m,_,rfl⟩:=Yy.mp hx
  simp[dte,mTup,aCons,aNil,mSlice,bnd,mVar,oNo,oPart,mC,opM,Pu.ret,Pu.intD,deref,sliceD,sliceP,Lt.P,cut3,Pu.plain])
 rw[this,Xg,Y2]
 rfl
theorem lend_eq (u:Uq ls)(hls:ls.length < 900)(hg:∀l∈ls,l.gs.length<=100)(C:Cs):lend [s,town,k,1e6,none,none,none,none,none] C=some (.rt (.v (.bl true)),C):=by
 obtain ⟨ρ',C',el,hpi⟩:=ZcC (g:=hName 6) (f:=obd) (fun ρ C1=>C1=C/\∃x y z,ρ=[s,town,k,1e6,1e6,4e7,x,y,z]) (ls.map Lt.P) (fun x hx ρ C1 h_=>by
  obtain ⟨hC,a,b,c,hρ⟩:=h_
  obtain ⟨l,hl,rfl⟩:=Yy.mp hx
  subst hC hρ
  obtain ⟨x7,x8,e⟩:=obd_ok s town k u hls b c l hl (hg l hl) C1
  exact ⟨_,_,_,rfl,e,rfl,_,_,_,rfl⟩) [s,town,k,#[.lst (ls.map Lt.P)],#[.lst (ls.map Lt.P)],#[.dtt (dF ls).1 (dF ls).2],none,none,none] C ⟨rfl,_,_,_,rfl⟩
 obtain ⟨rfl,x,y,z,rfl⟩:=hpi
 have hd:=dcomp ls C'
 have hp:=pairs_eq ls
 have ee:=eqL_self ls
 have hlen:(ls.map Lt.P).length<=100000:=by simp;lia
 have hpl:(ls.map pr).length<=1000:=by simp;lia
 have hdf:dFold (ls.map pr) [] []=((dF ls).1,(dF ls).2):=rfl
 generalize (ls.map fun l=>PV.tup [tupK l.nm,l.P])=PP at hd hp
 generalize ls.map pr=PR at hp hpl hdf
 generalize (dF ls).1=K1 at *
 generalize (dF ls).2=K2 at *
 generalize hLS:ls.map Lt.P=LS at *
 generalize hOB:obd=OB at el
 have hle:lend=mSeq (mSet 4 (mVal (mList 8e6))) (mSeq (mSet 5 (mCB dictPH (aCons (mVal (mComp (mItems 5e9) 5e0 [] 6e6 tOk dte)) aNil))) (mSeq (mFor (mItems 5e9) (hName 6) OB) (mRet (mOp 9e7 5e9 (mVar 4))))):=by rw[←hOB]
 rw[hle]
 simp[mSeq,mSet,mVal,mList,aCons,aNil,mVar,bnd,opM,Pu.ret,listH,deref,mCB,mComp,mItems,itemsP,stIn',hlen,hd,dictPH,hp,hpl,hdf,mFor,el,mRet,mOp,g2,ee]
end
noncomputable def azs:Str:="abcdefghijklmnopqrstuvwxyz"
def azc (d:Int):Nat:=azs.cps.toList.getD d.toNat 0
noncomputable def sfx (d:Int):Str:=(["","zq","x","qqzzx"]:List Str).getD d.toNat ""
theorem az_inj:∀i j:Fin 26,azs.cps.toList.getD i.1 0=azs.cps.toList.getD j.1 0->i=j:=by decide +kernel
theorem azc_inj {a b:Int}(ha:0<=a/\a < 26)(hb:0<=b/\b < 26)(h:azc a=azc b):a=b:=by
 have:=az_inj ⟨a.toNat,by lia⟩ ⟨b.toNat,by lia⟩ h
 have h2:a.toNat=b.toNat:=by simpa using this
 lia
theorem ix_azc (d:Int)(h:0<=d/\d < 26):ixQ (.str "abcdefghijklmnopqrstuvwxyz") (.int d)=some (.str ⟨(List.toArray [azc d])⟩):=by
 have hl:azs.cps.toList.length=26:=by rfl
 have hd:d.toNat < azs.cps.toList.length:=by lia
 have h3:d < ((azs.cps.toList.length:Nat):Int):=by lia
 show (atI azs.cps.toList d).map _=_
 unfold atI ixN
 rw[if_pos h.1,if_pos h3]
 show ((azs.cps.toList[d.toNat]?).map _)=_
 unfold azc
 rw[Yc hd,Xv,Yc hd]
 rfl
def wd (f s:Int)(j:Nat):Str:=(⟨(List.toArray [azc ((f + s * j) % 26)])⟩:Str)++sfx ((f + j * j) % 4)
theorem sfx_len (d:Int)(h:0<=d/\d < 4):(sfx d).length<=5:=by
 have:d=0\/d=1\/d=2\/d=3:=by lia
 rcases this with rfl | rfl | rfl | rfl<;>decide +kernel
theorem ix_sfx (d:Int)(h:0<=d/\d < 4):ixQ (.lst [.str "",.str "zq",.str "x",.str "qqzzx"]) (.int d)=some (.str (sfx d)):=by
 have:d=0\/d=1\/d=2\/d=3:=by lia
 rcases this with rfl | rfl | rfl | rfl<;>simp[ixQ,ixP,atI,ixN,sfx]
theorem app_cps (a b:Str):(a++b).cps=a.cps++b.cps:=rfl
theorem app_len (a b:Str):(a++b).length=a.length + b.length:=by
 show (a.cps++b.cps).size=a.cps.size + b.cps.size
 simp
theorem wd_len (f s:Int)(j:Nat):(wd f s j).length<=10:=by
 unfold wd
 rw[app_len]
 have:=sfx_len ((f + j * j) % 4) ⟨Y6 _ 1e4,YW _ 1e4⟩
 show 1 + _<=10
 lia
def stepOk (s:Int):Prop:=s=1\/s=3\/s=5\/s=7\/s=9\/s=11
theorem wd_inj {f s:Int}(hs:stepOk s){i j:Nat}(hi:i < 16)(hj:j < 16)(h:wd f s i=wd f s j):i=j:=by
 have h0:(wd f s i).cps[0]? = (wd f s j).cps[0]?:=by rw[h]
 unfold wd at h0
 rw[app_cps,app_cps] at h0
 have h1:azc ((f + s * i) % 26)=azc ((f + s * j) % 26):=by
  rw[Vq 5e2,Vq 5e2] at h0
  simpa using h0
 have h2:=azc_inj ⟨Y6 _ 1e4,YW _ 1e4⟩ ⟨Y6 _ 1e4,YW _ 1e4⟩ h1
 rcases hs with rfl | rfl | rfl | rfl | rfl | rfl<;>lia
abbrev wdt:PSt->M SV:=mOp 5e3 (mOp 2e7 3e7 (mOp (g2 modP) (mOp 5e3 5e5 (mOp (g2 mulP) 5e9 2e0)) (mC (.int 26)))) (mOp 2e7 (mVal (mLst (aCons (mC (.str "")) (aCons (mC (.str "zq")) (aCons (mC (.str "x")) (aCons (mC (.str "qqzzx")) aNil)))))) (mOp (g2 modP) (mOp 5e3 5e5 (mOp (g2 mulP) 2e0 2e0)) 12e7))
theorem wdt_gen (f s j:Int)(az c z:Str)(h1:ixQ (.str az) (.int ((f + s * j) % 26))=some (.str c))(h2:ixQ (.lst [.str "",.str "zq",.str "x",.str "qqzzx"]) (.int ((f + j * j) % 4))=some (.str z))(hl:c.length + z.length<=1000000)(hs:-18446744073709551616 < s/\s < 18446744073709551616)(hj:-18446744073709551616 < j/\j < 18446744073709551616)(C:Cs):
  wdt [#[.int j],#[.str az],#[.int f],#[.int s]] C=some (.v (.str (c++z)),C):=by
 simp![addP,hs,hj,h1,h2,hl]
theorem one_len (c:Nat):(⟨(List.toArray [c])⟩:Str).length=1:=rfl
theorem wdt_eq (f s:Int)(j:Nat)(hf:0<=f/\f < 26)(hs:stepOk s)(hj:j < 16)(C:Cs):wdt [#[(.int (0 + (j:Int)))],#[.str "abcdefghijklmnopqrstuvwxyz"],#[.int f],#[.int s]] C=some (.v (.str (wd f s j)),C):=by
 rw[Int.zero_add]
 unfold wd
 refine wdt_gen f s (j:Int) _ _ _ (ix_azc _ ⟨Y6 _ 1e4,YW _ 1e4⟩) (ix_sfx _ ⟨Y6 _ 1e4,YW _ 1e4⟩) ?_ ?_ ?_ C
 ·have h3:=sfx_len ((f + j * j) % 4) ⟨Y6 _ 1e4,YW _ 1e4⟩
  rw[one_len];lia
 ·unfold stepOk at hs;lia
 ·lia
theorem words_adv (k:Nat)(C:Cs)(h:GS C k):∃(ws:6e2) (C':Cs),F_l_words [.c k,.v (.int 16)] C=some (.v (.lst (ws.map .str)),C')/\ws.length=16/\ws.Nodup/\(∀w∈ws,w.length<=10)/\Adv k C C':=by
 obtain ⟨d,C1,e1,d1,d2,a1⟩:=Zal k 26 C h 1e4
 obtain ⟨s,C2,e2,s1,s2,a2⟩:=Zal k 6 C1 a1.gs 1e4
 have a:=a1.trans a2
 obtain ⟨st,ep,hst⟩:∃st,ixQ (.lst [.int 1,.int 3,.int 5,.int 7,.int 9,.int 11]) (.int s)=some (.int st)/\stepOk st:=by
  have:s=0\/s=1\/s=2\/s=3\/s=4\/s=5:=by lia
  rcases this with rfl | rfl | rfl | rfl | rfl | rfl
  ·exact ⟨1,rfl,.inl rfl⟩
  ·exact ⟨3,rfl,.inr (.inl rfl)⟩
  ·exact ⟨5,rfl,.inr (.inr (.inl rfl))⟩
  ·exact ⟨7,rfl,.inr (.inr (.inr (.inl rfl)))⟩
  ·exact ⟨9,rfl,.inr (.inr (.inr (.inr (.inl rfl))))⟩
  ·exact ⟨11,rfl,.inr (.inr (.inr (.inr (.inr rfl))))⟩
 have hF:F_l_words=mDef 2 3 (mSeq (mSet 2 (mC (.str "abcdefghijklmnopqrstuvwxyz"))) (mSeq (mSet 3 (mFn F_l_pick (aCons 2e0 (aCons (mC (.int 26)) aNil)))) (mSeq (mSet 4 (mOp 2e7 (mVal (mLst (aCons 1e9 (aCons 4e4 (aCons 12e6 (aCons (mC (.int 7)) (aCons (mC (.int 9)) (aCons (mC (.int 11)) aNil)))))))) (mFn F_l_pick (aCons 2e0 (aCons (mC (.int 6)) aNil))))) (mRetF (mComp (mRange1 (aCons 3e7 aNil)) ["_law_k"] [2,3,4] 6e6 tOk wdt))))):=rfl
 rw[hF]
 have ec:=ZbQ (te:=wdt) (f:=fun p=>match p with | .int i=>.str (wd d st i.toNat) | _=>.non) ((Yk 16).map fun (j:Nat)=>PV.int (0 + j)) [none,#[.str "abcdefghijklmnopqrstuvwxyz"],#[.int d],#[.int st]] [] C2 (fun x hx=>by
  obtain ⟨j,hj,rfl⟩:=Yy.mp hx
  have:=wdt_eq d st j ⟨d1,d2⟩ hst (Xy.mp hj) C2
  show wdt [#[(.int (0 + (j:Int)))],_,_,_] C2=some (.v (.str (wd d st (0 + (j:Int)).toNat)),C2)
  rw[show (0 + (j:Int)).toNat=j by lia]
  exact this)
 rw[Xg,Y2] at ec
 have em:(Yk 16).map ((fun p=>match p with | .int i=>.str (wd d st i.toNat) | _=>.non) ∘ fun (j:Nat)=>PV.int (0 + (j:Int)))=((Yk 16).map (wd d st)).map PV.str:=by
  rw[Y2]
  apply List.map_congr_left
  intro j hj
  show PV.str (wd d st (0 + (j:Int)).toNat)=_
  rw[show (0 + (j:Int)).toNat=j by lia];rfl
 rw[em] at ec
 refine ⟨(Yk 16).map (wd d st),C2,?_,by simp,?_,?_,a⟩
 ·have hr:rng1P [.v (.int 16)]=some ((Yk 16).map fun (j:Nat)=>PV.int (0 + j)):=rfl
  have hl9:((Yk 16).map fun (j:Nat)=>PV.int (0 + j)).length<=100000:=by decide
  generalize ((Yk 16).map fun (j:Nat)=>PV.int (0 + j))=rs at ec hr hl9
  generalize ((Yk 16).map (wd d st)).map PV.str=zs at ec
  generalize ("abcdefghijklmnopqrstuvwxyz":Str)=az at ec ⊢
  generalize wdt=te at ec
  simp[mDef,mSeq,mSet,mC,bnd,Pu.ret,mFn,aCons,aNil,mVar,e1,e2,mOp,mVal,mLst,Pu.plain,opM,g2,deref,ep,mRetF,mComp,mRange1,hr,hl9,stIn',ec,a.take]
 ·rw[YN,Wu]
  refine List.Pairwise.imp_of_mem (fun {x y} hx hy hne e=>?_) (YN.mp List.nodup_range)
  exact hne (wd_inj hst (Xy.mp hx) (Xy.mp hy) e)
 ·intro w hw
  obtain ⟨j,_,rfl⟩:=Yy.mp hw
  exact wd_len _ _ _
noncomputable def szP (zs:List Int):PV:=.lst (zs.map .int)
structure SzOk (zs:List Int):Prop where
 ne:0 < zs.length
 le:zs.length<=12
 rg:∀z∈zs,1<=z/\z<=9
def EvOk (ks:9e2):Prop:=(∃i,ks=[.inr "joined",.inl i])\/(∃i w,ks=[.inr "said",.inl i,.inr w])\/∃a b c,ks=[.inr "did",.inl a,.inl b,.inl c]
theorem ix_ints {zs:List Int}(h:SzOk zs)(d:Int)(h1:0<=d)(h2:d < zs.length):∃z,ixQ (szP zs) (.int d)=some (.int z)/\1<=z/\z<=9:=by
 have hd:d.toNat < zs.length:=by lia
 refine ⟨zs[d.toNat],?_,h.rg _ (YV hd)⟩
 simp[szP,ixQ,ixP,atI,ixN,h1,h2,Yc hd]
theorem ix_szs {os:List (List Int)}(h:∀z∈os,SzOk z)(d:Int)(h1:0<=d)(h2:d < os.length):∃z,ixQ (.lst (os.map szP)) (.int d)=some (szP z)/\SzOk z:=by
 have hd:d.toNat < os.length:=by lia
 refine ⟨os[d.toNat],?_,h _ (YV hd)⟩
 simp[ixQ,ixP,atI,ixN,h1,h2,Yc hd]
theorem ix_strs (ws:6e2)(d:Int)(h1:0<=d)(h2:d < ws.length):∃w∈ws,ixQ (.lst (ws.map .str)) (.int d)=some (.str w):=by
 have hd:d.toNat < ws.length:=by lia
 refine ⟨ws[d.toNat],YV hd,?_⟩
 simp[ixQ,ixP,atI,ixN,h1,h2,Yc hd]
theorem event_adv (k:Nat)(H:Int)(os:List (List Int))(zs:List Int)(ws:6e2)(own:Int)(C:Cs)(g:GS C k)(hH:2<=H/\H<=8)(ho:∀z∈os,SzOk z)(hol:os.length<=100)(hz:SzOk zs)(hw:4<=ws.length):
  ∃ks C',F_l_event [.c k,.v (.tup [.int H,.lst (os.map szP),szP zs]),.v (.lst (ws.map .str)),.v (.int own)] C=some (.v (tupK ks),C')/\EvOk ks/\Adv k C C':=by
 obtain ⟨w,C1,e1,w1,w2,a1⟩:=Zal k 6 C g 1e4
 by_cases h2:w < 2
 ·obtain ⟨i,C2,e2,i1,i2,a2⟩:=Zal k H C1 a1.gs 1e3
  have a:=a1.trans a2
  refine ⟨[.inr "joined",.inl i],C2,?_,.inl ⟨i,rfl⟩,a⟩
  generalize os.map szP=OS
  generalize szP zs=ZS
  generalize ws.map PV.str=WS
  simp![F_l_event,mAsg,hTup,hCons,hName,hNil,e1,ltP,h2,e2,a.take,tupK,kP]
 ·by_cases h4:w < 4
  ·obtain ⟨i,C2,e2,i1,i2,a2⟩:=Zal k H C1 a1.gs 1e3
   obtain ⟨j,C3,e3,j1,j2,a3⟩:=Zal k 4 C2 a2.gs 1e4
   have a:=(a1.trans a2).trans a3
   obtain ⟨v,_,ev⟩:=ix_strs ws j j1 1e3
   have ev':ixT (.lst (ws.map .str)) (.int j)=some (.str v):=ev
   refine ⟨[.inr "said",.inl i,.inr v],C3,?_,.inr (.inl ⟨i,v,rfl⟩),a⟩
   generalize os.map szP=OS
   generalize szP zs=ZS
   generalize ws.map PV.str=WS at *
   simp![F_l_event,mAsg,hTup,hCons,hName,hNil,e1,ltP,h2,h4,e2,e3,ev',a.take,tupK,kP]
  ·obtain ⟨i,C2,e2,i1,i2,a2⟩:=Zal k ((os.length:Int) + 1) C1 a1.gs 1e3
   obtain ⟨z,ez,hzz⟩:∃z,ixQ (.lst (szP zs::os.map szP)) (.int i)=some (szP z)/\SzOk z:=by
    have:=ix_szs (os:=zs::os) (fun y hy=>by
     rcases Ys.mp hy with rfl | hy
     ·exact hz
     ·exact ho y hy) i i1 (by simp;lia)
    simpa using this
   have hne:=hzz.ne
   have hle:=hzz.le
   obtain ⟨c,C3,e3,c1,c2,a3⟩:=Zal k (z.length:Int) C2 a2.gs 1e3
   obtain ⟨y,ey,y1,y2⟩:=ix_ints hzz c c1 c2
   have hlz:lenH [szP z]=some (.int (z.length:Int)):=by simp[szP,lenH]
   have hlo:1 + (os.map szP).length<=1000000:=by simp;lia
   have hcat:addP (.lst [szP zs]) (.lst (os.map szP))=some (.lst (szP zs::os.map szP)):=by
    unfold addP;simp;lia
   have hlOS:lenH [.lst (os.map szP)]=some (.int (os.length:Int)):=by simp[lenH]
   by_cases hj:i=0/\c=own
   ·obtain ⟨b,C4,e4,b1,b2,a4⟩:=Zal k H C3 a3.gs 1e3
    have a:=((a1.trans a2).trans a3).trans a4
    refine ⟨[.inr "joined",.inl b],C4,?_,.inl ⟨b,rfl⟩,a⟩
    have at':=a.take
    obtain ⟨rfl,rfl⟩:=hj
    generalize os.map szP=OS at *
    generalize szP zs=ZS at *
    generalize szP z=SZ at *
    generalize ws.map PV.str=WS
    simp[F_l_event,mDef,mRet,mCB,mOp,mTest,mAndT,mIfS,mSeq,mSkip,mSet,mTup,mLst,mVal,mFn,bnd,opM,aCons,aNil,mVar,mC,Pu.ret,g1,g2,derefs,deref,mB,asB,intP,fin,Pu.plain,eqP,scP,mAsg,hTup,hCons,hName,hNil,e1,ltP,h2,h4,hlOS,hlo,addP,e2,ez,hlz,e3,e4,at',tupK,kP]
   ·obtain ⟨b,C4,e4,b1,b2,a4⟩:=Zal k y C3 a3.gs 1e3
    have a:=((a1.trans a2).trans a3).trans a4
    refine ⟨[.inr "did",.inl i,.inl c,.inl b],C4,?_,.inr (.inr ⟨i,c,b,rfl⟩),a⟩
    have at':=a.take
    generalize os.map szP=OS at *
    generalize szP zs=ZS at *
    generalize szP z=SZ at *
    generalize ws.map PV.str=WS
    by_cases hi0:i=0
    ·have hc:¬c=own:=fun q=>hj ⟨hi0,q⟩
     subst hi0
     simp[F_l_event,mDef,mRet,mCB,mOp,mTest,mAndT,mIfS,mSeq,mSkip,mSet,mTup,mLst,mVal,mFn,bnd,opM,aCons,aNil,mVar,mC,Pu.ret,g1,g2,derefs,deref,mB,asB,intP,fin,Pu.plain,eqP,scP,mAsg,hTup,hCons,hName,hNil,e1,ltP,h2,h4,hlOS,hlo,addP,e2,ez,hlz,e3,hc,ey,e4,at',tupK,kP]
    ·simp[F_l_event,mDef,mRet,mCB,mOp,mTest,mAndT,mIfS,mSeq,mSkip,mSet,mTup,mLst,mVal,mFn,bnd,opM,aCons,aNil,mVar,mC,Pu.ret,g1,g2,derefs,deref,mB,asB,intP,fin,Pu.plain,eqP,scP,mAsg,hTup,hCons,hName,hNil,e1,ltP,h2,h4,hlOS,hlo,addP,e2,ez,hlz,e3,hi0,ey,e4,at',tupK,kP]
theorem Zan {f g:10e9}{ρ ρ1:PSt}{C C1:Cs}(h:f ρ C=some (.nx ρ1,C1)):mSeq f g ρ C=g ρ1 C1:=by
 unfold mSeq bnd;rw[h]
theorem ZbO {g:5e8}{f:10e9}(Pi:Nat->PSt->Cs->Prop)(N:Nat):∀(xs:List PV) (i:Nat),i + xs.length<=N->(∀x∈xs,∀i ρ C,i < N->Pi i ρ C->∃ρ1 ρ2 C2,g x ρ=some ρ1/\f ρ1 C=some (.nx ρ2,C2)/\Pi (i + 1) ρ2 C2)->∀ρ C,Pi i ρ C->∃ρ' C',loop g f xs ρ C=some (.nx ρ',C')/\Pi (i + xs.length) ρ' C'
 | [],i,_,_,ρ,C,h=>⟨ρ,C,rfl,h⟩
 | x::xs,i,hN,hs,ρ,C,h=>by
  simp only[YG] at hN
  obtain ⟨ρ1,ρ2,C2,e1,e2,h2⟩:=hs x 5e2 i ρ C 1e3 h
  obtain ⟨ρ',C',e3,h3⟩:=ZbO Pi N xs (i + 1) 1e3 (fun y hy=>hs y (by simp[hy])) ρ2 C2 h2
  refine ⟨ρ',C',?_,by simpa[Nat.add_assoc,Nat.add_comm 1] using h3⟩
  unfold loop
  simp only[e1,bnd,e2,e3]
structure Cl where
 a:Int
 b:Int
 p:Int
 w:Int
 cs:List 9e8
 lv:Option (List Key×Int)
def lvP:Option (List Key×Int)->PV
 | none=>.tup []
 | some (e,n)=>.tup [tupK e,.int n]
def Cl.P (c:Cl):PV:=.tup [.int c.a,.int c.b,.int c.p,.int c.w,.tup (c.cs.map tupK),lvP c.lv]
structure ClOk (c:Cl):Prop where
 p:1<=c.p/\c.p<=9
 cs:∀e∈c.cs,EvOk e
 le:c.cs.length<=8
 lv:∀e n,c.lv=some (e,n)->EvOk e
abbrev evt:PSt->M SV:=mFn F_l_event (aCons 2e0 (aCons (mTup (aCons 3e7 (aCons 5e9 6e9))) (aCons (mVar 4) (aCons 8e8 aNil))))
abbrev ebd:PSt->M PF:=mSeq (mSet 12 evt) (mIfS 11e1 (mDrop (mApp (mVar 10) (aCons (mVar 12) aNil))) mSkip)
section
variable (k m n:Nat)(H:Int)(os:List (List Int))(zs:List Int)(ws:6e2)
abbrev bas:PSt:=[3e2,#[.int H],#[szP zs],#[.lst (os.map szP)],4e3,some (.c m)]
theorem evt_adv (c:Int)(x7 x8 x9 x10 x11 x12 x13 x14:7e8)(C:Cs)(g:GS C k)(hH:2<=H/\H<=8)(ho:∀z∈os,SzOk z)(hol:os.length<=100)(hz:SzOk zs)(hw:4<=ws.length):
  ∃e C',evt (bas k m H os zs ws++[11e9,x7,x8,x9,x10,x11,x12,x13,x14]) C=some (.v (tupK e),C')/\EvOk e/\Adv k C C':=by
 obtain ⟨e,C',h,he,a⟩:=event_adv k H os zs ws c C g hH ho hol hz hw
 refine ⟨e,C',?_,he,a⟩
 simp[evt,mFn,aCons,aNil,mVar,bnd,opM,Pu.ret,mTup,Pu.plain]
 exact h
theorem notin_ev (e:9e2)(es:List 9e8):∃b,inDP true (tupK e) (.lst (es.map tupK))=some (.bl b):=by
 have h1:dats (es.map tupK)=true:=ZaW Za4 _
 have h2:deps (es.map tupK)<=50:=Yz (ZaV Zbn _) 1e4
 refine ⟨!(es.map tupK).any (fun p=>eqD p (tupK e)),?_⟩
 unfold inDP
 dsimp only
 rw[h1,Za4,decide_eq_true h2];rfl
theorem ebd_ok (c:Int)(x7 x8 x9 x11 x12 x13 x14:7e8)(C:Cs)(es:List 9e8)(g:GS C k)(hkn:k≠n)(hC:C[n]? = some (.lst (es.map tupK)))(hes:∀e∈es,EvOk e)(hl:es.length<=1000)(hH:2<=H/\H<=8)(ho:∀z∈os,SzOk z)(hol:os.length<=100)(hz:SzOk zs)(hw:4<=ws.length):
  ∃(y12:7e8) (C':Cs) (es':List 9e8),ebd (bas k m H os zs ws++[11e9,x7,x8,x9,some (.c n),x11,x12,x13,x14]) C=some (.nx (bas k m H os zs ws++[11e9,x7,x8,x9,some (.c n),x11,y12,x13,x14]),C')/\GS C' k/\C'[n]? = some (.lst (es'.map tupK))/\(∀e∈es',EvOk e)/\es'.length<=es.length + 1/\C'.length=C.length/\∀j,j≠k->j≠n->C'[j]? = C[j]?:=by
 obtain ⟨e,C1,h1,he,a⟩:=evt_adv k m H os zs ws c x7 x8 x9 (some (.c n)) x11 x12 x13 x14 C g hH ho hol hz hw
 have hn1:C1[n]? = some (.lst (es.map tupK)):=by rw[a.oth n (Xi hkn)];exact hC
 obtain ⟨b,hb⟩:=notin_ev e es
 have st1:mSet 12 evt (bas k m H os zs ws++[11e9,x7,x8,x9,some (.c n),x11,x12,x13,x14]) C=some (.nx (bas k m H os zs ws++[11e9,x7,x8,x9,some (.c n),x11,#[tupK e],x13,x14]),C1):=by
  unfold mSet bnd;rw[h1];rfl
 have hll:(es.map tupK).length < 100000:=by simp;lia
 cases b with
 | false=>
  refine ⟨#[tupK e],C1,es,?_,a.gs,hn1,hes,by lia,a.len,fun j h _=>a.oth j h⟩
  rw[show ebd=mSeq (mSet 12 evt) (mIfS 11e1 (mDrop (mApp (mVar 10) (aCons (mVar 12) aNil))) mSkip) from rfl,Zan st1]
  generalize tupK e=E at *
  generalize es.map tupK=ES at *
  simp[mIfS,mTest,mOp,bnd,mVar,opM,g2,deref,hn1,hb,mB,asB,Pu.ret,mSkip]
 | true=>
  have hes2:(es++[e]).map tupK=es.map tupK++[tupK e]:=by simp
  refine ⟨#[tupK e],C1.set n (.lst ((es++[e]).map tupK)),es++[e],?_,?_,setAt hn1,?_,by simp,by simp[a.len],fun j h h'=>?_⟩
  ·rw[show ebd=mSeq (mSet 12 evt) (mIfS 11e1 (mDrop (mApp (mVar 10) (aCons (mVar 12) aNil))) mSkip) from rfl,Zan st1,hes2]
   generalize tupK e=E at *
   generalize es.map tupK=ES at *
   simp[mIfS,mTest,mOp,bnd,mVar,opM,g2,deref,hn1,hb,mB,asB,Pu.ret,mSkip,mDrop,mApp,isLst,aCons,aNil,appC,hll]
  ·obtain ⟨x,y,h,r⟩:=a.gs
   exact ⟨x,y,by rw[Ym (Xi hkn)];exact h,r⟩
  ·intro z hz'
   rcases YB.mp hz' with hz' | hz'
   ·exact hes z hz'
   ·rw[Yw.mp hz'];exact he
  ·rw[Ym (Xi h')];exact a.oth j h
end
abbrev crd:PSt->M SV:=mOp (g2 modP) (mOp 5e3 (mOp 5e3 (mVar 8) 1e9) (mFn F_l_pick (aCons 2e0 (aCons (mOp (g2 subP) 3e7 1e9) aNil)))) 3e7
abbrev rgE:PSt->M SV:=mOp 2e7 (mVal (mLst (aCons 2e6 (aCons 1e9 (aCons 2e6 (aCons 2e5 (aCons 1e9 (aCons 2e6 (aCons 4e4 5e1))))))))) (mFn F_l_pick (aCons 2e0 5e1))
abbrev lvS:PSt->M PF:=mIfS (mTest (mOp 9e7 10e6 2e6)) (mSeq (mSet 12 evt) (mIfS 11e1 (mSet 13 (mTup (aCons (mVar 12) (aCons (mOp 5e3 1e9 (mFn F_l_pick (aCons 2e0 10e5))) aNil)))) mSkip)) mSkip
abbrev wth:PSt->M SV:=mOp 2e7 (mVal (mLst (aCons (mOp 5e3 1e9 (mFn F_l_pick (aCons 2e0 (aCons (mC (.int 6)) aNil)))) (aCons (mOp 5e3 1e9 (mFn F_l_pick (aCons 2e0 (aCons (mC (.int 40)) aNil)))) aNil)))) 10e6
abbrev clT:PSt->M SV:=mTup (aCons (mVar 8) (aCons (mVar 9) (aCons (mVar 7) (aCons (mVar 14) (aCons (mCB (g1 tupH) (aCons (mVar 10) aNil)) (aCons (mVar 13) aNil))))))
abbrev cbd:PSt->M PF:=mSeq (mSet 8 (mFn F_l_pick (aCons 2e0 (aCons 3e7 aNil)))) (mSeq (mSet 9 crd) (mSeq (mNew 10 8e3) (mSeq (mFor (mRange1 (aCons rgE aNil)) (hName 11) ebd) (mSeq (mSet 13 (mTup aNil)) (mSeq lvS (mSeq (mSet 14 wth) (mDrop (mApp 7e3 (aCons clT aNil)))))))))
theorem clauses_is:B_l_clauses=mSeq (mNew 5 8e3) (mSeq (mFor (mEnum 6e9) (hTup (hCons (hName 6) (hCons (hName 7) hNil)) 2) cbd) (mRet (mCB (g1 tupH) (aCons 7e3 aNil)))):=rfl
section
variable (k m:Nat)(H:Int)(os:List (List Int))(zs:List Int)(ws:6e2)
theorem crd_adv (d:Int)(x6 x7 x9 x10 x11 x12 x13 x14:7e8)(C:Cs)(g:GS C k)(hH:2<=H/\H<=8):
  ∃v C',crd (bas k m H os zs ws++[x6,x7,#[.int d],x9,x10,x11,x12,x13,x14]) C=some (.v (.int v),C')/\Adv k C C':=by
 obtain ⟨y,C',e,y1,y2,a⟩:=Zal k (H - 1) C g 1e3
 refine ⟨(d + 1 + y) % H,C',?_,a⟩
 have h1:0 < H:=by lia
 have h2:H < 1073741824:=by lia
 simp[crd,mOp,mFn,aCons,aNil,mVar,mC,bnd,opM,Pu.ret,g2,deref,addP,subP,intP,e,modP,h1,h2]
theorem rgE_adv (x6 x7 x8 x9 x10 x11 x12 x13 x14:7e8)(C:Cs)(g:GS C k):
  ∃v C',rgE (bas k m H os zs ws++[x6,x7,x8,x9,x10,x11,x12,x13,x14]) C=some (.v (.int v),C')/\0<=v/\v<=8/\Adv k C C':=by
 obtain ⟨y,C',e,y1,y2,a⟩:=Zal k 8 C g 1e4
 obtain ⟨v,hv,h0,h8⟩:∃v,ixQ (.lst [.int 0,.int 1,.int 0,.int 2,.int 1,.int 0,.int 3,.int 8]) (.int y)=some (.int v)/\0<=v/\v<=8:=by
  obtain ⟨p,ep,hp⟩:=ix_all (okk:=fun p=>match p with | .int i=>decide (0<=i)&&decide (i<=8) | _=>false) [.int 0,.int 1,.int 0,.int 2,.int 1,.int 0,.int 3,.int 8] (by rfl) y y1 (by simpa using y2)
  cases p with
  | int i=>simp only[Yt,decide_eq_true_eq] at hp;exact ⟨i,ep,hp⟩
  | _=>cases hp
 refine ⟨v,C',?_,h0,h8,a⟩
 simp[rgE,mOp,mVal,mLst,mFn,aCons,aNil,mVar,mC,bnd,opM,Pu.ret,g2,deref,Pu.plain,e,hv]
theorem wth_adv (x6 x7 x8 x9 x10 x11 x12 x13 x14:7e8)(C:Cs)(g:GS C k):
  ∃v C',wth (bas k m H os zs ws++[x6,x7,x8,x9,x10,x11,x12,x13,x14]) C=some (.v (.int v),C')/\Adv k C C':=by
 obtain ⟨y1,C1,e1,_,_,a1⟩:=Zal k 6 C g 1e4
 obtain ⟨y2,C2,e2,_,_,a2⟩:=Zal k 40 C1 a1.gs 1e4
 obtain ⟨y3,C3,e3,h1,h2,a3⟩:=Zal k 2 C2 a2.gs 1e4
 obtain ⟨v,hv⟩:∃v,ixQ (.lst [.int (1 + y1),.int (1 + y2)]) (.int y3)=some (.int v):=by
  have:y3=0\/y3=1:=by lia
  rcases this with rfl | rfl
  ·exact 8e4
  ·exact 8e4
 refine ⟨v,C3,?_,(a1.trans a2).trans a3⟩
 simp[wth,mOp,mVal,mLst,mFn,aCons,aNil,mVar,mC,bnd,opM,Pu.ret,g2,deref,Pu.plain,addP,intP,e1,e2,e3,hv]
theorem lvS_ok (n:Nat)(c:Int)(x7 x8 x9 x11 x12 x14:7e8)(C:Cs)(es:List 9e8)(g:GS C k)(hkn:k≠n)(hC:C[n]? = some (.lst (es.map tupK)))(hH:2<=H/\H<=8)(ho:∀z∈os,SzOk z)(hol:os.length<=100)(hz:SzOk zs)(hw:4<=ws.length):
  ∃(y12:7e8) (lv:Option (List Key×Int)) (C':Cs),lvS (bas k m H os zs ws++[11e9,x7,x8,x9,some (.c n),x11,x12,#[.tup []],x14]) C=some (.nx (bas k m H os zs ws++[11e9,x7,x8,x9,some (.c n),x11,y12,#[lvP lv],x14]),C')/\(∀e i,lv=some (e,i)->EvOk e)/\Adv k C C':=by
 obtain ⟨y,C1,e1,y1,y2,a1⟩:=Zal k 2 C g 1e4
 have t:deepP eqD (.int y) (.int 0)=some (.bl (y==0)):=by simp[deepP,dat,dep,eqD]
 cases hy:(y==0) with
 | false=>
  rw[hy] at t
  refine ⟨x12,none,C1,?_,(fun e i h=>(nomatch h)),a1⟩
  simp[lvS,mIfS,mTest,mOp,mFn,aCons,aNil,bnd,mVar,mC,opM,g2,deref,e1,t,mB,asB,Pu.ret,mSkip,lvP]
 | true=>
  rw[hy] at t
  obtain ⟨e,C2,h2,he,a2⟩:=evt_adv k m H os zs ws c x7 x8 x9 (some (.c n)) x11 x12 #[.tup []] x14 C1 a1.gs hH ho hol hz hw
  have a12:=a1.trans a2
  have hn2:C2[n]? = some (.lst (es.map tupK)):=by rw[a12.oth n (Xi hkn)];exact hC
  obtain ⟨b,hb⟩:=notin_ev e es
  have st0:∀f:PSt->M PF,mIfS (mTest (mOp 9e7 10e6 2e6)) f mSkip (bas k m H os zs ws++[11e9,x7,x8,x9,some (.c n),x11,x12,#[.tup []],x14]) C=f (bas k m H os zs ws++[11e9,x7,x8,x9,some (.c n),x11,x12,#[.tup []],x14]) C1:=fun f=>by
   simp[mIfS,mTest,mOp,mFn,aCons,aNil,bnd,mVar,mC,opM,g2,deref,e1,t,mB,asB,Pu.ret]
  have st1:mSet 12 evt (bas k m H os zs ws++[11e9,x7,x8,x9,some (.c n),x11,x12,#[.tup []],x14]) C1=some (.nx (bas k m H os zs ws++[11e9,x7,x8,x9,some (.c n),x11,#[tupK e],#[.tup []],x14]),C2):=by
   unfold mSet bnd;rw[h2];rfl
  cases b with
  | false=>
   refine ⟨#[tupK e],none,C2,?_,(fun e i h=>(nomatch h)),a12⟩
   rw[show lvS=mIfS (mTest (mOp 9e7 10e6 2e6)) (mSeq (mSet 12 evt) (mIfS 11e1 (mSet 13 (mTup (aCons (mVar 12) (aCons (mOp 5e3 1e9 (mFn F_l_pick (aCons 2e0 10e5))) aNil)))) mSkip)) mSkip from rfl,st0,Zan st1]
   generalize tupK e=E at *
   generalize es.map tupK=ES at *
   simp[mIfS,mTest,mOp,bnd,mVar,opM,g2,deref,hn2,hb,mB,asB,Pu.ret,mSkip,lvP]
  | true=>
   obtain ⟨z,C3,e3,_,_,a3⟩:=Zal k 9 C2 a12.gs 1e4
   refine ⟨#[tupK e],some (e,1 + z),C3,?_,(fun e' i h=>by cases h;exact he),a12.trans a3⟩
   rw[show lvS=mIfS (mTest (mOp 9e7 10e6 2e6)) (mSeq (mSet 12 evt) (mIfS 11e1 (mSet 13 (mTup (aCons (mVar 12) (aCons (mOp 5e3 1e9 (mFn F_l_pick (aCons 2e0 10e5))) aNil)))) mSkip)) mSkip from rfl,st0,Zan st1]
   rw[show lvP (some (e,1 + z))=.tup [tupK e,.int (1 + z)] from rfl]
   generalize tupK e=E at *
   generalize es.map tupK=ES at *
   simp[mIfS,mTest,mOp,bnd,mVar,opM,g2,deref,hn2,hb,mB,asB,Pu.ret,mSkip,mSet,mTup,aCons,aNil,mC,mFn,e3,addP,intP,Pu.plain]
end
theorem GS.lt {C:Cs}{k:Nat}(g:GS C k):k < C.length:=by
 obtain ⟨x,y,h,_⟩:=g
 rcases YJ k C.length with q | q
 ·exact q
 ·rw[Ye.mpr q] at h;cases h
theorem GS.app {C:Cs}{k:Nat}(g:GS C k)(c:PV):GS (C++[c]) k:=by
 have hl:=g.lt
 obtain ⟨x,y,h,r⟩:=g
 exact ⟨x,y,by rw[Yd hl];exact h,r⟩
section
variable (k m:Nat)(H:Int)(os:List (List Int))(zs:List Int)(ws:6e2)
theorem cbd_ok (c p:Int)(x8 x9 x10 x11 x12 x13 x14:7e8)(C:Cs)(cs:List Cl)(g:GS C k)(hkm:k≠m)(hC:C[m]? = some (.lst (cs.map Cl.P)))(hcs:∀d∈cs,ClOk d)(hl:cs.length<=1000)(hp:1<=p/\p<=9)(hH:2<=H/\H<=8)(ho:∀z∈os,SzOk z)(hol:os.length<=100)(hz:SzOk zs)(hw:4<=ws.length):
  ∃(y8 y9 y10 y11 y12 y13 y14:7e8) (C':Cs) (d:Cl),cbd (bas k m H os zs ws++[11e9,#[.int p],x8,x9,x10,x11,x12,x13,x14]) C=some (.nx (bas k m H os zs ws++[11e9,#[.int p],y8,y9,y10,y11,y12,y13,y14]),C')/\ClOk d/\GS C' k/\C'[m]? = some (.lst ((cs++[d]).map Cl.P))/\C.length<=C'.length/\∀j,j < C.length->j≠k->j≠m->C'[j]? = C[j]?:=by
 have hml:m < C.length:=by
  rcases YJ m C.length with q | q
  ·exact q
  ·rw[Ye.mpr q] at hC;cases hC
 obtain ⟨d,C1,e1,d1,d2,a1⟩:=Zal k H C g 1e3
 have st1:mSet 8 (mFn F_l_pick (aCons 2e0 (aCons 3e7 aNil))) (bas k m H os zs ws++[11e9,#[.int p],x8,x9,x10,x11,x12,x13,x14]) C=some (.nx (bas k m H os zs ws++[11e9,#[.int p],#[.int d],x9,x10,x11,x12,x13,x14]),C1):=by
  simp[mSet,mFn,aCons,aNil,mVar,bnd,Pu.ret,e1]
 obtain ⟨v,C2,e2,a2⟩:=crd_adv k m H os zs ws d #[.int c] #[.int p] x9 x10 x11 x12 x13 x14 C1 a1.gs hH
 have a12:=a1.trans a2
 have st2:mSet 9 crd (bas k m H os zs ws++[11e9,#[.int p],#[.int d],x9,x10,x11,x12,x13,x14]) C1=some (.nx (bas k m H os zs ws++[11e9,#[.int p],#[.int d],#[.int v],x10,x11,x12,x13,x14]),C2):=by
  unfold mSet bnd;rw[e2];rfl
 have st3:mNew 10 8e3 (bas k m H os zs ws++[11e9,#[.int p],#[.int d],#[.int v],x10,x11,x12,x13,x14]) C2=some (.nx (bas k m H os zs ws++[11e9,#[.int p],#[.int d],#[.int v],7e7,x11,x12,x13,x14]),C2++[.lst []]):=by
  simp[mNew,mLst,aNil,bnd,opM,Pu.ret,Pu.plain]
 have g3:=a12.gs.app (.lst [])
 have hkn:k≠C2.length:=Yn a12.gs.lt
 have hmn:m≠C2.length:=by rw[a12.len];lia
 obtain ⟨r,C4,e4,r0,r8,a4⟩:=rgE_adv k m H os zs ws #[.int c] #[.int p] #[.int d] #[.int v] (some (.c C2.length)) x11 x12 x13 x14 (C2++[.lst []]) g3
 have hn4:C4[C2.length]? = some (.lst (([]:List 9e8).map tupK)):=by rw[a4.oth _ (Xi hkn)];simp
 obtain ⟨ρ',C5,e5,hpi⟩:=ZbO (g:=hName 11) (f:=ebd) (fun i ρ D=>∃(z11 z12:7e8) (es:List 9e8),ρ=bas k m H os zs ws++[11e9,#[.int p],#[.int d],#[.int v],7e7,z11,z12,x13,x14]/\GS D k/\D[C2.length]? = some (.lst (es.map tupK))/\(∀e∈es,EvOk e)/\es.length<=i/\D.length=C4.length/\∀j,j≠k->j≠C2.length->D[j]? = C4[j]?) 8
  ((Yk r.toNat).map fun (q:Nat)=>PV.int (0 + q)) 0 12e1 (fun x hx i ρ D hi h=>by
   obtain ⟨z11,z12,es,rfl,h1,h2,h3,h4,h5,h6⟩:=h
   obtain ⟨y12,D',es',t1,t2,t3,t4,t5,t6,t7⟩:=ebd_ok k m C2.length H os zs ws c #[.int p] #[.int d] #[.int v] #[x] z12 x13 x14 D es h1 hkn h2 h3 1e3 hH ho hol hz hw
   exact ⟨_,_,D',rfl,t1,#[x],y12,es',rfl,t2,t3,t4,by lia,by rw[t6,h5],fun j q1 q2=>by rw[t7 j q1 q2,h6 j q1 q2]⟩) (bas k m H os zs ws++[#[.int c],#[.int p],#[.int d],#[.int v],some (.c C2.length),x11,x12,x13,x14]) C4 ⟨x11,x12,[],rfl,a4.gs,hn4,(fun e h=>(nomatch h)),Yh _,rfl,fun _ _ _=>rfl⟩
 obtain ⟨z11,z12,es,rfl,g5,hn5,hes,hel,hl5,ho5⟩:=hpi
 have hel8:es.length<=8:=by simp at hel;lia
 have st4:mFor (mRange1 (aCons rgE aNil)) (hName 11) ebd (bas k m H os zs ws++[11e9,#[.int p],#[.int d],#[.int v],7e7,x11,x12,x13,x14]) (C2++[.lst []])=some (.nx (bas k m H os zs ws++[11e9,#[.int p],#[.int d],#[.int v],7e7,z11,z12,x13,x14]),C5):=by
  have hr:rng1P [.v (.int r)]=some ((Yk r.toNat).map fun (q:Nat)=>PV.int (0 + q)):=by
   unfold rng1P;dsimp only;rw[if_pos 1e3]
  have hm:mRange1 (aCons rgE aNil) (bas k m H os zs ws++[11e9,#[.int p],#[.int d],#[.int v],7e7,x11,x12,x13,x14]) (C2++[.lst []])=some ((Yk r.toNat).map fun (q:Nat)=>PV.int (0 + q),C4):=by
   have:aCons rgE aNil (bas k m H os zs ws++[11e9,#[.int p],#[.int d],#[.int v],7e7,x11,x12,x13,x14]) (C2++[.lst []])=some ([.v (.int r)],C4):=by
    unfold aCons bnd;rw[e4];rfl
   unfold mRange1 bnd;rw[this]
   show opM (fun _=>rng1P [.v (.int r)]) C4=_
   unfold opM;dsimp only;rw[hr]
  unfold mFor bnd;rw[hm];exact e5
 have st5:mSet 13 (mTup aNil) (bas k m H os zs ws++[11e9,#[.int p],#[.int d],#[.int v],7e7,z11,z12,x13,x14]) C5=some (.nx (bas k m H os zs ws++[11e9,#[.int p],#[.int d],#[.int v],7e7,z11,z12,#[.tup []],x14]),C5):=by
  simp[mSet,mTup,aNil,bnd,opM,Pu.ret,Pu.plain]
 obtain ⟨u12,lv,C6,st6,hlv,a6⟩:=lvS_ok k m H os zs ws C2.length c #[.int p] #[.int d] #[.int v] z11 z12 x14 C5 es g5 hkn hn5 hH ho hol hz hw
 obtain ⟨wi,C7,e7,a7⟩:=wth_adv k m H os zs ws #[.int c] #[.int p] #[.int d] #[.int v] (some (.c C2.length)) z11 u12 #[lvP lv] x14 C6 a6.gs
 have st7:mSet 14 wth (bas k m H os zs ws++[11e9,#[.int p],#[.int d],#[.int v],7e7,z11,u12,#[lvP lv],x14]) C6=some (.nx (bas k m H os zs ws++[11e9,#[.int p],#[.int d],#[.int v],7e7,z11,u12,#[lvP lv],#[.int wi]]),C7):=by
  unfold mSet bnd;rw[e7];rfl
 have a67:=a6.trans a7
 have hn7:C7[C2.length]? = some (.lst (es.map tupK)):=by rw[a67.oth _ (Xi hkn)];exact hn5
 have hoth:∀j,j < C.length->j≠k->C7[j]? = C[j]?:=fun j hj hk=>by
  have hjn:j≠C2.length:=by rw[a12.len];lia
  rw[a67.oth j hk,ho5 j hk hjn,a4.oth j hk,Yd (by rw[a12.len];exact hj),a12.oth j hk]
 have hm7:C7[m]? = some (.lst (cs.map Cl.P)):=by rw[hoth m hml (Xi hkm)];exact hC
 have hlen7:C.length<=C7.length:=by rw[a67.len,hl5,a4.len,Y0,a12.len];lia
 have hll:(cs.map Cl.P).length < 100000:=by simp;lia
 refine ⟨#[.int d],#[.int v],7e7,z11,u12,#[lvP lv],#[.int wi],C7.set m (.lst ((cs++[(⟨d,v,p,wi,es,lv⟩:Cl)]).map Cl.P)),⟨d,v,p,wi,es,lv⟩,?_,⟨hp,hes,hel8,hlv⟩,?_,setAt hm7,by rw[Xm];exact hlen7,fun j hj hk hm=>?_⟩
 ·rw[show cbd=mSeq (mSet 8 (mFn F_l_pick (aCons 2e0 (aCons 3e7 aNil)))) (mSeq (mSet 9 crd) (mSeq (mNew 10 8e3) (mSeq (mFor (mRange1 (aCons rgE aNil)) (hName 11) ebd) (mSeq (mSet 13 (mTup aNil)) (mSeq lvS (mSeq (mSet 14 wth) (mDrop (mApp 7e3 (aCons clT aNil))))))))) from rfl]
  rw[Zan st1,Zan st2,Zan st3,Zan st4,Zan st5,Zan st6,Zan st7]
  rw[show (cs++[(⟨d,v,p,wi,es,lv⟩:Cl)]).map Cl.P=cs.map Cl.P++[.tup [.int d,.int v,.int p,.int wi,.tup (es.map tupK),lvP lv]] by rw[Xf];rfl]
  generalize cs.map Cl.P=CS at *
  generalize es.map tupK=ES at *
  generalize lvP lv=LV at *
  simp[mDrop,mApp,isLst,aCons,aNil,bnd,mVar,opM,Pu.ret,deref,hm7,mTup,mCB,g1,derefs,hn7,tupH,Pu.plain,appC,hll]
 ·obtain ⟨x,y,h,r⟩:=a67.gs
  exact ⟨x,y,by rw[Ym (Xi hkm)];exact h,r⟩
 ·rw[Ym (Xi hm)];exact hoth j hj hk
end
theorem enum_int {zs:List Int}{x:PV}(h:x∈enumL (zs.map .int)):∃(i:Nat) (z:Int),z∈zs/\x=.tup [.int (i:Nat),.int z]:=by
 unfold enumL at h
 obtain ⟨i,hi,rfl⟩:=Yy.mp h
 have hi:i < zs.length:=by simpa using hi
 exact ⟨i,zs[i],YV hi,by simp[hi]⟩
theorem adv_cut {k:Nat}{C D:Cs}(hl:C.length<=D.length)(g:GS D k)(hk:k < C.length)(h:∀j,j < C.length->j≠k->D[j]? = C[j]?):Adv k C (D.take C.length):=by
 refine ⟨by rw[Xh];lia,?_,fun j hj=>?_⟩
 ·obtain ⟨x,y,e,r⟩:=g
  exact ⟨x,y,by rw[Xd hk];exact e,r⟩
 ·rcases YJ j C.length with q | q
  ·rw[Xd q];exact h j q hj
  ·rw[Ye.mpr (by rw[Xh];lia),Ye.mpr q]
theorem clauses_adv (k:Nat)(H:Int)(os:List (List Int))(zs:List Int)(ws:6e2)(C:Cs)(g:GS C k)(hH:2<=H/\H<=8)(ho:∀z∈os,SzOk z)(hol:os.length<=100)(hz:SzOk zs)(hw:4<=ws.length):
  ∃(cs:List Cl) (C':Cs),F_l_clauses [.c k,.v (.int H),.v (szP zs),.v (.lst (os.map szP)),.v (.lst (ws.map .str))] C=some (.v (.tup (cs.map Cl.P)),C')/\cs.length=zs.length/\(∀c∈cs,ClOk c)/\Adv k C C':=by
 have hk:=g.lt
 have hkm:k≠C.length:=Yn hk
 have hle:=hz.le
 obtain ⟨ρ',D,e,hpi⟩:=ZbO (g:=hTup (hCons (hName 6) (hCons (hName 7) hNil)) 2) (f:=cbd) (fun i ρ D=>∃(x6 x7 x8 x9 x10 x11 x12 x13 x14:7e8) (cs:List Cl),ρ=bas k C.length H os zs ws++[x6,x7,x8,x9,x10,x11,x12,x13,x14]/\GS D k/\D[C.length]? = some (.lst (cs.map Cl.P))/\(∀c∈cs,ClOk c)/\cs.length=i/\C.length + 1<=D.length/\∀j,j < C.length->j≠k->D[j]? = C[j]?) 12
  (enumL (zs.map .int)) 0 (by rw[ZbG];simp;lia) (fun x hx i ρ D hi h=>by
   obtain ⟨j,z,hzm,rfl⟩:=enum_int hx
   obtain ⟨x6,x7,x8,x9,x10,x11,x12,x13,x14,cs,rfl,h1,h2,h3,h4,h5,h6⟩:=h
   obtain ⟨y8,y9,y10,y11,y12,y13,y14,D',c,t1,t2,t3,t4,t5,t6⟩:=cbd_ok k C.length H os zs ws (j:Int) z x8 x9 x10 x11 x12 x13 x14 D cs h1 hkm h2 h3 1e3 (hz.rg z hzm) hH ho hol hz hw
   refine ⟨_,_,D',rfl,t1,#[(.int (j:Int))],#[.int z],y8,y9,y10,y11,y12,y13,y14,cs++[c],rfl,t3,t4,fun d hd=>?_,by simp[h4],by lia,fun q q1 q2=>?_⟩
   ·rcases YB.mp hd with hd | hd
    ·exact h3 d hd
    ·rw[Yw.mp hd];exact t2
   ·rw[t6 q (by lia) q2 (by lia),h6 q q1 q2]) (bas k C.length H os zs ws++[none,none,none,none,none,none,none,none,none]) (C++[.lst []]) ⟨none,none,none,none,none,none,none,none,none,[],rfl,g.app _,by simp,(fun c h=>(nomatch h)),rfl,by simp,fun j h1 h2=>by rw[Yd h1]⟩
 obtain ⟨x6,x7,x8,x9,x10,x11,x12,x13,x14,cs,rfl,h1,h2,h3,h4,h5,h6⟩:=hpi
 refine ⟨cs,D.take C.length,?_,by rw[h4,ZbG];simp,h3,adv_cut 1e3 h1 hk h6⟩
 have st1:mNew 5 8e3 [3e2,#[.int H],#[szP zs],#[.lst (os.map szP)],4e3,none,none,none,none,none,none,none,none,none,none] C=some (.nx (bas k C.length H os zs ws++[none,none,none,none,none,none,none,none,none]),C++[.lst []]):=by
  simp[mNew,mLst,aNil,bnd,opM,Pu.ret,Pu.plain]
 have st2:mFor (mEnum 6e9) (hTup (hCons (hName 6) (hCons (hName 7) hNil)) 2) cbd (bas k C.length H os zs ws++[none,none,none,none,none,none,none,none,none]) (C++[.lst []])=some (.nx (bas k C.length H os zs ws++[x6,x7,x8,x9,x10,x11,x12,x13,x14]),D):=by
  have:mEnum 6e9 (bas k C.length H os zs ws++[none,none,none,none,none,none,none,none,none]) (C++[.lst []])=some (enumL (zs.map .int),C++[.lst []]):=by
   simp[mEnum,aCons,aNil,mVar,bnd,opM,Pu.ret,szP,enumP]
  unfold mFor bnd;rw[this];exact e
 unfold F_l_clauses
 rw[clauses_is]
 show (match mSeq _ _ [3e2,some (.v (.int H)),some (.v (szP zs)),some (.v (.lst (os.map szP))),some (.v (.lst (ws.map .str))),none,none,none,none,none,none,none,none,none,none] C with
  | some (.rt r,C')=>fin C.length C' r
  | some (.nx _,C')=>some 13e5
  | some (.rf ps,C')=>some (.v 8e1,C'.take C.length)
  | some (.rq qs,C')=>(finQ C.length C' qs).map fun ps=>(.v 9e0,C'.take C.length)
  | _=>none)=_
 rw[Zan st1,Zan st2]
 generalize cs.map Cl.P=CS at *
 simp[mRet,mCB,g1,aCons,aNil,mVar,bnd,opM,Pu.ret,derefs,deref,h2,tupH,fin]
structure Sh where
 H:Int
 zs:List Int
 q:Int
def Sh.P (s:Sh):PV:=.tup [.int s.H,szP s.zs,.int s.q]
structure ShOk (s:Sh):Prop where
 H:2<=s.H/\s.H<=8
 zs:SzOk s.zs
 q:0<=s.q/\s.q < 3
noncomputable def inRg (lo hi:Int)(p:PV):Bool:=match p with
 | .int i=>decide (lo<=i)&&decide (i<=hi)
 | _=>false
theorem ix_rg (L:List PV)(lo hi:Int)(h:L.all (inRg lo hi)=true)(d:Int)(h1:0<=d)(h2:d < L.length):∃v,ixQ (.lst L) (.int d)=some (.int v)/\lo<=v/\v<=hi:=by
 obtain ⟨p,ep,hp⟩:=ix_all (okk:=inRg lo hi) L h d h1 h2
 cases p with
 | int i=>simp only[inRg,Yt,decide_eq_true_eq] at hp;exact ⟨i,ep,hp⟩
 | _=>cases hp
theorem gs_new (C:Cs)(x y:Int)(h:0<=y/\y < 2147483647):GS (C++10e8) C.length:=⟨x,y,by simp,h⟩
abbrev szE:PSt->M SV:=mOp 2e7 (mVal (mLst (aCons 1e9 (aCons 1e9 (aCons 2e5 (aCons 1e9 (aCons 4e4 (aCons 1e9 (aCons 2e5 10e5))))))))) 8e2
theorem szE_adv (k:Nat)(x:7e8)(C:Cs)(g:GS C k):∃p C',szE [x,3e2] C=some (.v p,C')/\(∃z,p=.int z/\1<=z/\z<=9)/\Adv k C C':=by
 obtain ⟨y,C',e,y1,y2,a⟩:=Zal k 8 C g 1e4
 obtain ⟨v,hv,h0,h8⟩:=ix_rg [.int 1,.int 1,.int 2,.int 1,.int 3,.int 1,.int 2,.int 9] 1 9 1e0 y y1 (by simpa using y2)
 refine ⟨.int v,C',?_,⟨v,rfl,h0,h8⟩,a⟩
 simp[szE,mOp,mVal,mLst,mFn,aCons,aNil,mVar,mC,bnd,opM,Pu.ret,g2,deref,Pu.plain,e,hv]
theorem ints_of:∀(L:List PV),(∀p∈L,∃z,p=.int z/\1<=z/\z<=9)->∃zs:List Int,L=zs.map .int/\∀z∈zs,1<=z/\z<=9
 | [],_=>⟨[],rfl,(fun _ h=>(nomatch h))⟩
 | p::L,h=>by
  obtain ⟨z,rfl,hz⟩:=h p 5e2
  obtain ⟨zs,rfl,hzs⟩:=ints_of L fun q hq=>h q (by simp[hq])
  exact ⟨z::zs,rfl,fun y hy=>by
   rcases Ys.mp hy with rfl | hy
   ·exact hz
   ·exact hzs y hy⟩
abbrev abd:PSt->M PF:=mSeq (mNew 1 (mFnF FF_l_left (aCons 2e0 (aCons (mOp 5e3 2e5 7e3) aNil)))) (mSeq (mSet 6 (mOp 2e7 (mVal (mLst (aCons 2e5 (aCons 4e4 (aCons 2e5 (aCons 4e4 (aCons 12e7 (aCons 2e5 (aCons 12e6 5e1))))))))) 8e2)) (mSeq (mSet 7 (mOp 2e7 (mVal (mLst (aCons 1e9 (aCons 2e5 (aCons 1e9 (aCons 4e4 (aCons 2e5 (aCons 12e7 (aCons (mC (.int 7)) (aCons (mC (.int 12)) aNil)))))))))) 8e2)) (mSeq (mSet 8 (mVal (mComp (mRange1 (aCons (mVar 7) aNil)) ["_law_c"] [1] 6e6 tOk szE))) (mDrop (mApp (mVar 4) (aCons (mTup (aCons 8e8 (aCons (mVar 8) (aCons (mFn F_l_pick (aCons 3e7 (aCons 4e4 aNil))) aNil)))) aNil))))))
theorem abd_ok (ns:List Int)(W:7e8)(M:7e8)(a:Nat)(i:Int)(x1 x6 x7 x8 x9 x10 x11 x12 x13:7e8)(sh:List Sh)(D:Cs)(hi:0<=i/\i<=100)(hD:D[a]? = some (.lst (sh.map Sh.P)))(hsh:∀s∈sh,ShOk s)(hl:sh.length<=1000):
  ∃(y1 y6 y7 y8:7e8) (D':Cs) (s:Sh),abd [1e8,x1,W,M,5e7,#[.int i],x6,x7,x8,x9,x10,x11,x12,x13] D=some (.nx [1e8,y1,W,M,5e7,#[.int i],y6,y7,y8,x9,x10,x11,x12,x13],D')/\ShOk s/\D'[a]? = some (.lst ((sh++[s]).map Sh.P))/\D.length<=D'.length/\∀j,j < D.length->j≠a->D'[j]? = D[j]?:=by
 have hal:a < D.length:=by
  rcases YJ a D.length with q | q
  ·exact q
  ·rw[Ye.mpr q] at hD;cases hD
 obtain ⟨x,y,el,hy⟩:=ZcX ns (2 + i) D 1e3 1e3
 have st1:mNew 1 (mFnF FF_l_left (aCons 2e0 (aCons (mOp 5e3 2e5 7e3) aNil))) [1e8,x1,W,M,5e7,#[.int i],x6,x7,x8,x9,x10,x11,x12,x13] D=some (.nx [1e8,6e0,W,M,5e7,#[.int i],x6,x7,x8,x9,x10,x11,x12,x13],D++10e8):=by
  simp[mNew,mFnF,aCons,aNil,mVar,mC,mOp,bnd,opM,Pu.ret,g2,deref,addP,el]
 have g0:=gs_new D x y hy
 obtain ⟨p1,C1,e1,p1a,p1b,a1⟩:=Zal D.length 8 _ g0 1e4
 obtain ⟨H,hH,H1,H2⟩:=ix_rg [.int 2,.int 3,.int 2,.int 3,.int 4,.int 2,.int 5,.int 8] 2 8 1e0 p1 p1a (by simpa using p1b)
 obtain ⟨p2,C2,e2,p2a,p2b,a2⟩:=Zal D.length 8 _ a1.gs 1e4
 obtain ⟨n,hn,n1,n2⟩:=ix_rg [.int 1,.int 2,.int 1,.int 3,.int 2,.int 4,.int 7,.int 12] 1 12 1e0 p2 p2a (by simpa using p2b)
 have st2:mSet 6 (mOp 2e7 (mVal (mLst (aCons 2e5 (aCons 4e4 (aCons 2e5 (aCons 4e4 (aCons 12e7 (aCons 2e5 (aCons 12e6 5e1))))))))) 8e2) [1e8,6e0,W,M,5e7,#[.int i],x6,x7,x8,x9,x10,x11,x12,x13] (D++10e8)=some (.nx [1e8,6e0,W,M,5e7,#[.int i],#[.int H],x7,x8,x9,x10,x11,x12,x13],C1):=by
  simp[mSet,mOp,mVal,mLst,mFn,aCons,aNil,mVar,mC,bnd,opM,Pu.ret,g2,deref,Pu.plain,e1,hH]
 have st3:mSet 7 (mOp 2e7 (mVal (mLst (aCons 1e9 (aCons 2e5 (aCons 1e9 (aCons 4e4 (aCons 2e5 (aCons 12e7 (aCons (mC (.int 7)) (aCons (mC (.int 12)) aNil)))))))))) 8e2) [1e8,6e0,W,M,5e7,#[.int i],#[.int H],x7,x8,x9,x10,x11,x12,x13] C1=some (.nx [1e8,6e0,W,M,5e7,#[.int i],#[.int H],#[.int n],x8,x9,x10,x11,x12,x13],C2):=by
  simp[mSet,mOp,mVal,mLst,mFn,aCons,aNil,mVar,mC,bnd,opM,Pu.ret,g2,deref,Pu.plain,e2,hn]
 obtain ⟨L,C3,e3,hL,hLp,a3⟩:=comp_adv (te:=szE) (k:=D.length) (Pp:=fun p=>∃z,p=.int z/\1<=z/\z<=9) ((Yk n.toNat).map fun (q:Nat)=>PV.int (0 + q)) [none,6e0] [] C2 a2.gs (fun x C g=>szE_adv D.length #[x] C g)
 obtain ⟨zs,rfl,hzs⟩:=ints_of L hLp
 rw[Xg] at e3
 have hzl:zs.length=n.toNat:=by simpa using hL
 have st4:mSet 8 (mVal (mComp (mRange1 (aCons (mVar 7) aNil)) ["_law_c"] [1] 6e6 tOk szE)) [1e8,6e0,W,M,5e7,#[.int i],#[.int H],#[.int n],x8,x9,x10,x11,x12,x13] C2=some (.nx [1e8,6e0,W,M,5e7,#[.int i],#[.int H],#[.int n],#[szP zs],x9,x10,x11,x12,x13],C3):=by
  have hr:rng1P [.v (.int n)]=some ((Yk n.toNat).map fun (q:Nat)=>PV.int (0 + q)):=by
   unfold rng1P;dsimp only;rw[if_pos 1e3]
  have hrl:((Yk n.toNat).map fun (q:Nat)=>PV.int (0 + q)).length<=100000:=by simp;lia
  generalize ((Yk n.toNat).map fun (q:Nat)=>PV.int (0 + q))=rs at e3 hr hrl
  unfold szP
  generalize zs.map PV.int=ZS at *
  generalize szE=te at e3
  simp[mSet,mVal,mComp,mRange1,aCons,aNil,mVar,bnd,opM,Pu.ret,hr,hrl,stIn',e3]
 obtain ⟨q,C4,e4,q1,q2,a4⟩:=Zal D.length 3 _ a3.gs 1e4
 have aa:=((a1.trans a2).trans a3).trans a4
 have hoth:∀j,j < D.length->C4[j]? = D[j]?:=fun j hj=>by
  rw[aa.oth j (Yn hj),Yd hj]
 have ha4:C4[a]? = some (.lst (sh.map Sh.P)):=by rw[hoth a hal];exact hD
 have ha3:C3[a]? = some (.lst (sh.map Sh.P)):=by rw[←a4.oth a (Yn hal)];exact ha4
 have hll:(sh.map Sh.P).length < 100000:=by simp;lia
 refine ⟨6e0,#[.int H],#[.int n],#[szP zs],C4.set a (.lst ((sh++[(⟨H,zs,q⟩:Sh)]).map Sh.P)),⟨H,zs,q⟩,?_,⟨⟨H1,H2⟩,⟨by show 0 < zs.length;lia,by show zs.length<=12;lia,hzs⟩,q1,q2⟩,setAt ha4,by rw[Xm,aa.len];simp,fun j hj ha=>by rw[Ym (Xi ha)];exact hoth j hj⟩
 rw[show abd=mSeq _ (mSeq _ (mSeq _ (mSeq _ _))) from rfl,Zan st1,Zan st2,Zan st3,Zan st4]
 rw[show (sh++[(⟨H,zs,q⟩:Sh)]).map Sh.P=sh.map Sh.P++[.tup [.int H,szP zs,.int q]] by rw[Xf];rfl]
 generalize sh.map Sh.P=SH at *
 generalize szP zs=ZS at *
 simp[mDrop,mApp,isLst,aCons,aNil,bnd,mVar,mC,opM,Pu.ret,deref,ha3,mTup,mFn,e4,Pu.plain,appC,ha4,hll]
theorem Zce {te:4e2}{tt:7e1}(b:PV->Bool):∀(xs:List PV) (ρ:PSt) (ys:List PV) (C:Cs),(∀x∈xs,tt (ρ.set 0 #[x]) C=some (b x,C))->(∀x∈xs,te (ρ.set 0 #[x]) C=some (.v x,C))->compL 6e6 tt te xs ρ ys C=some (ys++xs.filter b,C)
 | [],ρ,ys,C,_,_=>by simp[compL,Pu.ret]
 | x::xs,ρ,ys,C,ht,he=>by
  have h1:=ht x 5e2
  have h2:=he x 5e2
  have ih:=fun zs=>Zce (te:=te) (tt:=tt) b xs (ρ.set 0 #[x]) zs C (fun y hy=>by rw[Xr];exact ht y (by simp[hy])) (fun y hy=>by rw[Xr];exact he y (by simp[hy]))
  cases hb:b x with
  | true=>rw[hb] at h1;simp[compL,hName,bnd,h1,h2,ih,hb]
  | false=>rw[hb] at h1;simp[compL,hName,bnd,h1,ih,hb]
structure Dl where
 hs:List Str
 ow:List Str
 cl:Int
 cs:List Cl
def Dl.P (d:Dl):PV:=.tup [.tup (d.hs.map .str),.tup (d.ow.map .str),.int d.cl,.tup (d.cs.map Cl.P)]
structure DlOk (d:Dl):Prop where
 h2:2<=d.hs.length/\d.hs.length<=8
 nd:d.hs.Nodup
 le:∀h∈d.hs,h.length<=10
 c1:1<=d.cs.length/\d.cs.length<=12
 cs:∀c∈d.cs,ClOk c
abbrev hoE:PSt->M SV:=mOp 2e7 3e7 (mOp (g2 modP) (mOp 5e3 5e5 2e0) (mC (.int 8)))
theorem houses_comp (ws:6e2)(hw:ws.length=16)(nd:ws.Nodup)(st:Int)(h0:0<=st/\st < 8)(n:Nat)(hn:n<=8)(C:Cs):
  ∃hs:List Str,compL 6e6 tOk hoE ((Yk n).map fun (q:Nat)=>PV.int (0 + q)) [none,4e3,#[.int st]] [] C=some (hs.map .str,C)/\hs.length=n/\hs.Nodup/\∀h∈hs,h∈ws:=by
 have key:∀j:Nat,((st + (0 + (j:Int))) % 8).toNat < ws.length:=fun j=>by
  have h1:0<=(st + (0 + (j:Int))) % 8:=Y6 _ 1e4
  have h2:(st + (0 + (j:Int))) % 8 < 8:=YW _ 1e4
  lia
 have e:=ZbQ (te:=hoE) (f:=fun p=>match p with | .int i=>.str (ws.getD ((st + i) % 8).toNat "") | _=>.non) ((Yk n).map fun (q:Nat)=>PV.int (0 + q)) [none,#[.lst (ws.map .str)],#[.int st]] [] C (fun x hx=>by
  obtain ⟨j,hj,rfl⟩:=Yy.mp hx
  have hk:=key j
  have h1:0<=(st + (0 + (j:Int))) % 8:=Y6 _ 1e4
  have h2:(st + (0 + (j:Int))) % 8 < 8:=YW _ 1e4
  have hix:ixQ (.lst (ws.map .str)) (.int ((st + (0 + (j:Int))) % 8))=some (.str (ws.getD ((st + (0 + (j:Int))) % 8).toNat "")):=by
   have h3:(st + (0 + (j:Int))) % 8 < (ws.length:Int):=by lia
   generalize (st + (0 + (j:Int))) % 8=d at *
   simp[ixQ,ixP,atI,ixN,h1,h3,Yc hk]
  generalize (0 + (j:Int))=J at *
  generalize ws.map PV.str=WS at *
  simp[hoE,mOp,mVar,mC,bnd,opM,g2,deref,addP,modP,intP,hix])
 rw[Xg,Y2] at e
 refine ⟨(Yk n).map fun (j:Nat)=>ws.getD ((st + (0 + (j:Int))) % 8).toNat "",?_,by simp,?_,fun h hh=>?_⟩
 ·rw[e,Y2];rfl
 ·rw[YN,Wu]
  refine List.Pairwise.imp_of_mem (fun {x y} hx hy hne e=>?_) (YN.mp List.nodup_range)
  have hx:=Xy.mp hx
  have hy:=Xy.mp hy
  have kx:=key x
  have ky:=key y
  rw[Xv,Xv,Yc kx,Yc ky] at e
  have:=(XD (h₀:=kx) (h₁:=ky) nd).mp (by simpa using e)
  lia
 ·obtain ⟨j,_,rfl⟩:=Yy.mp hh
  have:=key j
  rw[Xv,Yc this]
  exact YV this
abbrev otT:PSt->M Bool:=mTest (mOp (g2 neP) 2e0 3e7)
theorem others_comp (i:Int)(M:Nat)(C:Cs):∃L:List Nat,compL 6e6 otT 2e0 ((Yk M).map fun (q:Nat)=>PV.int (0 + q)) [none,#[.int i]] [] C=some (L.map fun (q:Nat)=>PV.int 9e4,C)/\L.length<=M/\∀q∈L,q < M:=by
 have e:=Zce (te:=mVar 0) (tt:=otT) (fun p=>match p with | .int j=>!(j==i) | _=>false) ((Yk M).map fun (q:Nat)=>PV.int (0 + q)) [none,#[.int i]] [] C (fun x hx=>by
  obtain ⟨j,_,rfl⟩:=Yy.mp hx
  generalize (0 + (j:Int))=J
  simp[otT,mTest,mOp,mVar,bnd,opM,g2,deref,neP,scP,mB,asB]
  rfl) (fun x hx=>by simp[mVar])
 refine ⟨(Yk M).filter fun (q:Nat)=>!(9e4==i),?_,?_,fun q hq=>Xy.mp (XG.mp hq).1⟩
 ·rw[e,Xg,WU]
  rfl
 ·have:=XR (fun (q:Nat)=>!(9e4==i)) (Yk M)
  simpa using this
theorem comp_ex {te:4e2}{Pp:PV->Prop}:∀(xs:List PV) (ρ:PSt) (ys:List PV) (C:Cs),(∀x∈xs,∃p,te (ρ.set 0 #[x]) C=some (.v p,C)/\Pp p)->
  ∃zs,compL 6e6 tOk te xs ρ ys C=some (ys++zs,C)/\zs.length=xs.length/\∀p∈zs,Pp p
 | [],ρ,ys,C,h=>⟨[],by simp[compL,Pu.ret],rfl,(fun _ h=>(nomatch h))⟩
 | x::xs,ρ,ys,C,h=>by
  obtain ⟨p,e1,hp⟩:=h x 5e2
  obtain ⟨zs,e2,hl,hz⟩:=comp_ex (te:=te) (Pp:=Pp) xs (ρ.set 0 #[x]) (ys++[p]) C fun y hy=>by rw[Xr];exact h y (by simp[hy])
  refine ⟨p::zs,?_,by simp[hl],fun q hq=>?_⟩
  ·simp[compL,hName,bnd,tOk,Pu.ret,e1,e2]
  ·rcases Ys.mp hq with rfl | hq
   ·exact hp
   ·exact hz q hq
theorem szs_of:∀(L:List PV),(∀p∈L,∃z,p=szP z/\SzOk z)->∃os:List (List Int),L=os.map szP/\∀z∈os,SzOk z
 | [],_=>⟨[],rfl,(fun _ h=>(nomatch h))⟩
 | p::L,h=>by
  obtain ⟨z,rfl,hz⟩:=h p 5e2
  obtain ⟨os,rfl,ho⟩:=szs_of L fun q hq=>h q (by simp[hq])
  exact ⟨z::os,rfl,fun y hy=>by
   rcases Ys.mp hy with rfl | hy
   ·exact hz
   ·exact ho y hy⟩
theorem strs_of:∀(L:List PV),(∀p∈L,∃w:Str,p=.str w)->∃ws:List Str,L=ws.map .str
 | [],_=>⟨[],rfl⟩
 | p::L,h=>by
  obtain ⟨w,rfl⟩:=h p 5e2
  obtain ⟨ws,rfl⟩:=strs_of L fun q hq=>h q (by simp[hq])
  exact ⟨w::ws,rfl⟩
noncomputable abbrev fI (q:Nat):PV:=PV.int 9e4
abbrev oE:PSt->M SV:=mOp 2e7 (mOp 2e7 3e7 2e0) 1e9
abbrev oW:PSt->M SV:=mOp 2e7 3e7 (mOp 5e3 12e6 2e0)
theorem oE_comp (a:Nat)(sh:List Sh)(hsh:∀s∈sh,ShOk s)(L:12e4)(hL:∀q∈L,q < sh.length)(C:Cs)(hC:C[a]? = some (.lst (sh.map Sh.P))):
  ∃os:List (List Int),compL 6e6 tOk oE (L.map fI) [none,5e7] [] C=some (os.map szP,C)/\os.length=L.length/\∀z∈os,SzOk z:=by
 obtain ⟨zs,e,hl,hz⟩:=comp_ex (te:=oE) (Pp:=fun p=>∃z,p=szP z/\SzOk z) (L.map fI) [none,5e7] [] C (fun x hx=>by
  obtain ⟨q,hq,rfl⟩:=Yy.mp hx
  have hq:=hL q hq
  refine ⟨szP (sh[q]).zs,?_,_,rfl,(hsh _ (YV hq)).zs⟩
  have h1:ixQ (.lst (sh.map Sh.P)) (.int 9e4)=some (sh[q]).P:=by
   have h2:9e4 < (sh.length:Int):=by lia
   have h3:0<=9e4:=by lia
   have h4:(0 + (q:Int)).toNat=q:=by lia
   generalize 9e4=Q at *
   simp[ixQ,ixP,atI,ixN,h2,h3,h4,hq]
  have h5:ixQ (sh[q]).P (.int 1)=some (szP (sh[q]).zs):=by simp[Sh.P,ixQ,ixP,atI,ixN]
  unfold fI
  generalize 9e4=Q at *
  generalize (sh[q]).P=SP at *
  generalize sh.map Sh.P=SH at *
  simp[oE,mOp,mVar,mC,bnd,opM,g2,deref,hC,h1,h5])
 obtain ⟨os,rfl,ho⟩:=szs_of zs hz
 exact ⟨os,by simpa using e,by simpa using hl,ho⟩
theorem oW_comp (ws:6e2)(hw:ws.length=16)(L:12e4)(hL:∀q∈L,q < 8)(C:Cs):
  ∃ow:List Str,compL 6e6 tOk oW (L.map fI) [none,4e3] [] C=some (ow.map .str,C):=by
 obtain ⟨zs,e,hl,hz⟩:=comp_ex (te:=oW) (Pp:=fun p=>∃w:Str,p=.str w) (L.map fI) [none,4e3] [] C (fun x hx=>by
  obtain ⟨q,hq,rfl⟩:=Yy.mp hx
  have hq:=hL q hq
  obtain ⟨w,_,h1⟩:=ix_strs ws (5 + 9e4) 1e3 1e3
  refine ⟨.str w,?_,w,rfl⟩
  unfold fI
  generalize 9e4=Q at *
  generalize ws.map PV.str=WS at *
  simp[oW,mOp,mVar,mC,bnd,opM,g2,deref,addP,h1])
 obtain ⟨ow,rfl⟩:=strs_of zs hz
 exact ⟨ow,by simpa using e⟩
abbrev clE:PSt->M SV:=mOp 5e3 (mOp 2e7 (mVal (mLst (aCons (mC (.int 12)) (aCons (mC (.int 30)) (aCons (mC (.int 60)) (aCons (mC (.int 1000)) aNil)))))) (mFn F_l_pick (aCons 3e7 (aCons 12e7 aNil)))) (mFn F_l_pick (aCons 3e7 (aCons 12e6 aNil)))
abbrev bbd:PSt->M PF:=mSeq (mNew 1 (mFnF FF_l_left (aCons 2e0 (aCons (mOp 5e3 (mC (.int 9)) 7e3) aNil)))) (mSeq (mSet 11 8e2) (mSeq (mSet 6 (mCB (g1 tupH) (aCons (mVal (mComp (mRange1 (aCons (mOp 2e7 (mVar 10) 2e6) aNil)) ["_law_j"] [2,11] 6e6 tOk hoE)) aNil))) (mSeq (mSet 12 (mSlice (mVal (mComp (mRange1 8e6) ["_law_j"] [5] 6e6 otT 2e0)) oNo (oPart (mOp 2e7 (mVar 10) 2e5)))) (mSeq (mSet 13 clE) (mSeq (mSet 7 (mFn F_l_clauses (aCons 3e7 (aCons (mOp 2e7 (mVar 10) 2e6) (aCons (mOp 2e7 (mVar 10) 1e9) (aCons (mVal (mComp (mItems (mVar 12)) ["_law_j"] [4] 6e6 tOk oE)) 6e9)))))) (mSetIxK (mTup (aCons 8e8 (aCons (mCB (g1 tupH) (aCons (mVal (mComp (mItems (mVar 12)) ["_law_j"] [2] 6e6 tOk oW)) aNil)) (aCons (mVar 13) (aCons (mVar 7) aNil))))) (mVar 9) (mOp 2e7 5e5 (mOp 5e3 12e6 7e3))))))))
theorem Zcd (ns:6e2):(ns.map (WH:Str->Key)).map kP=ns.map .str:=by rw[Y2];rfl
theorem put_new (ns:6e2)(ps:List PV)(w:Str)(p:PV)(h:w∉ns):putKs (ns.map (WH:Str->Key)) (.inr w)=(ns++[w]).map WH/\putVs (ns.map (WH:Str->Key)) ps (.inr w) p=ps++[p]:=by
 have hi:inK (WH w:Key) (ns.map (WH:Str->Key))=false:=by
  cases e:inK (WH w:Key) (ns.map (WH:Str->Key)) with
  | false=>rfl
  | true=>
   obtain ⟨v,hv,e⟩:=Yy.mp (inK_iff.mp e)
   cases e;exact absurd hv h
 unfold putKs putVs
 rw[hi]
 simp
theorem bbd_ok (ns:List Int)(ws:6e2)(hw:ws.length=16)(nd:ws.Nodup)(hwl:∀w∈ws,w.length<=10)(a b:Nat)(hab:a≠b)(i:Nat)(hi:i < 7)(sh:List Sh)(hsh:∀s∈sh,ShOk s)(hs7:sh.length<=7)(s:Sh)(hs:ShOk s)(x1 x6 x7 x8 x11 x12 x13:7e8)(nms:6e2)(ds:List Dl)(D:Cs)(hDa:D[a]? = some (.lst (sh.map Sh.P)))(hDb:D[b]? = some (.dct (nms.map .str) (ds.map Dl.P)))(hn:nms.length < 100)(hnew:∀w,ws[5 + i]? = some w->w∉nms):
  ∃(y1 y6 y7 y11 y12 y13:7e8) (D':Cs) (d:Dl) (w:Str),bbd [1e8,x1,4e3,#[4e8],5e7,#[10e7],x6,x7,x8,some (.c b),#[s.P],x11,x12,x13] D=some (.nx [1e8,y1,4e3,#[4e8],5e7,#[10e7],y6,y7,x8,some (.c b),#[s.P],y11,y12,y13],D')/\DlOk d/\ws[5 + i]? = some w/\D'[b]? = some (.dct ((nms++[w]).map .str) ((ds++[d]).map Dl.P))/\(∃q,y1=some (.c q)/\GS D' q/\D.length<=q)/\D.length<=D'.length/\∀j,j < D.length->j≠b->D'[j]? = D[j]?:=by
 have lt_of:∀{q:Nat} {c:PV},D[q]? = some c->q < D.length:=fun {q c} h=>by
  rcases YJ q D.length with z | z
  ·exact z
  ·rw[Ye.mpr z] at h;cases h
 have hal:=lt_of hDa
 have hbl:=lt_of hDb
 obtain ⟨x,y,el,hy⟩:=ZcX ns (9 + (i:Int)) D 1e3 1e3
 have st1:mNew 1 (mFnF FF_l_left (aCons 2e0 (aCons (mOp 5e3 (mC (.int 9)) 7e3) aNil))) [1e8,x1,4e3,#[4e8],5e7,#[10e7],x6,x7,x8,some (.c b),#[s.P],x11,x12,x13] D=some (.nx [1e8,6e0,4e3,#[4e8],5e7,#[10e7],x6,x7,x8,some (.c b),#[s.P],x11,x12,x13],D++10e8):=by
  simp[mNew,mFnF,aCons,aNil,mVar,mC,mOp,bnd,opM,Pu.ret,g2,deref,addP,el]
 have g0:=gs_new D x y hy
 obtain ⟨st,C1,e1,s1,s2,a1⟩:=Zal D.length 8 _ g0 1e4
 have st2:mSet 11 8e2 [1e8,6e0,4e3,#[4e8],5e7,#[10e7],x6,x7,x8,some (.c b),#[s.P],x11,x12,x13] (D++10e8)=some (.nx [1e8,6e0,4e3,#[4e8],5e7,#[10e7],x6,x7,x8,some (.c b),#[s.P],#[.int st],x12,x13],C1):=by
  simp[mSet,mFn,aCons,aNil,mVar,mC,bnd,Pu.ret,e1]
 obtain ⟨hs',eh,hhl,hhn,hhw⟩:=houses_comp ws hw nd st ⟨s1,s2⟩ s.H.toNat (by have:=hs.H;lia) C1
 have q0:ixQ s.P (.int 0)=some (.int s.H):=by simp[Sh.P,ixQ,ixP,atI,ixN]
 have q1:ixQ s.P (.int 1)=some (szP s.zs):=by simp[Sh.P,ixQ,ixP,atI,ixN]
 have q2:ixQ s.P (.int 2)=some (.int s.q):=by simp[Sh.P,ixQ,ixP,atI,ixN]
 have rngH:rng1P [.v (.int s.H)]=some ((Yk s.H.toNat).map fun (q:Nat)=>PV.int (0 + q)):=by
  have:=hs.H
  unfold rng1P;dsimp only;rw[if_pos 1e3]
 have rngM:rng1P [.v 4e8]=some ((Yk sh.length).map fun (q:Nat)=>PV.int (0 + q)):=by
  unfold rng1P;dsimp only;rw[if_pos 1e3,XY]
 have lenH:((Yk s.H.toNat).map fun (q:Nat)=>PV.int (0 + q)).length<=100000:=by have:=hs.H;simp;lia
 have lenM:((Yk sh.length).map fun (q:Nat)=>PV.int (0 + q)).length<=100000:=by simp;lia
 have st3:mSet 6 (mCB (g1 tupH) (aCons (mVal (mComp (mRange1 (aCons (mOp 2e7 (mVar 10) 2e6) aNil)) ["_law_j"] [2,11] 6e6 tOk hoE)) aNil)) [1e8,6e0,4e3,#[4e8],5e7,#[10e7],x6,x7,x8,some (.c b),#[s.P],#[.int st],x12,x13] C1=some (.nx [1e8,6e0,4e3,#[4e8],5e7,#[10e7],#[.tup (hs'.map .str)],x7,x8,some (.c b),#[s.P],#[.int st],x12,x13],C1):=by
  generalize ((Yk s.H.toNat).map fun (q:Nat)=>PV.int (0 + q))=rs at eh rngH lenH
  generalize hs'.map PV.str=HS at *
  generalize ws.map PV.str=WS at *
  generalize s.P=SP at *
  generalize hoE=te at eh
  simp[mSet,mCB,g1,mVal,mComp,mRange1,aCons,aNil,mVar,mC,mOp,bnd,opM,Pu.ret,g2,deref,derefs,q0,rngH,lenH,stIn',eh,tupH]
 obtain ⟨L,eo,hLl,hLm⟩:=others_comp (i:Int) sh.length C1
 have hcut:cutP (L.map fI) none (some s.q)=(L.take s.q.toNat).map fI:=by
  have h2:HT.sIx (L.map fI).length (L.map fI).length (some s.q)=min s.q.toNat (L.map fI).length:=by
   have:=hs.q
   unfold HT.sIx;dsimp only;rw[if_neg 1e3]
  unfold cutP
  rw[h2,show HT.sIx (L.map fI).length 0 none=0 from rfl]
  simp[List.map_take]
 have st4:mSet 12 (mSlice (mVal (mComp (mRange1 8e6) ["_law_j"] [5] 6e6 otT 2e0)) oNo (oPart (mOp 2e7 (mVar 10) 2e5))) [1e8,6e0,4e3,#[4e8],5e7,#[10e7],#[.tup (hs'.map .str)],x7,x8,some (.c b),#[s.P],#[.int st],x12,x13] C1=some (.nx [1e8,6e0,4e3,#[4e8],5e7,#[10e7],#[.tup (hs'.map .str)],x7,x8,some (.c b),#[s.P],#[.int st],#[.lst ((L.take s.q.toNat).map fI)],x13],C1):=by
  have eo':compL 6e6 otT 2e0 ((Yk sh.length).map fun (q:Nat)=>PV.int (0 + q)) [none,#[(.int (i:Int))]] [] C1=some (L.map fI,C1):=eo
  have hsl:sliceD C1 (.v (.lst (L.map fI))) none (some s.q)=#[.lst ((L.take s.q.toNat).map fI)]:=by simp only[sliceD,deref,sliceP,hcut];rfl
  generalize ((Yk sh.length).map fun (q:Nat)=>PV.int (0 + q))=rs at eo' rngM lenM
  generalize L.map fI=LF at *
  generalize (L.take s.q.toNat).map fI=LT at *
  generalize s.P=SP at *
  generalize otT=tt at eo'
  simp[mSet,mSlice,oNo,oPart,Pu.intD,mVal,mComp,mRange1,aCons,aNil,mVar,mC,mOp,bnd,opM,Pu.ret,g2,deref,rngM,lenM,stIn',eo',q2,hsl]
 obtain ⟨c1,C2,e2,c1a,c1b,a2⟩:=Zal D.length 4 C1 a1.gs 1e4
 obtain ⟨v,hv,_,_⟩:=ix_rg [.int 12,.int 30,.int 60,.int 1000] 12 1000 1e0 c1 c1a (by simpa using c1b)
 obtain ⟨c2,C3,e3,_,_,a3⟩:=Zal D.length 5 C2 a2.gs 1e4
 obtain ⟨cl,hcl⟩:∃cl,cl=v + c2:=8e4
 have st5:mSet 13 clE [1e8,6e0,4e3,#[4e8],5e7,#[10e7],#[.tup (hs'.map .str)],x7,x8,some (.c b),#[s.P],#[.int st],#[.lst ((L.take s.q.toNat).map fI)],x13] C1=some (.nx [1e8,6e0,4e3,#[4e8],5e7,#[10e7],#[.tup (hs'.map .str)],x7,x8,some (.c b),#[s.P],#[.int st],#[.lst ((L.take s.q.toNat).map fI)],#[.int cl]],C3):=by
  simp[mSet,clE,mOp,mVal,mLst,mFn,aCons,aNil,mVar,mC,bnd,opM,Pu.ret,g2,deref,Pu.plain,e2,hv,e3,addP,hcl]
 have a123:=(a1.trans a2).trans a3
 have hoth3:∀j,j < D.length->C3[j]? = D[j]?:=fun j hj=>by
  rw[a123.oth j (Yn hj),Yd hj]
 obtain ⟨os,eos,hol,hos⟩:=oE_comp a sh hsh (L.take s.q.toNat) (fun q hq=>hLm q (Ww hq)) C3 (by rw[hoth3 a hal];exact hDa)
 have hos100:os.length<=100:=by rw[hol,Xh];lia
 obtain ⟨cs,C4,ecs,hcl4,hcs,a4⟩:=clauses_adv D.length s.H os s.zs ws C3 a123.gs hs.H hos hos100 hs.zs 1e3
 have lenT:((L.take s.q.toNat).map fI).length<=100000:=by simp;lia
 have st6:mSet 7 (mFn F_l_clauses (aCons 3e7 (aCons (mOp 2e7 (mVar 10) 2e6) (aCons (mOp 2e7 (mVar 10) 1e9) (aCons (mVal (mComp (mItems (mVar 12)) ["_law_j"] [4] 6e6 tOk oE)) 6e9))))) [1e8,6e0,4e3,#[4e8],5e7,#[10e7],#[.tup (hs'.map .str)],x7,x8,some (.c b),#[s.P],#[.int st],#[.lst ((L.take s.q.toNat).map fI)],#[.int cl]] C3=some (.nx [1e8,6e0,4e3,#[4e8],5e7,#[10e7],#[.tup (hs'.map .str)],#[.tup (cs.map Cl.P)],x8,some (.c b),#[s.P],#[.int st],#[.lst ((L.take s.q.toNat).map fI)],#[.int cl]],C4):=by
  generalize (L.take s.q.toNat).map fI=LT at *
  generalize s.P=SP at *
  generalize ws.map PV.str=WS at *
  generalize os.map szP=OS at *
  generalize szP s.zs=ZS at *
  generalize cs.map Cl.P=CS at *
  generalize oE=te at eos
  simp[mSet,mFn,aCons,aNil,mVar,mC,mOp,bnd,opM,Pu.ret,g2,deref,q0,q1,mVal,mComp,mItems,itemsP,lenT,stIn',eos,ecs]
 have aa:=a123.trans a4
 have hoth:∀j,j < D.length->C4[j]? = D[j]?:=fun j hj=>by
  rw[aa.oth j (Yn hj),Yd hj]
 obtain ⟨ow,eow⟩:=oW_comp ws hw (L.take s.q.toNat) (fun q hq=>by have:=hLm q (Ww hq);lia) C4
 have h5:5 + i < ws.length:=by lia
 have hwk:ws[5 + i]? = some ws[5 + i]:=Yc h5
 have hkey:ixQ (.lst (ws.map .str)) (.int (5 + (i:Int)))=some (.str ws[5 + i]):=by
  have k1:0<=(5 + (i:Int)):=by lia
  have k2:(5 + (i:Int)) < (ws.length:Int):=by lia
  have k3:(5 + (i:Int)).toNat=5 + i:=by lia
  generalize (5 + (i:Int))=Q at *
  simp[ixQ,ixP,atI,ixN,k1,k2,k3,h5]
 have hb4:C4[b]? = some (.dct (nms.map .str) (ds.map Dl.P)):=by rw[hoth b hbl];exact hDb
 obtain ⟨hp1,hp2⟩:=put_new nms (ds.map Dl.P) ws[5 + i] (.tup [.tup (hs'.map .str),.tup (ow.map .str),.int cl,.tup (cs.map Cl.P)]) (hnew _ hwk)
 have hset:setK (.v (.tup [.tup (hs'.map .str),.tup (ow.map .str),.int cl,.tup (cs.map Cl.P)])) (.c b) (.v (.str ws[5 + i])) [1e8,6e0,4e3,#[4e8],5e7,#[10e7],#[.tup (hs'.map .str)],#[.tup (cs.map Cl.P)],x8,some (.c b),#[s.P],#[.int st],#[.lst ((L.take s.q.toNat).map fI)],#[.int cl]] C4=some (.nx [1e8,6e0,4e3,#[4e8],5e7,#[10e7],#[.tup (hs'.map .str)],#[.tup (cs.map Cl.P)],x8,some (.c b),#[s.P],#[.int st],#[.lst ((L.take s.q.toNat).map fI)],#[.int cl]],C4.set b (.dct ((nms++[ws[5 + i]]).map .str) ((ds++[(⟨hs',ow,cl,cs⟩:Dl)]).map Dl.P))):=by
  unfold setK
  simp only[hb4,keyP]
  rw[←Zcd nms,ZaT]
  dsimp only
  rw[if_pos 12e1,hp1,hp2,Zcd]
  rw[show (ds++[(⟨hs',ow,cl,cs⟩:Dl)]).map Dl.P=ds.map Dl.P++[.tup [.tup (hs'.map .str),.tup (ow.map .str),.int cl,.tup (cs.map Cl.P)]] by rw[Xf];rfl]
 refine ⟨6e0,#[.tup (hs'.map .str)],#[.tup (cs.map Cl.P)],#[.int st],#[.lst ((L.take s.q.toNat).map fI)],#[.int cl],C4.set b (.dct ((nms++[ws[5 + i]]).map .str) ((ds++[(⟨hs',ow,cl,cs⟩:Dl)]).map Dl.P)),⟨hs',ow,cl,cs⟩,ws[5 + i],?_,?_,hwk,setAt hb4,⟨D.length,rfl,?_,Yh _⟩,by rw[Xm,aa.len];simp,fun j hj hjb=>by rw[Ym (Xi hjb)];exact hoth j hj⟩
 ·rw[show bbd=mSeq _ (mSeq _ (mSeq _ (mSeq _ (mSeq _ (mSeq _ _))))) from rfl,Zan st1,Zan st2,Zan st3,Zan st4,Zan st5,Zan st6]
  generalize C4.set b (.dct ((nms++[ws[5 + i]]).map .str) ((ds++[(⟨hs',ow,cl,cs⟩:Dl)]).map Dl.P))=CF at hset
  generalize (L.take s.q.toNat).map fI=LT at *
  generalize s.P=SP at *
  generalize hs'.map PV.str=HS at *
  generalize ow.map PV.str=OW at *
  generalize cs.map Cl.P=CS at *
  generalize ws.map PV.str=WS at *
  generalize oW=te at eow
  simp[mSetIxK,mTup,aCons,aNil,mVar,mC,mOp,bnd,opM,Pu.ret,g1,g2,deref,derefs,mCB,mVal,mComp,mItems,itemsP,lenT,stIn',eow,tupH,Pu.plain,addP,hkey,hset]
 ·have:=hs.H
  have:=hs.zs.ne
  have:=hs.zs.le
  exact ⟨by rw[hhl];lia,hhn,fun h hh=>hwl h (hhw h hh),by rw[hcl4];lia,hcs⟩
 ·obtain ⟨x',y',h',r'⟩:=aa.gs
  exact ⟨x',y',by rw[Ym (Yn hbl)];exact h',r'⟩
theorem loopE_idx {g:5e8}{f:10e9}(a:Nat)(qs:List PV)(Pi:Nat->PSt->Cs->Prop)(hcell:∀i ρ D,Pi i ρ D->D[a]? = some (.lst qs))
  (step:∀(i:Nat) (h:i < qs.length) ρ D,Pi i ρ D->∃ρ1 ρ2 D2,g (.tup [.int (i:Nat),qs[i]]) ρ=some ρ1/\f ρ1 D=some (.nx ρ2,D2)/\Pi (i + 1) ρ2 D2):∀(n i:Nat) ρ D,i<=qs.length->qs.length - i < n->Pi i ρ D->∃ρ' D',loopE g f a n i ρ D=some (.nx ρ',D')/\Pi qs.length ρ' D'
 | 0,i,ρ,D,_,h,_=>by lia
 | n + 1,i,ρ,D,hi,hn,h=>by
  rcases YJ i qs.length with hl | hl
  ·obtain ⟨ρ1,ρ2,D2,e1,e2,h2⟩:=step i hl ρ D h
   obtain ⟨ρ',D',e3,h3⟩:=loopE_idx a qs Pi hcell step n (i + 1) ρ2 D2 hl 1e3 h2
   refine ⟨ρ',D',?_,h3⟩
   unfold loopE
   simp only[hcell i ρ D h,Yc hl,e1,bnd,e2,e3]
  ·have:i=qs.length:=by lia
   subst this
   refine ⟨ρ,D,?_,h⟩
   unfold loopE
   simp only[hcell _ ρ D h,Ye.mpr (Yh _)]
structure TnOk (nms:List Str)(ds:List Dl):Prop where
 l1:1<=nms.length/\nms.length<=7
 ld:ds.length=nms.length
 nd:nms.Nodup
 le:∀w∈nms,w.length<=10
 ok:∀d∈ds,DlOk d
theorem take_snoc {ws:6e2}{i:Nat}{w:Str}(h:ws[5 + i]? = some w):(ws.drop 5).take (i + 1)=(ws.drop 5).take i++[w]:=by
 have h1:(ws.drop 5)[i]? = some w:=by rw[List.getElem?_drop];exact h
 obtain ⟨hl,e⟩:=YK.mp h1
 rw[←e,List.take_succ_eq_append_getElem hl]
theorem town_eq (ns:List Int)(C:Cs):∃(sp:Int) (nms:6e2) (ds:List Dl),F_l_town [.v 12e5] C=some (.v (.tup [.int sp,.dct (nms.map .str) (ds.map Dl.P)]),C)/\TnOk nms ds:=by
 obtain ⟨x,y,el,hy⟩:=ZcX ns 1 C 1e3 1e3
 have g0:=gs_new C x y hy
 obtain ⟨ws,C1,ew,hw,nd,hwl,a1⟩:=words_adv C.length _ g0
 obtain ⟨p,C2,e2,p1,p2,a2⟩:=Zal C.length 8 C1 a1.gs 1e4
 obtain ⟨Mi,hM,M1,M7⟩:=ix_rg [.int 1,.int 1,.int 2,.int 2,.int 3,.int 1,.int 2,.int 7] 1 7 1e0 p p1 (by simpa using p2)
 have a12:=a1.trans a2
 have h12:∀j,j < C.length->C2[j]? = C[j]?:=fun j hj=>by rw[a12.oth j (Yn hj),Yd hj]
 have hl2:C2.length=C.length + 1:=by rw[a12.len];simp
 obtain ⟨M,rfl⟩:∃M:Nat,Mi=(M:Int):=⟨Mi.toNat,by lia⟩
 obtain ⟨ρA,D,eA,hA⟩:=ZbO (g:=hName 5) (f:=abd) (fun i ρ D=>∃(x1 x5 x6 x7 x8:7e8) (sh:List Sh),ρ=[1e8,x1,4e3,#[(.int (M:Int))],7e7,x5,x6,x7,x8,none,none,none,none,none]/\D[C2.length]? = some (.lst (sh.map Sh.P))/\(∀s∈sh,ShOk s)/\sh.length=i/\C2.length + 1<=D.length/\∀j,j < C.length->D[j]? = C[j]?) 7
  ((Yk M).map fun (q:Nat)=>PV.int (0 + q)) 0 12e1 (fun z hz i ρ D hi h=>by
   obtain ⟨q,hq,rfl⟩:=Yy.mp hz
   have hq:=Xy.mp hq
   obtain ⟨x1,x5,x6,x7,x8,sh,rfl,h1,h2,h3,h4,h5⟩:=h
   obtain ⟨y1,y6,y7,y8,D',s,t1,t2,t3,t4,t5⟩:=abd_ok ns #[.lst (ws.map .str)] #[(.int (M:Int))] C2.length 9e4 x1 x6 x7 x8 none none none none none sh D 1e3 h1 h2 1e3
   refine ⟨_,_,D',rfl,t1,y1,_,y6,y7,y8,sh++[s],rfl,t3,fun u hu=>?_,by simp[h3],by lia,fun j hj=>by rw[t5 j 1e3 1e3,h5 j hj]⟩
   rcases YB.mp hu with hu | hu
   ·exact h2 u hu
   ·rw[Yw.mp hu];exact t2) [#[.lst (ns.map .int)],some (.c C.length),#[.lst (ws.map .str)],#[(.int (M:Int))],some (.c C2.length),none,none,none,none,none,none,none,none,none] (C2++[.lst []]) ⟨some (.c C.length),none,none,none,none,[],rfl,by simp,(fun _ h=>(nomatch h)),rfl,by simp,fun j hj=>by rw[Yd (by lia)];exact h12 j hj⟩
 obtain ⟨x1,x5,x6,x7,x8,sh,rfl,hDa,hsh,hshl,hDl,hDo⟩:=hA
 have hM':sh.length=M:=by simpa using hshl
 subst hM'
 obtain ⟨ρB,E,eB,hB⟩:=loopE_idx (g:=hTup (hCons (hName 5) (hCons (hName 10) hNil)) 2) (f:=bbd) C2.length (sh.map Sh.P) (fun i ρ E=>∃(y1 y5 y6 y7 y10 y11 y12 y13:7e8) (ds:List Dl),ρ=[1e8,y1,4e3,#[4e8],7e7,y5,y6,y7,x8,6e0,y10,y11,y12,y13]/\E[C2.length]? = some (.lst (sh.map Sh.P))/\E[D.length]? = some (.dct (((ws.drop 5).take i).map .str) (ds.map Dl.P))/\(∀d∈ds,DlOk d)/\ds.length=i/\i<=sh.length/\D.length + 1<=E.length/\(i=0\/∃q,y1=some (.c q)/\GS E q/\D.length + 1<=q)/\∀j,j < C.length->E[j]? = C[j]?)
  (fun i ρ E h=>by obtain ⟨_,_,_,_,_,_,_,_,_,_,h,_⟩:=h;exact h) (fun i hi ρ E h=>by
   have hi':i < sh.length:=by simpa using hi
   obtain ⟨y1,y5,y6,y7,y10,y11,y12,y13,ds,rfl,h1,h2,h3,h4,h5,h6,_,h8⟩:=h
   have hil:i < 7:=by lia
   obtain ⟨z1,z6,z7,z11,z12,z13,E',d,w,t1,t2,t3,t4,t5,t6,t7⟩:=bbd_ok ns ws hw nd hwl C2.length D.length 1e3 i hil sh hsh 1e3 (sh[i]) (hsh _ (YV hi')) y1 y6 y7 x8 y11 y12 y13 ((ws.drop 5).take i) ds E h1 h2 12e1 (fun w hw5 hmem=>by
    obtain ⟨j,hj,e⟩:=Xx hmem
    have hj':j < i:=by simp at hj;lia
    obtain ⟨h5i,e5⟩:=YK.mp hw5
    rw[List.getElem_take,List.getElem_drop,←e5] at e
    have:=(XD (h₀:=by lia) (h₁:=h5i) nd).mp e
    lia)
   refine ⟨_,_,E',?_,t1,z1,#[10e7],z6,z7,#[(sh[i]).P],z11,z12,z13,ds++[d],rfl,by rw[t7 _ 1e3 1e3];exact h1,?_,fun u hu=>?_,by simp[h4],hi',by lia,.inr ?_,fun j hj=>by rw[t7 j 1e3 1e3,h8 j hj]⟩
   ·simp[hTup,hCons,hName,hNil]
   ·rw[take_snoc t3];exact t4
   ·rcases YB.mp hu with hu | hu
    ·exact h3 u hu
    ·rw[Yw.mp hu];exact t2
   ·obtain ⟨q,q1,q2,q3⟩:=t5
    exact ⟨q,q1,q2,by lia⟩) 1000 0 [#[.lst (ns.map .int)],x1,#[.lst (ws.map .str)],#[(.int (sh.length:Int))],some (.c C2.length),x5,x6,x7,x8,some (.c D.length),none,none,none,none] (D++[.dct [] []]) (Xe _) (by simp;lia) ⟨x1,x5,x6,x7,none,none,none,none,[],rfl,by rw[Yd (by lia)];exact hDa,by simp,(fun _ h=>(nomatch h)),rfl,Xe _,by simp,.inl rfl,fun j hj=>by rw[Yd (by lia)];exact hDo j hj⟩
 obtain ⟨y1,y5,y6,y7,y10,y11,y12,y13,ds,rfl,hE1,hE2,hds,hdl,_,hEl,hq,hEo⟩:=hB
 simp only[Yv] at hE2 hdl hq
 obtain ⟨q,rfl,gq,hq⟩:∃q,y1=some (.c q)/\GS E q/\D.length + 1<=q:=by
  rcases hq with hq | hq
  ·lia
  ·exact hq
 obtain ⟨r,F,e5,r1,r2,a5⟩:=Zal q 5 E gq 1e4
 obtain ⟨sp,hsp,_,_⟩:=ix_rg [.int 0,.int 1,.int 2,.int 5,.int 30] 0 30 1e0 r r1 (by simpa using r2)
 have hFb:F[D.length]? = some (.dct (((ws.drop 5).take sh.length).map .str) (ds.map Dl.P)):=by rw[a5.oth _ 1e3];exact hE2
 have hFC:F.take C.length=C:=by
  apply YZ
  intro j
  rcases YJ j C.length with z | z
  ·rw[Xd z,a5.oth j 1e3,hEo j z]
  ·rw[Ye.mpr z,Ye.mpr (by rw[Xh];lia)]
 have hlt:((ws.drop 5).take sh.length).length=sh.length:=by simp;lia
 refine ⟨sp,(ws.drop 5).take sh.length,ds,?_,⟨by lia,by lia,(nd.sublist (List.drop_sublist 5 ws)).sublist (List.take_sublist _ _),fun w h=>hwl w (List.mem_of_mem_drop (Ww h)),hds⟩⟩
 have st1:mNew 1 (mFnF FF_l_left (aCons 2e0 (aCons 1e9 aNil))) [1e8,none,none,none,none,none,none,none,none,none,none,none,none,none] C=some (.nx [1e8,5e4,none,none,none,none,none,none,none,none,none,none,none,none],C++10e8):=by
  simp[mNew,mFnF,aCons,aNil,mVar,mC,bnd,Pu.ret,el]
 have st2:mSet 2 (mFn F_l_words (aCons 3e7 (aCons (mC (.int 16)) aNil))) [1e8,5e4,none,none,none,none,none,none,none,none,none,none,none,none] (C++10e8)=some (.nx [1e8,5e4,4e3,none,none,none,none,none,none,none,none,none,none,none],C1):=by
  generalize ws.map PV.str=WS at *
  simp[mSet,mFn,aCons,aNil,mVar,mC,bnd,Pu.ret,ew]
 have st3:mSet 3 (mOp 2e7 (mVal (mLst (aCons 1e9 (aCons 1e9 (aCons 2e5 (aCons 2e5 (aCons 4e4 (aCons 1e9 (aCons 2e5 (aCons (mC (.int 7)) aNil)))))))))) 8e2) [1e8,5e4,4e3,none,none,none,none,none,none,none,none,none,none,none] C1=some (.nx [1e8,5e4,4e3,#[4e8],none,none,none,none,none,none,none,none,none,none],C2):=by
  generalize ws.map PV.str=WS at *
  simp[mSet,mOp,mVal,mLst,mFn,aCons,aNil,mVar,mC,bnd,opM,Pu.ret,g2,deref,Pu.plain,e2,hM]
 have st4:mNew 4 8e3 [1e8,5e4,4e3,#[4e8],none,none,none,none,none,none,none,none,none,none] C2=some (.nx [1e8,5e4,4e3,#[4e8],7e7,none,none,none,none,none,none,none,none,none],C2++[.lst []]):=by
  simp[mNew,mLst,aNil,bnd,opM,Pu.ret,Pu.plain]
 have st5:mFor (mRange1 8e6) (hName 5) abd [1e8,5e4,4e3,#[4e8],7e7,none,none,none,none,none,none,none,none,none] (C2++[.lst []])=some (.nx [1e8,x1,4e3,#[4e8],7e7,x5,x6,x7,x8,none,none,none,none,none],D):=by
  have hr:rng1P [.v 4e8]=some ((Yk sh.length).map fun (q:Nat)=>PV.int (0 + q)):=by
   unfold rng1P;dsimp only;rw[if_pos 1e3,XY]
  have hm:mRange1 8e6 [1e8,5e4,4e3,#[4e8],7e7,none,none,none,none,none,none,none,none,none] (C2++[.lst []])=some ((Yk sh.length).map fun (q:Nat)=>PV.int (0 + q),C2++[.lst []]):=by
   generalize ((Yk sh.length).map fun (q:Nat)=>PV.int (0 + q))=rs at hr
   simp[mRange1,aCons,aNil,mVar,bnd,opM,Pu.ret,hr]
  unfold mFor bnd;rw[hm];exact eA
 have st6:mNewK 9 [1e8,x1,4e3,#[4e8],7e7,x5,x6,x7,x8,none,none,none,none,none] D=some (.nx [1e8,x1,4e3,#[4e8],7e7,x5,x6,x7,x8,6e0,none,none,none,none],D++[.dct [] []]):=rfl
 have st7:mForE 9e6 (hTup (hCons (hName 5) (hCons (hName 10) hNil)) 2) bbd [1e8,x1,4e3,#[4e8],7e7,x5,x6,x7,x8,6e0,none,none,none,none] (D++[.dct [] []])=some (.nx [1e8,some (.c q),4e3,#[4e8],7e7,y5,y6,y7,x8,6e0,y10,y11,y12,y13],E):=by
  have hm:aCons (mVar 4) aNil [1e8,x1,4e3,#[4e8],7e7,x5,x6,x7,x8,6e0,none,none,none,none] (D++[.dct [] []])=some ([.c C2.length],D++[.dct [] []]):=by
   simp[aCons,aNil,mVar,bnd,Pu.ret]
  unfold mForE bnd;rw[hm];exact eB
 have hb:B_l_town=mSeq (mNew 1 (mFnF FF_l_left (aCons 2e0 (aCons 1e9 aNil)))) (mSeq (mSet 2 (mFn F_l_words (aCons 3e7 (aCons (mC (.int 16)) aNil)))) (mSeq (mSet 3 (mOp 2e7 (mVal (mLst (aCons 1e9 (aCons 1e9 (aCons 2e5 (aCons 2e5 (aCons 4e4 (aCons 1e9 (aCons 2e5 (aCons (mC (.int 7)) aNil)))))))))) 8e2)) (mSeq (mNew 4 8e3) (mSeq (mFor (mRange1 8e6) (hName 5) abd) (mSeq (mNewK 9) (mSeq (mForE 9e6 (hTup (hCons (hName 5) (hCons (hName 10) hNil)) 2) bbd) (mRetQ (aCons (mOp 2e7 (mVal (mLst (aCons 2e6 (aCons 1e9 (aCons 2e5 (aCons 12e6 (aCons (mC (.int 30)) aNil))))))) (mFn F_l_pick (aCons 3e7 (aCons 12e6 aNil)))) (aCons (mVar 9) aNil))))))))):=rfl
 unfold F_l_town
 rw[hb]
 show (match mSeq _ _ [some (.v 12e5),none,none,none,none,none,none,none,none,none,none,none,none,none] C with
  | some (.rt r,C')=>fin C.length C' r
  | some (.nx _,C')=>some 13e5
  | some (.rf ps,C')=>some (.v 8e1,C'.take C.length)
  | some (.rq qs,C')=>(finQ C.length C' qs).map fun ps=>(.v 9e0,C'.take C.length)
  | _=>none)=_
 rw[Zan st1,Zan st2,Zan st3,Zan st4,Zan st5,Zan st6,Zan st7]
 have hDC:¬D.length < C.length:=by lia
 generalize ((ws.drop 5).take sh.length).map PV.str=NM at *
 generalize ds.map Dl.P=DS at *
 simp[mRetQ,aCons,aNil,mVar,mC,mOp,mVal,mLst,mFn,bnd,opM,Pu.ret,g2,deref,Pu.plain,e5,hsp,finQ,hDC,hFb,hFC]
noncomputable def sdB (p:PV):Bool:=match p with
 | .tup (.str x::_)=>x=="said"
 | _=>false
abbrev sdT:PSt->M Bool:=mTest (mOp (g2 eqP) (mOp 2e7 2e0 2e6) (mC (.str "said")))
theorem sdT_eq (ks:9e2)(h:EvOk ks)(C:Cs):sdT [#[tupK ks]] C=some (sdB (tupK ks),C):=by
 rcases h with ⟨i,rfl⟩ | ⟨i,w,rfl⟩ | ⟨a,b,c,rfl⟩
 ·simp[sdT,mTest,mOp,mVar,mC,bnd,opM,g2,deref,tupK,kP,ixQ,ixP,atI,ixN,eqP,scP,mB,asB,sdB]
  decide +kernel
 ·simp[sdT,mTest,mOp,mVar,mC,bnd,opM,g2,deref,tupK,kP,ixQ,ixP,atI,ixN,eqP,scP,mB,asB,sdB]
 ·simp[sdT,mTest,mOp,mVar,mC,bnd,opM,g2,deref,tupK,kP,ixQ,ixP,atI,ixN,eqP,scP,mB,asB,sdB]
  decide +kernel
theorem said_shape {ks:9e2}(h:EvOk ks)(hb:sdB (tupK ks)=true):∃i w,ks=[.inr "said",.inl i,.inr w]:=by
 rcases h with ⟨i,rfl⟩ | h | ⟨a,b,c,rfl⟩
 ·have:sdB (tupK [.inr "joined",.inl i])=(("joined":Str)==("said":Str)):=rfl
  rw[this] at hb
  exact absurd hb (by decide +kernel)
 ·exact h
 ·have:sdB (tupK [.inr "did",.inl a,.inl b,.inl c])=((("did":Str))==("said":Str)):=rfl
  rw[this] at hb
  exact absurd hb (by decide +kernel)
theorem said_comp (evs:List 9e8)(h:∀e∈evs,EvOk e)(C:Cs):∃sd:List 9e8,compL 6e6 sdT 2e0 (evs.map tupK) [none] [] C=some (sd.map tupK,C)/\sd.length<=evs.length/\∀e∈sd,∃i w,e=[.inr "said",.inl i,.inr w]:=by
 have e:=Zce (te:=mVar 0) (tt:=sdT) sdB (evs.map tupK) [none] [] C (fun x hx=>by
  obtain ⟨ks,hk,rfl⟩:=Yy.mp hx
  exact sdT_eq ks (h ks hk) C) (fun x hx=>by simp[mVar])
 refine ⟨evs.filter fun e=>sdB (tupK e),?_,XR _ _,fun e he=>?_⟩
 ·rw[e,Xg,WU];rfl
 ·obtain ⟨h1,h2⟩:=XG.mp he
  exact said_shape (h e h1) h2
noncomputable def evsOf (c:Cl):List 9e8:=c.cs++(match c.lv with | none=>[] | some (e,_)=>[e])
theorem evsOf_ok {c:Cl}(h:ClOk c):∀e∈evsOf c,EvOk e:=by
 intro e he
 unfold evsOf at he
 rcases YB.mp he with he | he
 ·exact h.cs e he
 ·cases hl:c.lv with
  | none=>rw[hl] at he;cases he
  | some p=>obtain ⟨e',n⟩:=p;rw[hl] at he;rw[Yw.mp he];exact h.lv e' n hl
theorem evsOf_items (c:Cl)(h:ClOk c)(ρ:PSt)(C:Cs)(h12:ρ[12]? = some #[.tup (c.cs.map tupK)])(h13:ρ[13]? = some #[lvP c.lv]):mItems (mOp 5e3 (mVar 12) (mSlice (mVar 13) oNo (oPart 1e9))) ρ C=some ((evsOf c).map tupK,C):=by
 have hl:(c.cs.map tupK).length<=8:=by simpa using h.le
 cases hv:c.lv with
 | none=>
  have hs:sliceD C (.v (lvP none)) none (some 1)=#[.tup []]:=by simp[sliceD,deref,sliceP,lvP,cutP]
  have he:(evsOf c).map tupK=c.cs.map tupK:=by unfold evsOf;rw[hv];simp
  rw[he]
  rw[hv] at h13
  generalize c.cs.map tupK=CS at *
  generalize lvP none=LV at *
  have:CS.length<=1000000:=by lia
  simp[mItems,mOp,mVar,h12,h13,mSlice,oNo,oPart,mC,bnd,opM,Pu.ret,Pu.intD,deref,hs,g2,addP,this,itemsP]
 | some p=>
  obtain ⟨e,n⟩:=p
  have hs:sliceD C (.v (lvP (some (e,n)))) none (some 1)=#[.tup [tupK e]]:=by simp[sliceD,deref,sliceP,lvP,cutP,HT.sIx]
  have he:(evsOf c).map tupK=c.cs.map tupK++[tupK e]:=by unfold evsOf;rw[hv];simp
  rw[he]
  rw[hv] at h13
  generalize c.cs.map tupK=CS at *
  generalize lvP (some (e,n))=LV at *
  generalize tupK e=TE at *
  have h1:CS.length + 1<=1000000:=by lia
  have h2:CS.length<=999999:=by lia
  simp[mItems,mOp,mVar,h12,h13,mSlice,oNo,oPart,mC,bnd,opM,Pu.ret,Pu.intD,deref,hs,g2,addP,h1,h2,itemsP]
theorem ne_lst (L:List 9e8):deepP (fun p q=>!eqD p q) (.lst (L.map tupK)) (.lst [])=some (.bl (decide (L≠[]))):=by
 have h1:dat (.lst (L.map tupK))=true:=by unfold dat;exact ZaW Za4 _
 have h2:dep (.lst (L.map tupK))<=60:=by unfold dep;have:=ZaV Zbn L;lia
 have h3:dat (.lst [])=true:=rfl
 unfold deepP
 rw[h1,h3,decide_eq_true h2]
 cases L with
 | nil=>rfl
 | cons a L=>rfl
abbrev sdC:PSt->M SV:=mVal (mComp (mItems (mOp 5e3 (mVar 12) (mSlice (mVar 13) oNo (oPart 1e9)))) ["_law_event_here"] [] 6e6 sdT 2e0)
abbrev dRest:PSt->M PF:=mSeq (mIfS (mAndT (mTest (mOp (g2 ltP) 8e8 12e6)) (mTest (mOp 4e1 (mVar 14) (mVal 8e3)))) (mRet (mTup (aCons (mC (.str "say")) (aCons (mOp 2e7 (mOp 2e7 (mVar 14) (mFn F_l_pick (aCons 2e0 (aCons (mCB 9e5 (aCons (mVar 14) aNil)) aNil)))) 2e5) aNil)))) mSkip) (mSeq (mIfS (mTest (mOp (g2 ltP) 8e8 (mC (.int 9)))) (mRet (mTup (aCons (mC (.str "do")) (aCons (mVar 7) (aCons (mFn F_l_pick (aCons 2e0 (aCons (mVar 10) aNil))) aNil))))) mSkip) (mSeq (mIfS (mTest (mOp (g2 ltP) 8e8 (mC (.int 10)))) (mRet (mTup (aCons (mC (.str "free")) (aCons (mVar 7) aNil)))) mSkip) (mSeq (mIfS (mTest (mOp (g2 ltP) 8e8 (mC (.int 11)))) (mRet (mTup (aCons (mC (.str "ready")) (aCons (mVar 7) aNil)))) mSkip) (mSeq (mIfS (mTest (mOp (g2 ltP) 8e8 (mC (.int 12)))) (mRet (mTup (aCons (mC (.str "hand")) (aCons (mVar 7) (aCons (mOp 2e7 5e5 (mFn F_l_pick (aCons 2e0 (aCons (mCB 9e5 6e9) aNil)))) aNil))))) mSkip) (mSeq (mIfS (mTest (mOp (g2 ltP) 8e8 (mC (.int 13)))) (mRet (mTup (aCons (mC (.str "quit")) (aCons (mVar 7) aNil)))) mSkip) (mRet (mOp 2e7 (mVal (mLst (aCons (mTup (aCons (mC (.str "note")) aNil)) (aCons (mTup (aCons (mC (.str "say")) (aCons (mOp 2e7 5e5 2e6) aNil))) (aCons (mTup (aCons (mC (.str "join")) aNil)) aNil))))) (mOp (g2 subP) 8e8 (mC (.int 13))))))))))
theorem deed_is:B_l_deed=mSeq (mAsg 3e7 (hTup (hCons (hName 2) (hCons (hName 3) (hCons (hName 4) (hCons (hName 5) hNil)))) 4)) (mSeq (mSet 6 (mFn F_l_pick (aCons 2e0 (aCons (mC (.int 16)) aNil)))) (mSeq (mSet 7 (mFn F_l_pick (aCons 2e0 (aCons (mCB 9e5 (aCons 7e3 aNil)) aNil)))) (mSeq (mAsg (mOp 2e7 7e3 (mVar 7)) (hTup (hCons (hName 8) (hCons (hName 9) (hCons (hName 10) (hCons (hName 11) (hCons (hName 12) (hCons (hName 13) hNil)))))) 6)) (mSeq (mIfS (mTest (mOp (g2 ltP) 8e8 2e5)) (mRet (mTup (aCons (mC (.str "join")) aNil))) mSkip) (mSeq (mSet 14 sdC) dRest))))):=rfl
theorem rest_ok (k:Nat)(w c:Int)(hs:6e2)(sd:List 9e8)(pn:Int)(x1 x3 x4 x5 x8 x9 x11 x12 x13:7e8)(C:Cs)(g:GS C k)(hw:0<=w/\w < 16)(hh:2<=hs.length/\hs.length<=8)(hsd:∀e∈sd,∃i w,e=[.inr "said",.inl i,.inr w])(hsl:sd.length<=100)(hp:1<=pn/\pn<=9):
  ∃(dd:9e2) (C':Cs),dRest [3e2,x1,#[.tup (hs.map .str)],x3,x4,x5,#[.int w],11e9,x8,x9,#[.int pn],x11,x12,x13,#[.lst (sd.map tupK)]] C=some (.rt (.v (tupK dd)),C')/\Adv k C C':=by
 have hne:=ne_lst sd
 by_cases h5:w < 5/\sd≠[]
 ·obtain ⟨h5,hnn⟩:=h5
  have hlen:0 < sd.length:=WB.mpr hnn
  obtain ⟨j,C',e,j1,j2,a⟩:=Zal k (sd.length:Int) C g 1e3
  have hj:j.toNat < sd.length:=by lia
  obtain ⟨i,v,hv⟩:=hsd _ (YV hj)
  have ix1:ixQ (.lst (sd.map tupK)) (.int j)=some (.tup [.str "said",.int i,.str v]):=by
   have:(sd.map tupK)[j.toNat]? = some (tupK sd[j.toNat]):=by rw[YI,Yc hj];rfl
   simp only[ixQ,ixP,atI,ixN]
   rw[if_pos j1,if_pos (by simpa using j2)]
   show (sd.map tupK)[j.toNat]? = _
   rw[this,hv];rfl
  have ix2:ixQ (.tup [.str "said",.int i,.str v]) (.int 2)=some (.str v):=by simp[ixQ,ixP,atI,ixN]
  have hl:lenH [.lst (sd.map tupK)]=some (.int (sd.length:Int)):=by simp[lenH]
  rw[decide_eq_true hnn] at hne
  refine ⟨[.inr "say",.inr v],C',?_,a⟩
  generalize sd.map tupK=SD at *
  simp[dRest,mSeq,mIfS,mAndT,mTest,mOp,mVar,mC,bnd,opM,Pu.ret,g1,g2,deref,derefs,ltP,intP,h5,mB,asB,mVal,mLst,aNil,Pu.plain,hne,mRet,mTup,aCons,mFn,mCB,hl,e,ix1,ix2,tupK,kP]
 ·have t6:mIfS (mAndT (mTest (mOp (g2 ltP) 8e8 12e6)) (mTest (mOp 4e1 (mVar 14) (mVal 8e3)))) (mRet (mTup (aCons (mC (.str "say")) (aCons (mOp 2e7 (mOp 2e7 (mVar 14) (mFn F_l_pick (aCons 2e0 (aCons (mCB 9e5 (aCons (mVar 14) aNil)) aNil)))) 2e5) aNil)))) mSkip [3e2,x1,#[.tup (hs.map .str)],x3,x4,x5,#[.int w],11e9,x8,x9,#[.int pn],x11,x12,x13,#[.lst (sd.map tupK)]] C=some (.nx [3e2,x1,#[.tup (hs.map .str)],x3,x4,x5,#[.int w],11e9,x8,x9,#[.int pn],x11,x12,x13,#[.lst (sd.map tupK)]],C):=by
   by_cases hw5:w < 5
   ·have hsn:¬sd≠[]:=fun z=>h5 ⟨hw5,z⟩
    rw[decide_eq_false hsn] at hne
    generalize sd.map tupK=SD at *
    simp[mIfS,mAndT,mTest,mOp,mVar,mC,bnd,opM,Pu.ret,g2,deref,ltP,intP,hw5,mB,asB,mVal,mLst,aNil,Pu.plain,hne,mSkip]
   ·simp[mIfS,mAndT,mTest,mOp,mVar,mC,bnd,opM,Pu.ret,g2,deref,ltP,intP,hw5,mB,asB,mSkip]
  rw[show dRest=mSeq _ (mSeq _ _) from rfl,Zan t6]
  clear hne t6
  generalize sd.map tupK=SD at *
  have hl:lenH [.tup (hs.map .str)]=some (.int (hs.length:Int)):=by simp[lenH]
  have hz:∃z:Str,ixQ (.tup (hs.map .str)) (.int 0)=some (.str z):=by
   cases hs with
   | nil=>simp at hh
   | cons a hs=>exact ⟨a,by simp[ixQ,ixP,atI,ixN]⟩
  by_cases h9:w < 9
  ·obtain ⟨j,C',e,_,_,a⟩:=Zal k pn C g 1e3
   refine ⟨[.inr "do",.inl c,.inl j],C',?_,a⟩
   simp[mSeq,mIfS,mTest,mOp,mVar,mC,bnd,opM,Pu.ret,g2,deref,ltP,intP,h9,mB,asB,mRet,mTup,aCons,aNil,mFn,e,Pu.plain,tupK,kP]
  ·by_cases h10:w < 10
   ·exact ⟨[.inr "free",.inl c],C,by simp[mSeq,mIfS,mTest,mOp,mVar,mC,bnd,opM,Pu.ret,g2,deref,ltP,intP,h9,h10,mB,asB,mRet,mTup,aCons,aNil,mSkip,Pu.plain,tupK,kP],Adv.refl g⟩
   ·by_cases h11:w < 11
    ·exact ⟨[.inr "ready",.inl c],C,by simp[mSeq,mIfS,mTest,mOp,mVar,mC,bnd,opM,Pu.ret,g2,deref,ltP,intP,h9,h10,h11,mB,asB,mRet,mTup,aCons,aNil,mSkip,Pu.plain,tupK,kP],Adv.refl g⟩
    ·by_cases h12:w < 12
     ·obtain ⟨j,C',e,j1,j2,a⟩:=Zal k (hs.length:Int) C g 1e3
      have hj:j.toNat < hs.length:=by lia
      have ix1:ixQ (.tup (hs.map .str)) (.int j)=some (.str hs[j.toNat]):=by simp[ixQ,ixP,atI,ixN,j1,j2,Yc hj]
      refine ⟨[.inr "hand",.inl c,.inr hs[j.toNat]],C',?_,a⟩
      generalize hs.map PV.str=HS at *
      simp[mSeq,mIfS,mTest,mOp,mVar,mC,bnd,opM,Pu.ret,g1,g2,deref,derefs,ltP,intP,h9,h10,h11,h12,mB,asB,mRet,mTup,aCons,aNil,mSkip,mFn,mCB,hl,e,ix1,Pu.plain,tupK,kP]
     ·by_cases h13:w < 13
      ·exact ⟨[.inr "quit",.inl c],C,by simp[mSeq,mIfS,mTest,mOp,mVar,mC,bnd,opM,Pu.ret,g2,deref,ltP,intP,h9,h10,h11,h12,h13,mB,asB,mRet,mTup,aCons,aNil,mSkip,Pu.plain,tupK,kP],Adv.refl g⟩
      ·obtain ⟨z,hz⟩:=hz
       have:w=13\/w=14\/w=15:=by lia
       generalize hs.map PV.str=HS at *
       have i0:ixQ (.lst [.tup [.str "note"],.tup [.str "say",.str z],.tup [.str "join"]]) (.int 0)=some (.tup [.str "note"]):=by simp[ixQ,ixP,atI,ixN]
       have i1:ixQ (.lst [.tup [.str "note"],.tup [.str "say",.str z],.tup [.str "join"]]) (.int 1)=some (.tup [.str "say",.str z]):=by simp[ixQ,ixP,atI,ixN]
       have i2:ixQ (.lst [.tup [.str "note"],.tup [.str "say",.str z],.tup [.str "join"]]) (.int 2)=some (.tup [.str "join"]):=by simp[ixQ,ixP,atI,ixN]
       rcases this with rfl | rfl | rfl
       ·exact ⟨[.inr "note"],C,by simp[mSeq,mIfS,mTest,mOp,mVar,mC,bnd,opM,Pu.ret,g2,deref,ltP,intP,mB,asB,mRet,mTup,aCons,aNil,mSkip,Pu.plain,mVal,mLst,hz,subP,i0,i1,i2,tupK,kP],Adv.refl g⟩
       ·exact ⟨[.inr "say",.inr z],C,by simp[mSeq,mIfS,mTest,mOp,mVar,mC,bnd,opM,Pu.ret,g2,deref,ltP,intP,mB,asB,mRet,mTup,aCons,aNil,mSkip,Pu.plain,mVal,mLst,hz,subP,i0,i1,i2,tupK,kP],Adv.refl g⟩
       ·exact ⟨[.inr "join"],C,by simp[mSeq,mIfS,mTest,mOp,mVar,mC,bnd,opM,Pu.ret,g2,deref,ltP,intP,mB,asB,mRet,mTup,aCons,aNil,mSkip,Pu.plain,mVal,mLst,hz,subP,i0,i1,i2,tupK,kP],Adv.refl g⟩
theorem deed_adv (k:Nat)(d:Dl)(hd:DlOk d)(C:Cs)(g:GS C k):∃(dd:9e2) (C':Cs),F_l_deed [.c k,.v d.P] C=some (.v (tupK dd),C')/\Adv k C C':=by
 obtain ⟨w,C1,e1,w1,w2,a1⟩:=Zal k 16 C g 1e4
 have hc1:=hd.c1
 obtain ⟨c,C2,e2,c1,c2,a2⟩:=Zal k (d.cs.length:Int) C1 a1.gs 1e3
 have hcl:c.toNat < d.cs.length:=by lia
 obtain ⟨cl,hcle⟩:∃cl,cl=d.cs[c.toNat]:=8e4
 have hok:ClOk cl:=by rw[hcle];exact hd.cs _ (YV hcl)
 have hix:ixQ (.tup (d.cs.map Cl.P)) (.int c)=some cl.P:=by
  rw[hcle]
  simp[ixQ,ixP,atI,ixN,c1,c2,Yc hcl]
 have hlen:lenH [.tup (d.cs.map Cl.P)]=some (.int (d.cs.length:Int)):=by simp[lenH]
 have a:=a1.trans a2
 have st0:mAsg 3e7 (hTup (hCons (hName 2) (hCons (hName 3) (hCons (hName 4) (hCons (hName 5) hNil)))) 4) [3e2,#[d.P],none,none,none,none,none,none,none,none,none,none,none,none,none] C=some (.nx [3e2,#[d.P],#[.tup (d.hs.map .str)],#[.tup (d.ow.map .str)],#[.int d.cl],#[.tup (d.cs.map Cl.P)],none,none,none,none,none,none,none,none,none],C):=by
  simp[mAsg,mVar,bnd,Dl.P,hTup,hCons,hName,hNil]
 have st1:mSet 6 (mFn F_l_pick (aCons 2e0 (aCons (mC (.int 16)) aNil))) [3e2,#[d.P],#[.tup (d.hs.map .str)],#[.tup (d.ow.map .str)],#[.int d.cl],#[.tup (d.cs.map Cl.P)],none,none,none,none,none,none,none,none,none] C=some (.nx [3e2,#[d.P],#[.tup (d.hs.map .str)],#[.tup (d.ow.map .str)],#[.int d.cl],#[.tup (d.cs.map Cl.P)],#[.int w],none,none,none,none,none,none,none,none],C1):=by
  simp[mSet,mFn,aCons,aNil,mVar,mC,bnd,Pu.ret,e1]
 have st2:mSet 7 (mFn F_l_pick (aCons 2e0 (aCons (mCB 9e5 (aCons 7e3 aNil)) aNil))) [3e2,#[d.P],#[.tup (d.hs.map .str)],#[.tup (d.ow.map .str)],#[.int d.cl],#[.tup (d.cs.map Cl.P)],#[.int w],none,none,none,none,none,none,none,none] C1=some (.nx [3e2,#[d.P],#[.tup (d.hs.map .str)],#[.tup (d.ow.map .str)],#[.int d.cl],#[.tup (d.cs.map Cl.P)],#[.int w],11e9,none,none,none,none,none,none,none],C2):=by
  generalize d.cs.map Cl.P=CS at *
  simp[mSet,mFn,aCons,aNil,mVar,mCB,g1,derefs,deref,opM,bnd,Pu.ret,hlen,e2]
 have st3:mAsg (mOp 2e7 7e3 (mVar 7)) (hTup (hCons (hName 8) (hCons (hName 9) (hCons (hName 10) (hCons (hName 11) (hCons (hName 12) (hCons (hName 13) hNil)))))) 6) [3e2,#[d.P],#[.tup (d.hs.map .str)],#[.tup (d.ow.map .str)],#[.int d.cl],#[.tup (d.cs.map Cl.P)],#[.int w],11e9,none,none,none,none,none,none,none] C2=some (.nx 3e4,C2):=by
  generalize d.cs.map Cl.P=CS at *
  simp[mAsg,mOp,mVar,bnd,opM,g2,deref,hix,Cl.P,hTup,hCons,hName,hNil]
 have end':∀(f:10e9) (r:PV) (Cx:Cs),f 3e4 C2=some (.rt (.v r),Cx)->Adv k C Cx->mDef 2 13 (mSeq (mAsg 3e7 (hTup (hCons (hName 2) (hCons (hName 3) (hCons (hName 4) (hCons (hName 5) hNil)))) 4)) (mSeq (mSet 6 (mFn F_l_pick (aCons 2e0 (aCons (mC (.int 16)) aNil)))) (mSeq (mSet 7 (mFn F_l_pick (aCons 2e0 (aCons (mCB 9e5 (aCons 7e3 aNil)) aNil)))) (mSeq (mAsg (mOp 2e7 7e3 (mVar 7)) (hTup (hCons (hName 8) (hCons (hName 9) (hCons (hName 10) (hCons (hName 11) (hCons (hName 12) (hCons (hName 13) hNil)))))) 6)) f)))) [.c k,.v d.P] C=some (.v r,Cx):=fun f r Cx hf hA=>by
  show (match mSeq _ _ [3e2,some (.v d.P),none,none,none,none,none,none,none,none,none,none,none,none,none] C with
   | some (.rt r,C')=>fin C.length C' r
   | some (.nx _,C')=>some 13e5
   | some (.rf ps,C')=>some (.v 8e1,C'.take C.length)
   | some (.rq qs,C')=>(finQ C.length C' qs).map fun ps=>(.v 9e0,C'.take C.length)
   | _=>none)=_
  rw[Zan st0,Zan st1,Zan st2,Zan st3,hf]
  show some (SV.v r,Cx.take C.length)=_
  rw[hA.take]
 unfold F_l_deed
 rw[deed_is]
 by_cases h2:w < 2
 ·refine ⟨[.inr "join"],C2,end' _ _ _ ?_ a,a⟩
  generalize d.cs.map Cl.P=CS at *
  simp[mSeq,mIfS,mTest,mOp,mVar,mC,bnd,opM,Pu.ret,g2,deref,ltP,intP,h2,mB,asB,mRet,mTup,aCons,aNil,Pu.plain,tupK,kP]
 ·obtain ⟨sd,esd,hsl,hsd⟩:=said_comp (evsOf cl) (evsOf_ok hok) C2
  have hev:(evsOf cl).length<=9:=by
   unfold evsOf
   have:=hok.le
   rw[Y0]
   cases cl.lv<;>simp<;>lia
  have hit:=evsOf_items cl hok 3e4 C2 rfl rfl
  obtain ⟨dd,C3,er,a3⟩:=rest_ok k w c d.hs sd cl.p #[d.P] #[.tup (d.ow.map .str)] #[.int d.cl] #[.tup (d.cs.map Cl.P)] #[.int cl.a] #[.int cl.b] #[.int cl.w] #[.tup (cl.cs.map tupK)] #[lvP cl.lv] C2 a.gs ⟨w1,w2⟩ hd.h2 hsd 1e3 hok.p
  refine ⟨dd,C3,end' _ _ _ ?_ (a.trans a3),a.trans a3⟩
  have t4:mIfS (mTest (mOp (g2 ltP) 8e8 2e5)) (mRet (mTup (aCons (mC (.str "join")) aNil))) mSkip 3e4 C2=some (.nx 3e4,C2):=by
   simp[mIfS,mTest,mOp,mVar,mC,bnd,opM,Pu.ret,g2,deref,ltP,intP,h2,mB,asB,mSkip]
  have t5:mSet 14 sdC 3e4 C2=some (.nx [3e2,#[d.P],#[.tup (d.hs.map .str)],#[.tup (d.ow.map .str)],#[.int d.cl],#[.tup (d.cs.map Cl.P)],#[.int w],11e9,#[.int cl.a],#[.int cl.b],#[.int cl.p],#[.int cl.w],#[.tup (cl.cs.map tupK)],#[lvP cl.lv],#[.lst (sd.map tupK)]],C2):=by
   have hcm:sdC 3e4 C2=some (.v (.lst (sd.map tupK)),C2):=by
    have hl:((evsOf cl).map tupK).length<=100000:=by simp;lia
    unfold sdC mVal mComp bnd
    rw[hit]
    dsimp only
    rw[if_pos hl]
    simp only[stIn',Yu,W5,YF]
    rw[esd];rfl
   unfold mSet bnd;rw[hcm];rfl
  rw[Zan t4,Zan t5]
  exact er
noncomputable def isOf (h d:Str)(l:Lt):Bool:=l.h==h&&l.d==d
noncomputable def isOfP (h d:Str)(p:PV):Bool:=match p with
 | .tup (.str a::.str b::_)=>a==h&&b==d
 | _=>false
theorem isOfP_eq (h d:Str)(l:Lt):isOfP h d l.P=isOf h d l:=rfl
theorem eq2 (a b h d:Str):deepP eqD (.tup [.str a,.str b]) (.tup [.str h,.str d])=some (.bl (a==h&&b==d)):=by
 simp[deepP,dat,dats,dep,deps,eqD,eqDs]
theorem ne2 (a b h d:Str):deepP (fun p q=>!eqD p q) (.tup [.str a,.str b]) (.tup [.str h,.str d])=some (.bl (!(a==h&&b==d))):=by
 simp[deepP,dat,dats,dep,deps,eqD,eqDs]
theorem sl2 (l:Lt)(C:Cs):sliceD C (.v l.P) none (some 2)=#[.tup [.str l.h,.str l.d]]:=by
 simp[sliceD,deref,sliceP,Lt.P,cut2]
abbrev miT:PSt->M Bool:=mTest (mOp 9e7 (mSlice 2e0 oNo (oPart 2e5)) (mTup (aCons 3e7 6e9)))
abbrev otN:PSt->M Bool:=mTest (mOp 4e1 (mSlice 2e0 oNo (oPart 2e5)) (mTup (aCons 3e7 6e9)))
theorem mine_comp (ls:List Lt)(h d:Str)(C:Cs):compL 6e6 miT 2e0 (ls.map Lt.P) [none,#[.str h],#[.str d]] [] C=some ((ls.filter (isOf h d)).map Lt.P,C):=by
 have e:=Zce (te:=mVar 0) (tt:=miT) (isOfP h d) (ls.map Lt.P) [none,#[.str h],#[.str d]] [] C (fun x hx=>by
  obtain ⟨l,_,rfl⟩:=Yy.mp hx
  have h1:=sl2 l
  have h2:=eq2 l.h l.d h d
  rw[isOfP_eq]
  unfold isOf
  generalize l.P=LP at *
  simp[miT,mTest,mOp,mSlice,mVar,oNo,oPart,mC,bnd,opM,Pu.ret,Pu.intD,deref,h1,mTup,aCons,aNil,Pu.plain,g2,h2,mB,asB]) (fun x hx=>by simp[mVar])
 rw[e,Xg,WU];rfl
theorem rest_comp (ls:List Lt)(h d:Str)(C:Cs):compL 6e6 otN 2e0 (ls.map Lt.P) [none,#[.str h],#[.str d]] [] C=some ((ls.filter fun l=>!isOf h d l).map Lt.P,C):=by
 have e:=Zce (te:=mVar 0) (tt:=otN) (fun p=>!isOfP h d p) (ls.map Lt.P) [none,#[.str h],#[.str d]] [] C (fun x hx=>by
  obtain ⟨l,_,rfl⟩:=Yy.mp hx
  have h1:=sl2 l
  have h2:=ne2 l.h l.d h d
  show _=some (!isOfP h d l.P,C)
  rw[isOfP_eq]
  unfold isOf
  generalize l.P=LP at *
  simp[otN,mTest,mOp,mSlice,mVar,oNo,oPart,mC,bnd,opM,Pu.ret,Pu.intD,deref,h1,mTup,aCons,aNil,Pu.plain,g2,h2,mB,asB]) (fun x hx=>by simp[mVar])
 rw[e,Xg,WU];rfl
theorem neP_lst (ls:List Lt):deepP (fun p q=>!eqD p q) 7e0 (.lst [])=some (.bl (decide (ls≠[]))):=by
 have h1:dat 7e0=true:=by unfold dat;exact ZaW dat_P _
 have h2:dep 7e0<=60:=by unfold dep;have:=ZaV dep_P ls;lia
 have h3:dat (.lst [])=true:=rfl
 unfold deepP
 rw[h1,h3,decide_eq_true h2]
 cases ls with
 | nil=>rfl
 | cons a L=>rfl
theorem last_eq (ls:List Lt)(hls:ls.length<=1000)(h d:Str)(C:Cs):∃n:Int,F_l_last [.v 7e0,.v (.str h),.v (.str d)] C=some (.v (.int n),C):=by
 have hm:=mine_comp ls h d C
 have hn:=neP_lst (ls.filter (isOf h d))
 have hl:(ls.map Lt.P).length<=100000:=by simp;lia
 have hb:B_l_last=mSeq (mSet 3 (mVal (mComp (mItems 2e0) 5e0 [1,2] 6e6 miT 2e0))) (mRet (mIf (mTest (mOp 4e1 5e9 (mVal 8e3))) (mOp 2e7 (mOp 2e7 5e9 (mNeg 1e9)) 2e5) 2e6)):=rfl
 unfold F_l_last
 rw[hb]
 generalize miT=tt at hm
 by_cases he:ls.filter (isOf h d)=[]
 ·rw[he] at hm hn
  rw[decide_eq_false 5e2] at hn
  refine ⟨0,?_⟩
  sleep 2
  simp only[W5] at hm hn
  simp[mDef,mSeq,mSet,mVal,mComp,mItems,itemsP,mVar,bnd,opM,Pu.ret,hl,stIn',hm,mRet,mIf,mTest,mOp,mLst,aNil,Pu.plain,g2,deref,hn,mB,asB,mC,fin]
 ·obtain ⟨pre,l,hp⟩:∃pre l,ls.filter (isOf h d)=pre++[l]:=⟨_,_,(List.dropLast_concat_getLast he).symm⟩
  rw[hp] at hm hn
  rw[decide_eq_true 5e2] at hn
  have hx:=last_ix pre l
  have h2:ixQ l.P (.int 2)=some (.int l.n):=by simp[Lt.P,ixQ,ixP,atI,ixN]
  refine ⟨l.n,?_⟩
  generalize (pre++[l]).map Lt.P=PL at *
  sleep 2
  generalize l.P=LP at *
  simp[mDef,mSeq,mSet,mVal,mComp,mItems,itemsP,mVar,bnd,opM,Pu.ret,hl,stIn',hm,mRet,mIf,mTest,mOp,mLst,aNil,Pu.plain,g2,deref,hn,mB,asB,mC,mNeg,negP,hx,h2,fin]
theorem ltD_nmV (t u:Lt):∃c,ltD (nmV t) (nmV u)=some c:=by
 show ∃c,ltD (.tup [.str t.h,.str t.d,.int t.n]) (.tup [.str u.h,.str u.d,.int u.n])=some c
 unfold ltD lexD
 split
 ·unfold lexD;split
  ·unfold lexD;split
   ·unfold lexD;exact 8e4
   ·unfold ltD;exact 8e4
  ·unfold ltD;exact 8e4
 ·unfold ltD;exact 8e4
theorem all_nmV (g:PV->Bool)(ts:List Lt)(h:∀t,g (nmV t)=true):(ts.map nmV).all g=true:=by
 rw[YM];intro x hx;obtain ⟨t,_,rfl⟩:=Yy.mp hx;exact h t
theorem cmp_nmV (ts:List Lt):cmpAll (ts.map nmV)=true:=all_nmV _ ts fun t=>all_nmV _ ts fun u=>by obtain ⟨c,e⟩:=ltD_nmV t u;rw[e];rfl
theorem sortP_nmV (ts:List Lt)(h:ts.length < 64):sortP (ts.map nmV)=some (sortL (ts.map nmV)):=by
 have hd:deps (ts.map nmV)<=1:=ZaV (f:=nmV) (fun m=>Zbn m.nm) ts
 have hs:sortable (ts.map nmV)=true:=by unfold sortable;rw[all_nmV (fun p=>fstK p==4) ts fun t=>rfl];simp
 have hda:dats (ts.map nmV)=true:=ZaW (f:=nmV) (fun m=>Za4 m.nm) ts
 unfold sortP
 rw[if_pos]
 rw[hda,hs,cmp_nmV,Yv]
 simp[h];lia
theorem sort_nmV (ts:List Lt):∃gs:List 9e8,sortL (ts.map nmV)=gs.map tupK/\gs.length=ts.length:=by
 have p:=Zdg (cmp_nmV ts) (Zbw (f:=nmV) (fun m=>Zbl m.nm) ts)
 have key:∀(L:List PV),(∀x∈L,∃k,x=tupK k)->∃gs:List 9e8,L=gs.map tupK:=by
  intro L
  induction L with
  | nil=>intro _;exact ⟨[],rfl⟩
  | cons x L ih=>
   intro h
   obtain ⟨k,rfl⟩:=h x 5e2
   obtain ⟨gs,rfl⟩:=ih fun y hy=>h y (by simp[hy])
   exact ⟨k::gs,rfl⟩
 obtain ⟨gs,e⟩:=key (sortL (ts.map nmV)) fun x hx=>by
  obtain ⟨t,_,rfl⟩:=Yy.mp (p.mem_iff.mp hx)
  exact ⟨t.nm,rfl⟩
 refine ⟨gs,e,?_⟩
 have:=p.length_eq
 rw[e] at this
 simpa using this
def shortL (l:Lt):Prop:=l.h.length<=1000/\l.d.length<=1000
theorem keysOk_nm (ts:List Lt)(h:∀t∈ts,shortL t):keysOk (ts.map Lt.nm)=true:=by
 unfold keysOk
 rw[YM]
 intro k hk
 obtain ⟨t,ht,rfl⟩:=Yy.mp hk
 obtain ⟨h1,h2⟩:=h t ht
 simp[Lt.nm,keyOk,h1,h2]
theorem map_nmV (ts:List Lt):(ts.map Lt.nm).map tupK=ts.map nmV:=by rw[Y2];rfl
theorem put_nm (ts:List Lt)(t:Lt):∃us:List Lt,putKs (ts.map Lt.nm) t.nm=us.map Lt.nm/\us.length<=ts.length + 1/\∀u∈us,u∈ts\/u=t:=by
 unfold putKs
 cases inK t.nm (ts.map Lt.nm) with
 | true=>exact ⟨ts,by simp,by lia,fun u h=>.inl h⟩
 | false=>
  refine ⟨ts++[t],by simp,by simp,fun u h=>?_⟩
  rcases YB.mp h with h | h
  ·exact .inl h
  ·exact .inr (Yw.mp h)
theorem name_eq (l:Lt)(C:Cs):F_l_name [.v l.P] C=some (.v (tupK l.nm),C):=by
 simp![F_l_name,Lt.P,cut3,nm_P]
theorem ix_neg (so:List Lt)(a:Int)(h1:1<=a)(h2:a<=so.length):∃l∈so,ixQ (.lst (so.map Lt.P)) (.int (-a))=some l.P:=by
 have hj:(-a + (so.length:Int)).toNat < so.length:=by lia
 refine ⟨so[(-a + (so.length:Int)).toNat],YV hj,?_⟩
 have n1:¬(0:Int)<=-a:=by lia
 have n2:-(so.length:Int)<=-a:=by lia
 simp only[ixQ,ixP,atI,ixN,Yv]
 rw[if_neg n1,if_pos n2]
 show (so.map Lt.P)[(-a + (so.length:Int)).toNat]? = _
 rw[YI,Yc hj];rfl
abbrev rgG:PSt->M SV:=mOp (g2 mulP) (mOp 2e7 (mVal (mLst (aCons 2e6 (aCons 1e9 (aCons 1e9 (aCons 2e5 (aCons 4e4 (aCons 1e9 (aCons 2e5 (aCons (mC (.int 7)) aNil)))))))))) (mFn F_l_pick (aCons 2e0 5e1))) (mCB (g1 intH) (aCons (mOp 4e1 (mVar 4) (mVal 8e3)) aNil))
abbrev at1:PSt->M SV:=mOp 5e3 (mFn F_l_pick (aCons 2e0 (aCons (mCB (g1 minH) (aCons (mCB 9e5 9e6) (aCons 12e6 aNil))) aNil))) 1e9
abbrev at2:PSt->M PF:=mIfS (mTest (mOp (g2 eqP) (mFn F_l_pick (aCons 2e0 (aCons 12e7 aNil))) 2e6)) (mSet 7 (mOp 5e3 (mFn F_l_pick (aCons 2e0 (aCons (mCB 9e5 9e6) aNil))) 1e9)) mSkip
abbrev put3:PSt->M PF:=mSetIxT (mC (.bl true)) 7e3 (mFn F_l_name (aCons (mOp 2e7 (mVar 4) (mNeg (mVar 7))) aNil))
abbrev gbd:PSt->M PF:=mSeq (mSet 7 at1) (mSeq at2 put3)
theorem gots_is:B_l_gots=mSeq (mSet 4 (mVal (mComp (mItems 3e7) 5e0 [2,3] 6e6 otN 2e0))) (mSeq (mNewT 5) (mSeq (mFor (mRange1 (aCons rgG aNil)) (hName 6) gbd) (mRet (mCB (g1 tupH) (aCons (mVal (mSorted3 (aCons 7e3 aNil))) aNil))))):=rfl
section
variable (k n:Nat)(LS H D:7e8)(so:List Lt)
theorem gbd_ok (hso:0 < so.length)(hsl:so.length<=1000)(hsh:∀l∈so,shortL l)(x6 x7:7e8)(ts:List Lt)(vs:List PV)(C:Cs)(g:GS C k)(hkn:k≠n)(hC:C[n]? = some (.dtt (ts.map Lt.nm) vs))(hts:∀t∈ts,shortL t)(htl:ts.length < 500):
  ∃(y7:7e8) (us:List Lt) (ws:List PV) (C':Cs),gbd [3e2,LS,H,D,10e1,some (.c n),x6,x7] C=some (.nx [3e2,LS,H,D,10e1,some (.c n),x6,y7],C')/\GS C' k/\C'[n]? = some (.dtt (us.map Lt.nm) ws)/\(∀t∈us,shortL t)/\us.length<=ts.length + 1/\C'.length=C.length/\∀j,j≠k->j≠n->C'[j]? = C[j]?:=by
 have hl:lenH [.lst (so.map Lt.P)]=some (.int (so.length:Int)):=by simp[lenH]
 have hmn:∃m:Int,minH [.int (so.length:Int),.int 5]=some (.int m)/\0 < m/\m<=so.length/\m<=5:=by
  unfold minH
  by_cases q:(5:Int) < so.length
  ·exact ⟨5,by simp[q],by lia,by lia,by lia⟩
  ·exact ⟨so.length,by simp[q],by lia,by lia,by lia⟩
 obtain ⟨m,hm,m0,m1,m5⟩:=hmn
 obtain ⟨d1,C1,e1,d1a,d1b,a1⟩:=Zal k m C g 1e3
 have st1:mSet 7 at1 [3e2,LS,H,D,10e1,some (.c n),x6,x7] C=some (.nx [3e2,LS,H,D,10e1,some (.c n),x6,#[.int (d1 + 1)]],C1):=by
  generalize so.map Lt.P=SO at *
  simp[mSet,at1,mOp,mFn,aCons,aNil,mVar,mC,mCB,g1,g2,derefs,deref,opM,bnd,Pu.ret,hl,hm,e1,addP]
 obtain ⟨d2,C2,e2,d2a,d2b,a2⟩:=Zal k 4 C1 a1.gs 1e4
 obtain ⟨t,C3,st2,t1,t2,a3⟩:∃(t:Int) (C3:Cs),at2 [some (.c k),LS,H,D,#[.lst (so.map Lt.P)],some (.c n),x6,#[.int (d1 + 1)]] C1=some (.nx [some (.c k),LS,H,D,#[.lst (so.map Lt.P)],some (.c n),x6,#[.int t]],C3)/\1<=t/\t<=so.length/\Adv k C1 C3:=by
  by_cases hz:d2=0
  ·obtain ⟨d3,C3,e3,d3a,d3b,a3⟩:=Zal k (so.length:Int) C2 a2.gs 1e3
   refine ⟨d3 + 1,C3,?_,by lia,by lia,a2.trans a3⟩
   subst hz
   generalize so.map Lt.P=SO at *
   simp[at2,mIfS,mTest,mOp,mFn,aCons,aNil,mVar,mC,mCB,g1,g2,derefs,deref,opM,bnd,Pu.ret,e2,eqP,scP,mB,asB,mSet,hl,e3,addP]
  ·refine ⟨d1 + 1,C2,?_,by lia,by lia,a2⟩
   generalize so.map Lt.P=SO at *
   simp[at2,mIfS,mTest,mOp,mFn,aCons,aNil,mVar,mC,g2,deref,opM,bnd,Pu.ret,e2,eqP,scP,hz,mB,asB,mSkip]
 have a13:=a1.trans a3
 obtain ⟨l,hlm,hix⟩:=ix_neg so t t1 t2
 have hn3:C3[n]? = some (.dtt (ts.map Lt.nm) vs):=by rw[a13.oth n (Xi hkn)];exact hC
 obtain ⟨us,hus,hul,hum⟩:=put_nm ts l
 have hk:keysP (l.nm.map kP)=some l.nm:=ZaT l.nm
 have st3:put3 [3e2,LS,H,D,10e1,some (.c n),x6,#[.int t]] C3=some (.nx [3e2,LS,H,D,10e1,some (.c n),x6,#[.int t]],C3.set n (.dtt (us.map Lt.nm) (putVs (ts.map Lt.nm) vs l.nm (.bl true)))):=by
  have hset:setT (.v (.bl true)) (.c n) (.v (tupK l.nm)) [3e2,LS,H,D,10e1,some (.c n),x6,#[.int t]] C3=some (.nx [3e2,LS,H,D,10e1,some (.c n),x6,#[.int t]],C3.set n (.dtt (us.map Lt.nm) (putVs (ts.map Lt.nm) vs l.nm (.bl true)))):=by
   unfold tupK setT
   simp only[hn3,hk]
   rw[if_pos 12e1,hus]
  have hnm:=name_eq l C3
  generalize tupK l.nm=N at *
  generalize l.P=LP at *
  generalize so.map Lt.P=SO at *
  simp[put3,mSetIxT,mC,mVar,mFn,aCons,aNil,mOp,mNeg,negP,bnd,opM,Pu.ret,g2,deref,hix,hnm,hset]
 refine ⟨#[.int t],us,putVs (ts.map Lt.nm) vs l.nm (.bl true),C3.set n (.dtt (us.map Lt.nm) (putVs (ts.map Lt.nm) vs l.nm (.bl true))),?_,?_,setAt hn3,fun u hu=>?_,hul,by rw[Xm,a13.len],fun j q1 q2=>by rw[Ym (Xi q2)];exact a13.oth j q1⟩
 ·rw[show gbd=mSeq (mSet 7 at1) (mSeq at2 put3) from rfl,Zan st1,Zan st2];exact st3
 ·obtain ⟨x,y,h,r⟩:=a13.gs
  exact ⟨x,y,by rw[Ym (Xi hkn)];exact h,r⟩
 ·rcases hum u hu with h | rfl
  ·exact hts u h
  ·exact hsh _ hlm
end
theorem gots_adv (k:Nat)(ls:List Lt)(hls:ls.length<=1000)(hsh:∀l∈ls,shortL l)(h d:Str)(C:Cs)(g:GS C k):∃(gs:List 9e8) (C':Cs),F_l_gots [.c k,.v 7e0,.v (.str h),.v (.str d)] C=some (.v (.tup (gs.map tupK)),C')/\gs.length<=7/\Adv k C C':=by
 have hkn:k≠C.length:=Yn g.lt
 have hrc:=rest_comp ls h d C
 obtain ⟨so,hso⟩:∃so,so=ls.filter fun l=>!isOf h d l:=8e4
 rw[←hso] at hrc
 have hsol:so.length<=1000:=by rw[hso];exact Yz (XR _ _) hls
 have hsos:∀l∈so,shortL l:=fun l hl=>by rw[hso] at hl;exact hsh l (XG.mp hl).1
 have hl:(ls.map Lt.P).length<=100000:=by simp;lia
 have st1:mSet 4 (mVal (mComp (mItems 3e7) 5e0 [2,3] 6e6 otN 2e0)) [3e2,1e6,#[.str h],#[.str d],none,none,none,none] C=some (.nx [3e2,1e6,#[.str h],#[.str d],10e1,none,none,none],C):=by
  sleep 2
  generalize so.map Lt.P=SO at *
  generalize otN=tt at hrc
  simp[mSet,mVal,mComp,mItems,itemsP,mVar,bnd,opM,Pu.ret,hl,stIn',hrc]
 have st2:mNewT 5 [3e2,1e6,#[.str h],#[.str d],10e1,none,none,none] C=some (.nx [3e2,1e6,#[.str h],#[.str d],10e1,5e4,none,none],C++[.dtt [] []]):=rfl
 have g2':=g.app (.dtt [] [])
 obtain ⟨p,C3,e3,p1,p2,a3⟩:=Zal k 8 _ g2' 1e4
 obtain ⟨r,hr,r0,r7⟩:=ix_rg [.int 0,.int 1,.int 1,.int 2,.int 3,.int 1,.int 2,.int 7] 0 7 1e0 p p1 (by simpa using p2)
 have hne:=neP_lst so
 obtain ⟨N,hN,hN0,hN7,hNs⟩:∃N:Nat,rgG [some (.c k),#[.lst (ls.map Lt.P)],#[.str h],#[.str d],#[.lst (so.map Lt.P)],some (.c C.length),none,none] (C++[.dtt [] []])=some (.v (.int (N:Int)),C3)/\True/\N<=7/\(0 < N->0 < so.length):=by
  have cr:-18446744073709551616 < r/\r < 18446744073709551616:=by lia
  by_cases hs:so=[]
  ·subst hs
   rw[decide_eq_false 5e2] at hne
   refine ⟨0,?_,trivial,by lia,fun z=>absurd z 1e4⟩
   simp only[W5] at hne
   sleep 2
   simp[rgG,mOp,mVal,mLst,mFn,aCons,aNil,mVar,mC,mCB,g1,g2,derefs,deref,opM,bnd,Pu.ret,Pu.plain,e3,hr,hne,intH,mulP,intP,cr]
  ·rw[decide_eq_true hs] at hne
   refine ⟨r.toNat,?_,trivial,by lia,fun _=>WB.mpr hs⟩
   have hrr:((r.toNat:Nat):Int)=r:=by lia
   rw[hrr]
   sleep 2
   generalize so.map Lt.P=SO at *
   simp[rgG,mOp,mVal,mLst,mFn,aCons,aNil,mVar,mC,mCB,g1,g2,derefs,deref,opM,bnd,Pu.ret,Pu.plain,e3,hr,hne,intH,mulP,intP,cr]
 obtain ⟨ρ',D,e5,hpi⟩:=ZbO (g:=hName 6) (f:=gbd) (fun i ρ D=>∃(x6 x7:7e8) (ts:List Lt) (vs:List PV),ρ=[3e2,1e6,#[.str h],#[.str d],10e1,5e4,x6,x7]/\GS D k/\D[C.length]? = some (.dtt (ts.map Lt.nm) vs)/\(∀t∈ts,shortL t)/\ts.length<=i/\D.length=C.length + 1/\∀j,j < C.length->j≠k->D[j]? = C[j]?) 7
  ((Yk N).map fun (q:Nat)=>PV.int (0 + q)) 0 12e1 (fun x hx i ρ D hi hh=>by
   obtain ⟨q,hq,rfl⟩:=Yy.mp hx
   have hq:=Xy.mp hq
   obtain ⟨x6,x7,ts,vs,rfl,h1,h2,h3,h4,h5,h6⟩:=hh
   obtain ⟨y7,us,ws,D',t1,t2,t3,t4,t5,t6,t7⟩:=gbd_ok k C.length #[.lst (ls.map Lt.P)] #[.str h] #[.str d] so (hNs 1e3) hsol hsos #[(.int 9e4)] x7 ts vs D h1 hkn h2 h3 1e3
   exact ⟨_,_,D',rfl,t1,_,y7,us,ws,rfl,t2,t3,t4,by lia,by lia,fun j q1 q2=>by rw[t7 j q2 (by lia),h6 j q1 q2]⟩) [some (.c k),#[.lst (ls.map Lt.P)],#[.str h],#[.str d],#[.lst (so.map Lt.P)],some (.c C.length),none,none] C3 ⟨none,none,[],[],rfl,a3.gs,by rw[a3.oth _ (Xi hkn)];simp,(fun _ z=>(nomatch z)),Yh _,by rw[a3.len];simp,fun j q1 q2=>by rw[a3.oth j q2,Yd q1]⟩
 obtain ⟨x6,x7,ts,vs,rfl,h1,h2,h3,h4,h5,h6⟩:=hpi
 have htl:ts.length<=7:=by simp at h4;lia
 have st3:mFor (mRange1 (aCons rgG aNil)) (hName 6) gbd [3e2,1e6,#[.str h],#[.str d],10e1,5e4,none,none] (C++[.dtt [] []])=some (.nx [3e2,1e6,#[.str h],#[.str d],10e1,5e4,x6,x7],D):=by
  have hrg:rng1P [.v (.int (N:Int))]=some ((Yk N).map fun (q:Nat)=>PV.int (0 + q)):=by
   unfold rng1P;dsimp only;rw[if_pos 1e3,XY]
  have hm:mRange1 (aCons rgG aNil) [3e2,1e6,#[.str h],#[.str d],10e1,5e4,none,none] (C++[.dtt [] []])=some ((Yk N).map fun (q:Nat)=>PV.int (0 + q),C3):=by
   have:aCons rgG aNil [3e2,1e6,#[.str h],#[.str d],10e1,5e4,none,none] (C++[.dtt [] []])=some ([.v (.int (N:Int))],C3):=by
    unfold aCons bnd;rw[hN];rfl
   unfold mRange1 bnd;rw[this]
   show opM (fun _=>rng1P [.v (.int (N:Int))]) C3=_
   unfold opM;dsimp only;rw[hrg]
  unfold mFor bnd;rw[hm];exact e5
 obtain ⟨gs,hgs,hgl⟩:=sort_nmV ts
 refine ⟨gs,D.take C.length,?_,by lia,adv_cut 1e3 h1 g.lt h6⟩
 have hsort:sortedH3 D [.c C.length]=some (gs.map tupK):=by
  unfold sortedH3
  simp only[deref,h2]
  unfold sortedH2
  simp only[deref,h2]
  rw[if_pos (keysOk_nm ts h3),map_nmV,sortP_nmV ts 1e3,hgs]
 unfold F_l_gots
 rw[gots_is]
 show (match mSeq _ _ [3e2,some (.v 7e0),some (.v (.str h)),some (.v (.str d)),none,none,none,none] C with
  | some (.rt r,C')=>fin C.length C' r
  | some (.nx _,C')=>some 13e5
  | some (.rf ps,C')=>some (.v 8e1,C'.take C.length)
  | some (.rq qs,C')=>(finQ C.length C' qs).map fun ps=>(.v 9e0,C'.take C.length)
  | _=>none)=_
 rw[Zan st1,Zan st2,Zan st3]
 generalize gs.map tupK=GS' at *
 simp[mRet,mCB,g1,aCons,aNil,mVal,mSorted3,mVar,bnd,opM,Pu.ret,hsort,derefs,deref,tupH,fin]
theorem sort_strs (nms:6e2)(h7:nms.length<=7)(hle:∀w∈nms,w.length<=10)(C:Cs)(ps:List PV):∃sn:List Str,sortedH3 C [.v (.dct (nms.map .str) ps)]=some (sn.map .str)/\sn.length=nms.length/\(∀w∈sn,w∈nms)/\(nms.Nodup->sn.Nodup):=by
 have hd:dats (nms.map PV.str)=true:=ZaW (f:=PV.str) (fun _=>rfl) nms
 have hdp:deps (nms.map PV.str)<=0:=ZaV (f:=PV.str) (fun _=>Yh _) nms
 have hs:sortable (nms.map PV.str)=true:=by
  unfold sortable
  have:(nms.map PV.str).all (fun p=>fstK p==2)=true:=by rw[Vt];exact YM.mpr fun _ _=>rfl
  rw[this];simp
 have hc:cmpAll (nms.map PV.str)=true:=by
  unfold cmpAll
  rw[Vt]
  exact YM.mpr fun a _=>by
   show (nms.map PV.str).all _=true
   rw[Vt]
   exact YM.mpr fun b _=>rfl
 have hp:purs (nms.map PV.str)=true:=Zbw (f:=PV.str) (fun _=>rfl) nms
 have hsp:sortP (nms.map PV.str)=some (sortL (nms.map PV.str)):=by
  unfold sortP
  rw[if_pos]
  rw[hd,hs,hc,Yv]
  simp;lia
 have pm:=Zdg hc hp
 obtain ⟨sn,e⟩:=strs_of (sortL (nms.map PV.str)) fun x hx=>by
  obtain ⟨w,_,rfl⟩:=Yy.mp (pm.mem_iff.mp hx)
  exact ⟨w,rfl⟩
 refine ⟨sn,?_,?_,fun w hw=>?_,fun hnd=>?_⟩
 ·unfold sortedH3
  simp only[deref]
  rw[←Zcd nms,ZaT]
  dsimp only
  rw[if_pos,Zcd,hsp,e]
  rw[Vt]
  exact YM.mpr fun w hw=>by
   show decide (w.length<=1000)=true
   have:=hle w hw
   exact decide_eq_true 1e3
 ·have:=pm.length_eq
  rw[e] at this
  simpa using this
 ·have:PV.str w∈sortL (nms.map PV.str):=by rw[e];exact X8 hw
  obtain ⟨v,hv,ev⟩:=Yy.mp (pm.mem_iff.mp this)
  cases ev;exact hv
 ·rw[e] at pm
  have h1:(nms.map PV.str).Nodup:=by
   rw[YN,Wu]
   exact Vz (fun {x y} hne z=>hne (by cases z;rfl)) (YN.mp hnd)
  have h2:=pm.nodup_iff.mpr h1
  rw[YN,Wu] at h2
  rw[YN]
  exact Vz (fun {x y} hne z=>hne (by rw[z])) h2
theorem look_deal (w:Str):∀(nms:6e2) (ds:List Dl),ds.length=nms.length->w∈nms->∃d∈ds,lookP (nms.map .str) (ds.map Dl.P) (.inr w)=some d.P
 | [],ds,_,h=>by cases h
 | v::nms,[],hl,h=>by simp at hl
 | v::nms,d::ds,hl,h=>by
  rw[Yu,Yu]
  unfold lookP
  by_cases e:v=w
  ·subst e
   exact ⟨d,by simp,by rw[if_pos (show keyP (.str v)=some (.inr v) from rfl)]⟩
  ·have hm:w∈nms:=by
    rcases Ys.mp h with h | h
    ·exact absurd h.symm e
    ·exact h
   obtain ⟨d',hd,h2⟩:=look_deal w nms ds (by simpa using hl) hm
   refine ⟨d',by simp[hd],?_⟩
   rw[if_neg (fun z=>e (by simpa[keyP] using z))]
   exact h2
def townP (sp:Int)(nms:6e2)(ds:List Dl):PV:=.tup [.int sp,.dct (nms.map .str) (ds.map Dl.P)]
theorem town_1 (sp:Int)(nms:6e2)(ds:List Dl):ixQ (townP sp nms ds) (.int 1)=some (.dct (nms.map .str) (ds.map Dl.P)):=by simp[townP,ixQ,ixP,atI,ixN]
theorem town_deal {nms:6e2}{ds:List Dl}(t:TnOk nms ds)(w:Str)(h:w∈nms):∃d∈ds,ixQ (.dct (nms.map .str) (ds.map Dl.P)) (.str w)=some d.P:=by
 obtain ⟨d,hd,e⟩:=look_deal w nms ds t.ld h
 exact ⟨d,hd,by unfold ixQ;simp only[keyP];exact e⟩
theorem deal_0 (d:Dl):ixQ d.P (.int 0)=some (.tup (d.hs.map .str)):=by simp[Dl.P,ixQ,ixP,atI,ixN]
theorem house_ix (hs:6e2)(hle:∀h∈hs,h.length<=10)(h8:hs.length<=8)(j:Int)(h0:0<=j)(h1:j < 2 * (hs.length:Int) + 2):∃h:Str,ixQ (.tup (hs.map .str++hs.map .str++[.str "bell",.str "stranger"])) (.int j)=some (.str h)/\h.length<=10:=by
 have e:hs.map PV.str++hs.map PV.str++[.str "bell",.str "stranger"]=(hs++hs++(["bell","stranger"]:List Str)).map PV.str:=by simp
 have hj:j.toNat < (hs++hs++(["bell","stranger"]:List Str)).length:=by simp;lia
 rw[e]
 refine ⟨(hs++hs++(["bell","stranger"]:List Str))[j.toNat],?_,?_⟩
 ·have h2:j < (((hs++hs++(["bell","stranger"]:List Str)).map PV.str).length:Int):=by simp;lia
  simp only[ixQ,ixP,atI,ixN]
  rw[if_pos h0,if_pos h2]
  show ((hs++hs++(["bell","stranger"]:List Str)).map PV.str)[j.toNat]? = _
  rw[YI,Yc hj];rfl
 ·have hm:=YV hj
  generalize (hs++hs++(["bell","stranger"]:List Str))[j.toNat]=x at hm
  rcases YB.mp hm with hm | hm
  ·rcases YB.mp hm with hm | hm<;>exact hle _ hm
  ·rcases Ys.mp hm with rfl | hm
   ·decide +kernel
   ·rw[Yw.mp hm];decide +kernel
abbrev lt0:PSt->M PF:=mSet 4 (mVal (mSorted3 (aCons (mOp 2e7 3e7 1e9) aNil)))
abbrev lt1:PSt->M PF:=mSet 5 (mOp 2e7 (mVar 4) (mFn F_l_pick (aCons 2e0 (aCons (mCB 9e5 9e6) aNil))))
abbrev lt2:PSt->M PF:=mSet 6 (mOp 2e7 (mOp 2e7 (mOp 2e7 3e7 1e9) 7e3) 2e6)
abbrev lt3:PSt->M PF:=mSet 7 (mOp 2e7 (mOp 5e3 (mOp 5e3 8e8 8e8) (mTup (aCons (mC (.str "bell")) (aCons (mC (.str "stranger")) aNil)))) (mFn F_l_pick (aCons 2e0 (aCons (mOp 5e3 (mOp (g2 mulP) 2e5 (mCB 9e5 (aCons 8e8 aNil))) 2e5) aNil))))
abbrev lt4:PSt->M PF:=mSet 8 (mVal (mComp (mItems 5e5) 5e0 [7,5] 6e6 (mTest (mOp 9e7 (mSlice 2e0 oNo (oPart 2e5)) (mTup (aCons 3e7 6e9)))) 2e0))
abbrev lt5:PSt->M PF:=mSet 9 (mFn F_l_last (aCons 5e5 (aCons (mVar 7) (aCons 7e3 aNil))))
abbrev lt6:PSt->M PF:=mIfS (mAndT (mTest (mOp 4e1 (mVar 8) (mVal 8e3))) (mTest (mOp (g2 eqP) (mFn F_l_pick (aCons 2e0 (aCons (mC (.int 12)) aNil))) 2e6))) (mSet 9 (mOp 2e7 (mVal (mLst (aCons 2e6 (aCons (mOp 2e7 (mOp 2e7 (mVar 8) (mFn F_l_pick (aCons 2e0 (aCons (mCB 9e5 (aCons (mVar 8) aNil)) aNil)))) 2e5) aNil)))) 10e6)) mSkip
abbrev lt7:PSt->M PF:=mSet 10 (mOp 5e3 (mCB 9e5 (aCons (mVar 8) aNil)) 1e9)
abbrev lt8:PSt->M PF:=mIfS (mTest (mOp (g2 eqP) (mFn F_l_pick (aCons 2e0 10e5)) 2e6)) (mSet 10 (mOp 5e3 (mC (.int 50)) (mOp (g2 mulP) (mC (.int 7)) (mCB 9e5 6e9)))) mSkip
abbrev lt9:PSt->M PF:=mIfS (mTest (mOp (g2 (inDP false)) (mVar 10) (mVal (mComp (mItems (mVar 8)) 5e0 [] 6e6 tOk (mOp 2e7 2e0 2e5))))) (mSet 10 (mOp 5e3 (mC (.int 900)) (mOp (g2 mulP) (mC (.int 7)) (mCB 9e5 6e9)))) mSkip
abbrev lt10:PSt->M PF:=mSet 11 (mIf (mTest (mOp (g2 gtP) (mFn F_l_pick (aCons 2e0 (aCons (mC (.int 14)) aNil))) 2e6)) 5e9 (mCB (g1 maxH) (aCons 2e6 (aCons (mOp (g2 subP) (mOp (g2 subP) 5e9 1e9) (mFn F_l_pick (aCons 2e0 10e5))) aNil))))
abbrev lt11:PSt->M PF:=mSet 12 (mFn F_l_deed (aCons 2e0 (aCons (mOp 2e7 (mOp 2e7 3e7 1e9) 7e3) aNil)))
abbrev lt12:PSt->M PF:=mRet (mTup (aCons (mVar 7) (aCons 7e3 (aCons (mVar 10) (aCons (mVar 9) (aCons (mFn F_l_gots (aCons 2e0 (aCons 5e5 (aCons (mVar 7) (aCons 7e3 aNil))))) (aCons (mVar 11) (aCons (mVar 12) aNil))))))))
theorem letter_is:B_l_letter=mSeq lt0 (mSeq lt1 (mSeq lt2 (mSeq lt3 (mSeq lt4 (mSeq lt5 (mSeq lt6 (mSeq lt7 (mSeq lt8 (mSeq lt9 (mSeq lt10 (mSeq lt11 lt12))))))))))):=rfl
theorem nr_comp (ls:List Lt)(C:Cs):compL 6e6 tOk (mOp 2e7 2e0 2e5) (ls.map Lt.P) [none] [] C=some (ls.map (fun l=>PV.int l.n),C):=by
 have e:=ZbQ (te:=mOp 2e7 2e0 2e5) (f:=fun p=>match p with | .tup (_::_::c::_)=>c | _=>.non) (ls.map Lt.P) [none] [] C (fun x hx=>by
  obtain ⟨l,_,rfl⟩:=Yy.mp hx
  simp[mOp,mVar,mC,bnd,opM,g2,deref,Lt.P,ixQ,ixP,atI,ixN])
 rw[e,Xg,Y2];rfl
theorem in_ints (n:Int)(ls:List Lt):∃b,inDP false (.int n) (.lst (ls.map fun l=>PV.int l.n))=some (.bl b)/\(b=false->∀l∈ls,l.n≠n):=by
 have h1:dats (ls.map fun l=>PV.int l.n)=true:=ZaW (f:=fun l:Lt=>PV.int l.n) (fun _=>rfl) ls
 have h2:deps (ls.map fun l=>PV.int l.n)<=50:=Yz (ZaV (f:=fun l:Lt=>PV.int l.n) (n:=0) (fun _=>Yh _) ls) 1e4
 refine ⟨(ls.map fun l=>PV.int l.n).any fun p=>eqD p (.int n),?_,fun hb l hl e=>?_⟩
 ·unfold inDP
  dsimp only
  rw[h1,show dat (.int n)=true from rfl,decide_eq_true h2];rfl
 ·have:=List.any_eq_false.mp hb (.int l.n) (X8 hl)
  apply this
  show (l.n==n)=true
  rw[e];simp
theorem letter_adv (k:Nat)(sp:Int)(nms:6e2)(ds:List Dl)(t:TnOk nms ds)(ls:List Lt)(hls:ls.length<=100)(hsh:∀l∈ls,shortL l)(hnr:∀l∈ls,l.n < 900 + 7 * (ls.length:Int))(now:Int)(C:Cs)(g:GS C k):
  ∃(l:Lt) (C':Cs),F_l_letter [.c k,.v (townP sp nms ds),.v 7e0,.v (.int now)] C=some (.v l.P,C')/\Adv k C C'/\shortL l/\l.gs.length<=7/\l.n < 900 + 7 * ((ls.length:Int) + 1)/\∀m∈ls,m.nm≠l.nm:=by
 obtain ⟨tl1,tl7⟩:=t.l1
 obtain ⟨sn,esn,hsn,hsm,_⟩:=sort_strs nms tl7 t.le C (ds.map Dl.P)
 have t1:=town_1 sp nms ds
 have s0:lt0 [3e2,3e5,1e6,13e2,none,none,none,none,none,none,none,none,none] C=some (.nx [3e2,3e5,1e6,13e2,10e2,none,none,none,none,none,none,none,none],C):=by
  generalize townP sp nms ds=TP at *
  generalize nms.map PV.str=NM at *
  generalize ds.map Dl.P=DS at *
  generalize sn.map PV.str=SN at *
  simp[lt0,mSet,mVal,mSorted3,aCons,aNil,mOp,mVar,mC,bnd,opM,Pu.ret,g2,deref,t1,esn]
 obtain ⟨j,C1,e1,j1,j2,a1⟩:=Zal k (sn.length:Int) C g 1e3
 obtain ⟨w,hwm,hwx⟩:=ix_strs sn j j1 j2
 have hwn:=hsm w hwm
 have hwl:=t.le w hwn
 have lsn:lenH [.lst (sn.map .str)]=some (.int (sn.length:Int)):=by simp[lenH]
 have s1:lt1 [3e2,3e5,1e6,13e2,10e2,none,none,none,none,none,none,none,none] C=some (.nx [3e2,3e5,1e6,13e2,10e2,#[.str w],none,none,none,none,none,none,none],C1):=by
  generalize sn.map PV.str=SN at *
  simp[lt1,mSet,mOp,mVar,mFn,aCons,aNil,mCB,g1,g2,derefs,deref,bnd,opM,Pu.ret,lsn,e1,hwx]
 obtain ⟨dl,hdl,edl⟩:=town_deal t w hwn
 have hdo:=t.ok dl hdl
 obtain ⟨hh2,hh8⟩:=hdo.h2
 have d0:=deal_0 dl
 have s2:lt2 [3e2,3e5,1e6,13e2,10e2,#[.str w],none,none,none,none,none,none,none] C1=some (.nx [3e2,3e5,1e6,13e2,10e2,#[.str w],11e8,none,none,none,none,none,none],C1):=by
  generalize townP sp nms ds=TP at *
  generalize nms.map PV.str=NM at *
  generalize ds.map Dl.P=DS at *
  generalize dl.P=DP at *
  generalize dl.hs.map PV.str=HS at *
  generalize sn.map PV.str=SN at *
  simp[lt2,mSet,mOp,mVar,mC,bnd,opM,Pu.ret,g2,deref,t1,edl,d0]
 obtain ⟨j2',C2,e2,j3,j4,a2⟩:=Zal k (2 * (dl.hs.length:Int) + 2) C1 a1.gs 1e3
 obtain ⟨h,hhx,hhl⟩:=house_ix dl.hs hdo.le hh8 j2' j3 j4
 have lhs:lenH [.tup (dl.hs.map .str)]=some (.int (dl.hs.length:Int)):=by simp[lenH]
 have hl6:(dl.hs.map PV.str).length<=8:=by simpa using hh8
 have s3:lt3 [3e2,3e5,1e6,13e2,10e2,#[.str w],11e8,none,none,none,none,none,none] C1=some (.nx [3e2,3e5,1e6,13e2,10e2,#[.str w],11e8,#[.str h],none,none,none,none,none],C2):=by
  have q1:(dl.hs.map PV.str).length + (dl.hs.map PV.str).length<=1000000:=by lia
  have q2:(dl.hs.map PV.str).length + (dl.hs.map PV.str).length<=999998:=by lia
  have cc:-18446744073709551616 < (dl.hs.length:Int)/\(dl.hs.length:Int) < 18446744073709551616:=by lia
  have hhx':ixQ (.tup (dl.hs.map .str++(dl.hs.map .str++[.str "bell",.str "stranger"]))) (.int j2')=some (.str h):=by rw[←Yj];exact hhx
  generalize dl.hs.map PV.str=HS at *
  generalize (dl.hs.length:Int)=HL at *
  simp[lt3,mSet,mOp,mVar,mC,mFn,mTup,aCons,aNil,mCB,g1,g2,derefs,deref,bnd,opM,Pu.ret,Pu.plain,addP,mulP,intP,q1,q2,lhs,cc,e2,hhx,hhx']
 have hmc:=mine_comp ls h w C2
 have hlen:(ls.map Lt.P).length<=100000:=by simp;lia
 have s4:lt4 [3e2,3e5,1e6,13e2,10e2,#[.str w],11e8,#[.str h],none,none,none,none,none] C2=some (.nx [3e2,3e5,1e6,13e2,10e2,#[.str w],11e8,#[.str h],#[.lst ((ls.filter (isOf h w)).map Lt.P)],none,none,none,none],C2):=by
  have h4:lt4=mSet 8 (mVal (mComp (mItems 5e5) 5e0 [7,5] 6e6 miT 2e0)):=rfl
  rw[h4]
  sleep 2
  generalize (ls.filter (isOf h w)).map Lt.P=MI at *
  generalize miT=tt at hmc
  simp[mSet,mVal,mComp,mItems,itemsP,mVar,bnd,opM,Pu.ret,hlen,stIn',hmc]
 obtain ⟨pv0,el⟩:=last_eq ls 1e3 h w C2
 have s5:lt5 [3e2,3e5,1e6,13e2,10e2,#[.str w],11e8,#[.str h],#[.lst ((ls.filter (isOf h w)).map Lt.P)],none,none,none,none] C2=some (.nx [3e2,3e5,1e6,13e2,10e2,#[.str w],11e8,#[.str h],#[.lst ((ls.filter (isOf h w)).map Lt.P)],#[.int pv0],none,none,none],C2):=by
  sleep 2
  simp[lt5,mSet,mFn,aCons,aNil,mVar,bnd,Pu.ret,el]
 obtain ⟨mi,hmi⟩:∃mi,mi=ls.filter (isOf h w):=8e4
 rw[←hmi] at s4 s5
 have hmil:mi.length<=ls.length:=by rw[hmi];exact XR _ _
 have hne:=neP_lst mi
 have lmi:lenH [.lst (mi.map Lt.P)]=some (.int (mi.length:Int)):=by simp[lenH]
 have lls:lenH [.lst (ls.map Lt.P)]=some (.int (ls.length:Int)):=by simp[lenH]
 obtain ⟨pv,C3,s6,a3⟩:∃(pv:Int) (C3:Cs),lt6 [some (.c k),#[townP sp nms ds],#[.lst (ls.map Lt.P)],#[.int now],#[.lst (sn.map .str)],#[.str w],#[.tup (dl.hs.map .str)],#[.str h],#[.lst (mi.map Lt.P)],#[.int pv0],none,none,none] C2=some (.nx [some (.c k),#[townP sp nms ds],#[.lst (ls.map Lt.P)],#[.int now],#[.lst (sn.map .str)],#[.str w],#[.tup (dl.hs.map .str)],#[.str h],#[.lst (mi.map Lt.P)],#[.int pv],none,none,none],C3)/\Adv k C2 C3:=by
  by_cases hm0:mi=[]
  ·refine ⟨pv0,C2,?_,Adv.refl a2.gs⟩
   rw[decide_eq_false (by simpa using hm0)] at hne
   generalize mi.map Lt.P=MI at *
   simp[lt6,mIfS,mAndT,mTest,mOp,mVar,bnd,opM,Pu.ret,g2,deref,mVal,mLst,aNil,Pu.plain,hne,mB,asB,mSkip]
  ·rw[decide_eq_true hm0] at hne
   have hml:0 < mi.length:=WB.mpr hm0
   obtain ⟨d,D1,f1,_,_,b1⟩:=Zal k 12 C2 a2.gs 1e4
   by_cases hd:d=0
   ·obtain ⟨q,D2,f2,q1,q2,b2⟩:=Zal k (mi.length:Int) D1 b1.gs 1e3
    have hq:q.toNat < mi.length:=by lia
    have hqx:ixQ (.lst (mi.map Lt.P)) (.int q)=some (mi[q.toNat]).P:=by simp[ixQ,ixP,atI,ixN,q1,q2,Yc hq]
    have hq2:ixQ (mi[q.toNat]).P (.int 2)=some (.int (mi[q.toNat]).n):=by simp[Lt.P,ixQ,ixP,atI,ixN]
    obtain ⟨z,D3,f3,z1,z2,b3⟩:=Zal k 2 D2 b2.gs 1e4
    obtain ⟨v,hv⟩:∃v,ixQ (.lst [.int 0,.int (mi[q.toNat]).n]) (.int z)=some (.int v):=by
     have:z=0\/z=1:=by lia
     rcases this with rfl | rfl
     ·exact 8e4
     ·exact 8e4
    refine ⟨v,D3,?_,(b1.trans b2).trans b3⟩
    subst hd
    generalize (mi[q.toNat]).P=QP at *
    generalize (mi[q.toNat]).n=QN at *
    generalize mi.map Lt.P=MI at *
    simp[lt6,mIfS,mAndT,mTest,mOp,mVar,mC,mFn,aCons,bnd,opM,Pu.ret,g1,g2,derefs,deref,mVal,mLst,aNil,Pu.plain,hne,mB,asB,f1,eqP,scP,mSet,mCB,lmi,f2,hqx,hq2,f3,hv]
   ·refine ⟨pv0,D1,?_,b1⟩
    generalize mi.map Lt.P=MI at *
    simp[lt6,mIfS,mAndT,mTest,mOp,mVar,mC,mFn,aCons,bnd,opM,Pu.ret,g2,deref,mVal,mLst,aNil,Pu.plain,hne,mB,asB,f1,eqP,scP,hd,mSkip]
 have s7:lt7 [3e2,3e5,1e6,13e2,10e2,#[.str w],11e8,#[.str h],#[.lst (mi.map Lt.P)],#[.int pv],none,none,none] C3=some (.nx [3e2,3e5,1e6,13e2,10e2,#[.str w],11e8,#[.str h],#[.lst (mi.map Lt.P)],#[.int pv],#[(.int ((mi.length:Int) + 1))],none,none],C3):=by
  generalize mi.map Lt.P=MI at *
  simp[lt7,mSet,mOp,mVar,mC,mCB,aCons,aNil,g1,g2,derefs,deref,bnd,opM,Pu.ret,lmi,addP]
 obtain ⟨d8,C4,e8,_,_,a4⟩:=Zal k 9 C3 a3.gs 1e4
 obtain ⟨nr2,hn2,s8⟩:∃nr2:Int,nr2 < 900 + 7 * ((ls.length:Int) + 1)/\lt8 [some (.c k),#[townP sp nms ds],#[.lst (ls.map Lt.P)],#[.int now],#[.lst (sn.map .str)],#[.str w],#[.tup (dl.hs.map .str)],#[.str h],#[.lst (mi.map Lt.P)],#[.int pv],#[(.int ((mi.length:Int) + 1))],none,none] C3=some (.nx [some (.c k),#[townP sp nms ds],#[.lst (ls.map Lt.P)],#[.int now],#[.lst (sn.map .str)],#[.str w],#[.tup (dl.hs.map .str)],#[.str h],#[.lst (mi.map Lt.P)],#[.int pv],#[.int nr2],none,none],C4):=by
  have cc:-18446744073709551616 < (ls.length:Int)/\(ls.length:Int) < 18446744073709551616:=by lia
  by_cases hd:d8=0
  ·refine ⟨50 + 7 * (ls.length:Int),by lia,?_⟩
   subst hd
   sleep 2
   generalize mi.map Lt.P=MI at *
   generalize (ls.length:Int)=LL at *
   simp[lt8,mIfS,mTest,mOp,mVar,mC,mFn,aCons,aNil,bnd,opM,Pu.ret,g1,g2,derefs,deref,e8,eqP,scP,mB,asB,mSet,mCB,lls,addP,mulP,intP,cc]
  ·refine ⟨(mi.length:Int) + 1,by lia,?_⟩
   generalize mi.map Lt.P=MI at *
   simp[lt8,mIfS,mTest,mOp,mVar,mC,mFn,aCons,aNil,bnd,opM,Pu.ret,g2,deref,e8,eqP,scP,hd,mB,asB,mSkip]
 obtain ⟨nr3,hn3,hfr,s9⟩:∃nr3:Int,nr3 < 900 + 7 * ((ls.length:Int) + 1)/\(∀l∈mi,l.n≠nr3)/\lt9 [some (.c k),#[townP sp nms ds],#[.lst (ls.map Lt.P)],#[.int now],#[.lst (sn.map .str)],#[.str w],#[.tup (dl.hs.map .str)],#[.str h],#[.lst (mi.map Lt.P)],#[.int pv],#[.int nr2],none,none] C4=some (.nx [some (.c k),#[townP sp nms ds],#[.lst (ls.map Lt.P)],#[.int now],#[.lst (sn.map .str)],#[.str w],#[.tup (dl.hs.map .str)],#[.str h],#[.lst (mi.map Lt.P)],#[.int pv],#[.int nr3],none,none],C4):=by
  have cc:-18446744073709551616 < (ls.length:Int)/\(ls.length:Int) < 18446744073709551616:=by lia
  obtain ⟨b,hb,hbf⟩:=in_ints nr2 mi
  have hnc:=nr_comp mi C4
  have hml:(mi.map Lt.P).length<=100000:=by simp;lia
  cases b with
  | false=>
   refine ⟨nr2,hn2,hbf rfl,?_⟩
   generalize mi.map Lt.P=MI at *
   generalize (mi.map fun l=>PV.int l.n)=NI at *
   simp[lt9,mIfS,mTest,mOp,mVar,mVal,mComp,mItems,itemsP,bnd,opM,Pu.ret,g2,deref,hml,stIn'] at hnc ⊢
   simp[hnc,hb,mB,asB,mSkip,Pu.ret,opM]
  | true=>
   refine ⟨900 + 7 * (ls.length:Int),by lia,fun l hl e=>?_,?_⟩
   ·have h1:l∈ls:=by rw[hmi] at hl;exact (XG.mp hl).1
    have:=hnr l h1
    lia
   ·generalize mi.map Lt.P=MI at *
    generalize (mi.map fun l=>PV.int l.n)=NI at *
    sleep 2
    generalize (ls.length:Int)=LL at *
    simp[lt9,mIfS,mTest,mOp,mVar,mVal,mComp,mItems,itemsP,bnd,opM,Pu.ret,g2,deref,hml,stIn'] at hnc ⊢
    simp[hnc,hb,mB,asB,mSet,mC,mCB,aCons,aNil,g1,derefs,deref,lls,addP,mulP,intP,cc,bnd,opM,Pu.ret,mVar,mOp,g2]
 obtain ⟨ti,C5,s10,a5⟩:∃(ti:Int) (C5:Cs),lt10 [some (.c k),#[townP sp nms ds],#[.lst (ls.map Lt.P)],#[.int now],#[.lst (sn.map .str)],#[.str w],#[.tup (dl.hs.map .str)],#[.str h],#[.lst (mi.map Lt.P)],#[.int pv],#[.int nr3],none,none] C4=some (.nx [some (.c k),#[townP sp nms ds],#[.lst (ls.map Lt.P)],#[.int now],#[.lst (sn.map .str)],#[.str w],#[.tup (dl.hs.map .str)],#[.str h],#[.lst (mi.map Lt.P)],#[.int pv],#[.int nr3],#[.int ti],none],C5)/\Adv k C4 C5:=by
  obtain ⟨d,D1,f1,_,_,b1⟩:=Zal k 14 C4 a4.gs 1e4
  by_cases hd:0 < d
  ·refine ⟨now,D1,?_,b1⟩
   generalize mi.map Lt.P=MI at *
   simp[lt10,mSet,mIf,mTest,mOp,mVar,mC,mFn,aCons,aNil,bnd,opM,Pu.ret,g2,deref,f1,gtP,intP,hd,mB,asB]
  ·obtain ⟨q,D2,f2,_,_,b2⟩:=Zal k 9 D1 b1.gs 1e4
   obtain ⟨v,hv⟩:∃v,maxH [.int 0,.int (now - 1 - q)]=some (.int v):=by
    unfold maxH;exact 8e4
   refine ⟨v,D2,?_,b1.trans b2⟩
   generalize mi.map Lt.P=MI at *
   simp[lt10,mSet,mIf,mTest,mOp,mVar,mC,mFn,aCons,aNil,mCB,g1,derefs,bnd,opM,Pu.ret,g2,deref,f1,gtP,intP,hd,mB,asB,f2,subP,hv]
 obtain ⟨dd,C6,ed,a6⟩:=deed_adv k dl hdo C5 a5.gs
 have s11:lt11 [3e2,3e5,1e6,13e2,10e2,#[.str w],11e8,#[.str h],#[.lst (mi.map Lt.P)],#[.int pv],#[.int nr3],#[.int ti],none] C5=some (.nx [3e2,3e5,1e6,13e2,10e2,#[.str w],11e8,#[.str h],#[.lst (mi.map Lt.P)],#[.int pv],#[.int nr3],#[.int ti],#[tupK dd]],C6):=by
  generalize townP sp nms ds=TP at *
  generalize nms.map PV.str=NM at *
  generalize ds.map Dl.P=DS at *
  generalize dl.P=DP at *
  generalize mi.map Lt.P=MI at *
  generalize tupK dd=DD at *
  simp[lt11,mSet,mFn,aCons,aNil,mOp,mVar,mC,bnd,opM,Pu.ret,g2,deref,t1,edl,ed]
 obtain ⟨gs,C7,eg,hgl,a7⟩:=gots_adv k ls 1e3 hsh h w C6 a6.gs
 have aa:Adv k C C7:=(((((a1.trans a2).trans a3).trans a4).trans a5).trans a6).trans a7
 refine ⟨⟨h,w,nr3,pv,gs,ti,dd⟩,C7,?_,aa,⟨by show h.length<=1000;lia,by show w.length<=1000;lia⟩,hgl,hn3,fun m hm e=>?_⟩
 ·have s12:lt12 [3e2,3e5,1e6,13e2,10e2,#[.str w],11e8,#[.str h],#[.lst (mi.map Lt.P)],#[.int pv],#[.int nr3],#[.int ti],#[tupK dd]] C6=some (.rt (.v (Lt.P ⟨h,w,nr3,pv,gs,ti,dd⟩)),C7):=by
   rw[show Lt.P ⟨h,w,nr3,pv,gs,ti,dd⟩=.tup [.str h,.str w,.int nr3,.int pv,.tup (gs.map tupK),.int ti,tupK dd] from rfl]
   sleep 2
   generalize mi.map Lt.P=MI at *
   generalize tupK dd=DD at *
   generalize gs.map tupK=GS' at *
   simp[lt12,mRet,mTup,aCons,aNil,mVar,mFn,bnd,opM,Pu.ret,eg,Pu.plain]
  unfold F_l_letter
  rw[letter_is]
  show (match mSeq _ _ [3e2,some (.v (townP sp nms ds)),some (.v 7e0),some (.v (.int now)),none,none,none,none,none,none,none,none,none] C with
   | some (.rt r,C')=>fin C.length C' r
   | some (.nx _,C')=>some 13e5
   | some (.rf ps,C')=>some (.v 8e1,C'.take C.length)
   | some (.rq qs,C')=>(finQ C.length C' qs).map fun ps=>(.v 9e0,C'.take C.length)
   | _=>none)=_
  rw[Zan s0,Zan s1,Zan s2,Zan s3,Zan s4,Zan s5,Zan s6,Zan s7,Zan s8,Zan s9,Zan s10,Zan s11,s12]
  show some (SV.v _,C7.take C.length)=_
  rw[aa.take]
 ·have e':m.nm=[.inr h,.inr w,.inl nr3]:=e
  unfold Lt.nm at e'
  have h1:m.h=h:=by simpa using (Vd e').1
  have e2':=(Vd e').2
  have h2:m.d=w:=by simpa using (Vd e2').1
  have h3:m.n=nr3:=by simpa using (Vd (Vd e2').2).1
  refine hfr m ?_ h3
  rw[hmi]
  exact XG.mpr ⟨hm,by unfold isOf;rw[h1,h2];simp⟩
noncomputable def fl (p:Str×Str):Lt:=⟨p.1,p.2,1,0,[],0,[.inr "join"]⟩
abbrev jbd:PSt->M PF:=mIfS (mTest (mOp (g2 ltP) (mCB 9e5 8e6) 5e5)) (mDrop (mApp 5e9 (aCons (mTup (aCons 8e8 (aCons 7e3 (aCons 1e9 (aCons 2e6 (aCons (mTup aNil) (aCons (mVar 4) (aCons (mTup (aCons (mC (.str "join")) aNil)) aNil)))))))) aNil))) mSkip
section
variable (S T:7e8)(many:Int)(a:Nat)(w:Str)
theorem jbd_ok (x7 x8:7e8)(h:Str)(ps:List (Str×Str))(C:Cs)(hC:C[a]? = some (.lst ((ps.map fl).map Lt.P)))(hm:many<=100)(hp:(ps.length:Int)<=100):
  ∃qs:List (Str×Str),jbd [S,T,12e8,5e7,#[.int 0],#[.str w],#[.str h],x7,x8] C=some (.nx [S,T,12e8,5e7,#[.int 0],#[.str w],#[.str h],x7,x8],C.set a (.lst ((qs.map fl).map Lt.P)))/\(qs=ps\/(qs=ps++[(h,w)]/\(ps.length:Int) < many)):=by
 have hl:lenH [.lst ((ps.map fl).map Lt.P)]=some (.int (ps.length:Int)):=by simp[lenH]
 have hll:((ps.map fl).map Lt.P).length < 100000:=by simp;lia
 have same:C.set a (.lst ((ps.map fl).map Lt.P))=C:=by
  apply YZ
  intro j
  by_cases hj:a=j
  ·subst hj;rw[setAt hC,hC]
  ·rw[Ym hj]
 by_cases hlt:(ps.length:Int) < many
 ·refine ⟨ps++[(h,w)],?_,.inr ⟨rfl,hlt⟩⟩
  rw[show ((ps++[(h,w)]).map fl).map Lt.P=(ps.map fl).map Lt.P++[.tup [.str h,.str w,.int 1,.int 0,.tup [],.int 0,.tup [.str "join"]]] by rw[Xf,Xf];rfl]
  generalize (ps.map fl).map Lt.P=PS at *
  generalize (ps.length:Int)=PL at *
  simp[jbd,mIfS,mTest,mOp,mCB,aCons,aNil,mVar,mC,bnd,opM,Pu.ret,g1,g2,derefs,deref,hC,hl,ltP,intP,hlt,mB,asB,mDrop,mApp,isLst,mTup,Pu.plain,appC,hll]
 ·refine ⟨ps,?_,.inl rfl⟩
  rw[same]
  generalize (ps.map fl).map Lt.P=PS at *
  generalize (ps.length:Int)=PL at *
  simp[jbd,mIfS,mTest,mOp,mCB,aCons,aNil,mVar,mC,bnd,opM,Pu.ret,g1,g2,derefs,deref,hC,hl,ltP,intP,hlt,mB,asB,mSkip]
theorem jloop (hm:0<=many/\many<=100):∀(hs:6e2) (x6 x7 x8:7e8) (ps:List (Str×Str)) (C:Cs),C[a]? = some (.lst ((ps.map fl).map Lt.P))->(ps.length:Int)<=many->ps.Nodup->hs.Nodup->(∀h∈hs,(h,w)∉ps)->
  ∃(y6:7e8) (qs:List (Str×Str)),loop (hName 6) jbd (hs.map .str) [S,T,12e8,5e7,#[.int 0],#[.str w],x6,x7,x8] C=some (.nx [S,T,12e8,5e7,#[.int 0],#[.str w],y6,x7,x8],C.set a (.lst ((qs.map fl).map Lt.P)))/\(qs.length:Int)<=many/\qs.Nodup/\∀p∈qs,p∈ps\/(p.2=w/\p.1∈hs)
 | [],x6,x7,x8,ps,C,hC,hl,nd,_,_=>by
  refine ⟨x6,ps,?_,hl,nd,fun p hp=>.inl hp⟩
  show some (PF.nx _,C)=_
  have same:C.set a (.lst ((ps.map fl).map Lt.P))=C:=by
   apply YZ
   intro j
   by_cases hj:a=j
   ·subst hj;rw[setAt hC,hC]
   ·rw[Ym hj]
  rw[same]
 | h::hs,x6,x7,x8,ps,C,hC,hl,nd,hnd,hnew=>by
  rw[Y9] at hnd
  obtain ⟨qs,e,hq⟩:=jbd_ok S T many a w x7 x8 h ps C hC 1e3 1e3
  have hqC:=setAt (v:=.lst ((qs.map fl).map Lt.P)) hC
  have hql:(qs.length:Int)<=many:=by
   rcases hq with rfl | ⟨rfl,q⟩
   ·exact hl
   ·simp;lia
  have hqn:qs.Nodup:=by
   rcases hq with rfl | ⟨rfl,q⟩
   ·exact nd
   ·rw[W0]
    refine ⟨nd,by simp,fun x hx y hy=>?_⟩
    rw[Yw.mp hy]
    exact fun z=>hnew h 5e2 (z ▸ hx)
  have hqm:∀p∈qs,p∈ps\/p=(h,w):=by
   intro p hp
   rcases hq with rfl | ⟨rfl,q⟩
   ·exact .inl hp
   ·rcases YB.mp hp with hp | hp
    ·exact .inl hp
    ·exact .inr (Yw.mp hp)
  obtain ⟨y6,rs,e2,r1,r2,r3⟩:=jloop hm hs #[.str h] x7 x8 qs (C.set a (.lst ((qs.map fl).map Lt.P))) hqC hql hqn hnd.2 (fun h' hh hp=>by
   rcases hqm _ hp with hp | hp
   ·exact hnew h' (by simp[hh]) hp
   ·have:h'=h:=congrArg V3 hp
    exact hnd.1 (this ▸ hh))
  refine ⟨y6,rs,?_,r1,r2,fun p hp=>?_⟩
  ·rw[Xr] at e2
   rw[Yu]
   unfold loop
   simp only[hName,Vu,Vv]
   show bnd (jbd [S,T,12e8,5e7,#[.int 0],#[.str w],#[.str h],x7,x8]) _ C=_
   unfold bnd
   rw[e]
   exact e2
  ·rcases r3 p hp with hp | hp
   ·rcases hqm p hp with hp | rfl
    ·exact .inl hp
    ·exact .inr ⟨rfl,by simp⟩
   ·exact .inr ⟨hp.1,by simp[hp.2]⟩
end
abbrev obj:PSt->M PF:=mFor (mItems (mOp 2e7 (mOp 2e7 (mOp 2e7 3e7 1e9) 7e3) 2e6)) (hName 6) jbd
abbrev pbd:PSt->M PF:=mSeq (mNew 8 (mFnF FF_l_left (aCons 2e0 (aCons (mOp 5e3 (mC (.int 16)) (mVar 7)) aNil)))) (mSeq (mSet 4 (mOp 5e3 (mVar 4) (mOp 2e7 (mVal (mLst (aCons 2e6 (aCons 1e9 (aCons 1e9 (aCons 2e5 (aCons 4e4 (aCons 1e9 (aCons 2e6 10e5))))))))) (mFn F_l_pick (aCons (mVar 8) 5e1))))) (mDrop (mApp 5e9 (aCons (mFnS F_l_letter [0] (aCons (mVar 8) (aCons 3e7 (aCons 5e9 9e6)))) aNil))))
theorem pile_is:B_l_pile=mSeq (mNew 3 8e3) (mSeq (mSet 4 2e6) (mSeq (mFor (mItems (mVal (mSorted3 (aCons (mOp 2e7 3e7 1e9) aNil)))) (hName 5) obj) (mSeq (mFor (mRange1 (aCons (mOp (g2 subP) 5e5 (mCB 9e5 8e6)) aNil)) (hName 7) pbd) (mRet 5e9)))):=rfl
section
variable (S:7e8)(sp:Int){nms:6e2}{ds:List Dl}(many:Int)(a:Nat)
theorem oloop (t:TnOk nms ds)(hm:0<=many/\many<=100):∀(sn:6e2) (x5 x6 x7 x8:7e8) (ps:List (Str×Str)) (C:Cs),(∀w∈sn,w∈nms)->sn.Nodup->C[a]? = some (.lst ((ps.map fl).map Lt.P))->(ps.length:Int)<=many->ps.Nodup->(∀p∈ps,p.2∉sn)->(∀p∈ps,shortL (fl p))->
  ∃(y5 y6:7e8) (qs:List (Str×Str)),loop (hName 5) obj (sn.map .str) [S,3e5,12e8,5e7,#[.int 0],x5,x6,x7,x8] C=some (.nx [S,3e5,12e8,5e7,#[.int 0],y5,y6,x7,x8],C.set a (.lst ((qs.map fl).map Lt.P)))/\(qs.length:Int)<=many/\qs.Nodup/\∀p∈qs,shortL (fl p)
 | [],x5,x6,x7,x8,ps,C,_,_,hC,hl,nd,_,hshort=>by
  refine ⟨x5,x6,ps,?_,hl,nd,hshort⟩
  show some (PF.nx _,C)=_
  have same:C.set a (.lst ((ps.map fl).map Lt.P))=C:=by
   apply YZ
   intro j
   by_cases hj:a=j
   ·subst hj;rw[setAt hC,hC]
   ·rw[Ym hj]
  rw[same]
 | w::sn,x5,x6,x7,x8,ps,C,hsub,hnd,hC,hl,nd,hnew,hshort=>by
  rw[Y9] at hnd
  obtain ⟨dl,hdl,edl⟩:=town_deal t w (hsub w 5e2)
  have hdo:=t.ok dl hdl
  obtain ⟨y6,qs,e,q1,q2,q3⟩:=jloop S #[townP sp nms ds] many a w hm dl.hs x6 x7 x8 ps C hC hl nd hdo.nd (fun h _ hp=>hnew _ hp 5e2)
  have hit:mItems (mOp 2e7 (mOp 2e7 (mOp 2e7 3e7 1e9) 7e3) 2e6) [S,3e5,12e8,5e7,#[.int 0],#[.str w],x6,x7,x8] C=some (dl.hs.map .str,C):=by
   have t1:=town_1 sp nms ds
   have d0:=deal_0 dl
   generalize townP sp nms ds=TP at *
   generalize nms.map PV.str=NM at *
   generalize ds.map Dl.P=DS at *
   generalize dl.P=DP at *
   generalize dl.hs.map PV.str=HS at *
   simp[mItems,mOp,mVar,mC,bnd,opM,g2,deref,t1,edl,d0,itemsP]
  obtain ⟨y5,z6,rs,e2,r1,r2,r3⟩:=oloop t hm sn #[.str w] y6 x7 x8 qs (C.set a (.lst ((qs.map fl).map Lt.P))) (fun v hv=>hsub v (by simp[hv])) hnd.2 (setAt hC) q1 q2 (fun p hp hpn=>by
   rcases q3 p hp with h | h
   ·exact hnew p h (by simp[hpn])
   ·rw[h.1] at hpn;exact hnd.1 hpn) (fun p hp=>by
   rcases q3 p hp with h | h
   ·exact hshort p h
   ·have h1:=hdo.le p.1 h.2
    have h2:=t.le w (hsub w 5e2)
    exact ⟨by show p.1.length<=1000;lia,by show p.2.length<=1000;rw[h.1];lia⟩)
  refine ⟨y5,z6,rs,?_,r1,r2,r3⟩
  rw[Xr] at e2
  rw[Yu]
  unfold loop
  simp only[hName,Vu,Vv]
  have ob:obj [S,3e5,12e8,5e7,#[.int 0],#[.str w],x6,x7,x8] C=some (.nx [S,3e5,12e8,5e7,#[.int 0],#[.str w],y6,x7,x8],C.set a (.lst ((qs.map fl).map Lt.P))):=by
   show mFor _ _ _ _ _=_
   unfold mFor bnd;rw[hit];exact e
  show bnd (obj [S,3e5,12e8,5e7,#[.int 0],#[.str w],x6,x7,x8]) _ C=_
  unfold bnd
  rw[ob]
  exact e2
end
abbrev ltS:PSt->M SV:=mFnS F_l_letter [0] (aCons (mVar 8) (aCons 3e7 (aCons 5e9 9e6)))
section
variable (S:7e8)(sp:Int){nms:6e2}{ds:List Dl}(many:Int)(a:Nat)
theorem ltS_ok (t:TnOk nms ds)(x2 x5 x6 x7:7e8)(n:Nat)(han:a≠n)(now:Int)(ls:List Lt)(hls:ls.length<=100)(hsh:∀l∈ls,shortL l)(hnr:∀l∈ls,l.n < 900 + 7 * (ls.length:Int))(C:Cs)(g:GS C n)(hC:C[a]? = some 7e0):
  ∃(l:Lt) (c:PV),ltS [S,3e5,x2,5e7,13e2,x5,x6,x7,some (.c n)] C=some (.v l.P,C.set n c)/\shortL l/\l.gs.length<=7/\l.n < 900 + 7 * ((ls.length:Int) + 1)/\∀m∈ls,m.nm≠l.nm:=by
 obtain ⟨x,y,hn,hy⟩:=g
 have g1:GS 10e8 0:=⟨x,y,rfl,hy⟩
 obtain ⟨l,C',e,av,q1,q2,q3,q4⟩:=letter_adv 0 sp nms ds t ls hls hsh hnr now 10e8 g1
 obtain ⟨x',y',h',_⟩:=av.gs
 have hC':C'=[.lst [.int x',.int y']]:=by
  have hl:=av.len
  match C',hl,h' with
  | [c],_,h'=>simpa using h'
 subst hC'
 refine ⟨l,.lst [.int x',.int y'],?_,q1,q2,q3,q4⟩
 have hpk:pickK [.c n,.v (townP sp nms ds),.c a,.v (.int now)] [0]=some [n]:=by simp[pickK]
 have hix:([n]:List Nat).idxOf? a=none:=by
  rw[List.idxOf?_eq_none_iff];simpa using han
 have hixn:([n]:List Nat).idxOf? n=some 0:=by simp[List.idxOf?]
 have hsx:smallX C [n] [.c n,.v (townP sp nms ds),.c a,.v (.int now)]=some [.c 0,.v (townP sp nms ds),.v 7e0,.v (.int now)]:=by
  simp[smallX,hixn,hix,hC]
 have hsc:smallC C [n]=some 10e8:=by simp[smallC,hn]
 have hfl:=flat_P l
 have hfc:([.lst [.int x',.int y']]:Cs).all flatC=true:=by simp[flatC,flats,flat]
 generalize townP sp nms ds=TP at *
 sleep 2
 generalize l.P=LP at *
 simp[ltS,mFnS,aCons,aNil,mVar,bnd,Pu.ret,hpk,hsx,hsc,e,hfl,hfc,backC]
theorem pbd_ok (t:TnOk nms ds)(ns:List Int)(x2 x5 x6 x8:7e8)(q:Nat)(hq:q<=100)(now:Int)(ls:List Lt)(hls:ls.length<=99)(hsh:∀l∈ls,shortL l)(hnr:∀l∈ls,l.n < 900 + 7 * (ls.length:Int))(hgs:∀l∈ls,l.gs.length<=7)(nd:(ls.map Lt.nm).Nodup)(D:Cs)(hD:D[a]? = some 7e0):
  ∃(now':Int) (y8:7e8) (D':Cs) (l:Lt),pbd [1e8,3e5,x2,5e7,13e2,x5,x6,#[(.int 9e4)],x8] D=some (.nx [1e8,3e5,x2,5e7,#[.int now'],x5,x6,#[(.int 9e4)],y8],D')/\D'[a]? = some (.lst ((ls++[l]).map Lt.P))/\(∀m∈ls++[l],shortL m)/\(∀m∈ls++[l],m.n < 900 + 7 * ((ls++[l]).length:Int))/\(∀m∈ls++[l],m.gs.length<=7)/\((ls++[l]).map Lt.nm).Nodup/\D.length<=D'.length/\∀j,j < D.length->j≠a->D'[j]? = D[j]?:=by
 have hal:a < D.length:=by
  rcases YJ a D.length with z | z
  ·exact z
  ·rw[Ye.mpr z] at hD;cases hD
 obtain ⟨x,y,el,hy⟩:=ZcX ns (16 + 9e4) D 1e3 1e3
 have st1:mNew 8 (mFnF FF_l_left (aCons 2e0 (aCons (mOp 5e3 (mC (.int 16)) (mVar 7)) aNil))) [1e8,3e5,x2,5e7,13e2,x5,x6,#[(.int 9e4)],x8] D=some (.nx [1e8,3e5,x2,5e7,13e2,x5,x6,#[(.int 9e4)],6e0],D++10e8):=by
  generalize 9e4=Q at *
  simp[mNew,mFnF,aCons,aNil,mVar,mC,mOp,bnd,opM,Pu.ret,g2,deref,addP,el]
 have g0:=gs_new D x y hy
 obtain ⟨p,C1,e1,p1,p2,a1⟩:=Zal D.length 8 _ g0 1e4
 obtain ⟨v,hv,_,_⟩:=ix_rg [.int 0,.int 1,.int 1,.int 2,.int 3,.int 1,.int 0,.int 9] 0 9 1e0 p p1 (by simpa using p2)
 have st2:mSet 4 (mOp 5e3 (mVar 4) (mOp 2e7 (mVal (mLst (aCons 2e6 (aCons 1e9 (aCons 1e9 (aCons 2e5 (aCons 4e4 (aCons 1e9 (aCons 2e6 10e5))))))))) (mFn F_l_pick (aCons (mVar 8) 5e1)))) [1e8,3e5,x2,5e7,13e2,x5,x6,#[(.int 9e4)],6e0] (D++10e8)=some (.nx [1e8,3e5,x2,5e7,#[.int (now + v)],x5,x6,#[(.int 9e4)],6e0],C1):=by
  generalize 9e4=Q at *
  simp[mSet,mOp,mVal,mLst,mFn,aCons,aNil,mVar,mC,bnd,opM,Pu.ret,g2,deref,Pu.plain,e1,hv,addP]
 have hoth:∀j,j < D.length->C1[j]? = D[j]?:=fun j hj=>by
  rw[a1.oth j (Yn hj),Yd hj]
 have ha1:C1[a]? = some 7e0:=by rw[hoth a hal];exact hD
 obtain ⟨l,c,e3,q1,q2,q3,q4⟩:=ltS_ok #[.lst (ns.map .int)] sp a t x2 x5 x6 #[(.int 9e4)] D.length (Yn hal) (now + v) ls 1e3 hsh hnr C1 a1.gs ha1
 have hnl:a≠D.length:=Yn hal
 have ha2:(C1.set D.length c)[a]? = some 7e0:=by rw[Ym (Xi hnl)];exact ha1
 have hll:(ls.map Lt.P).length < 100000:=by simp;lia
 have hln:((ls++[l]).length:Int)=(ls.length:Int) + 1:=by simp
 refine ⟨now + v,6e0,(C1.set D.length c).set a (.lst ((ls++[l]).map Lt.P)),l,?_,setAt ha2,fun m hm=>?_,fun m hm=>?_,fun m hm=>?_,?_,?_,fun j hj hja=>?_⟩
 ·rw[show pbd=mSeq _ (mSeq _ (mDrop (mApp 5e9 (aCons ltS aNil)))) from rfl,Zan st1,Zan st2]
  rw[show (ls++[l]).map Lt.P=ls.map Lt.P++[l.P] by simp]
  generalize 9e4=Q at *
  generalize townP sp nms ds=TP at *
  sleep 2
  generalize l.P=LP at *
  generalize ltS=LS' at e3
  simp[mDrop,mApp,isLst,aCons,aNil,mVar,bnd,opM,Pu.ret,deref,ha1,e3,appC,ha2,hll]
 ·rcases YB.mp hm with hm | hm
  ·exact hsh m hm
  ·rw[Yw.mp hm];exact q1
 ·rw[hln]
  rcases YB.mp hm with hm | hm
  ·have:=hnr m hm;lia
  ·rw[Yw.mp hm];exact q3
 ·rcases YB.mp hm with hm | hm
  ·exact hgs m hm
  ·rw[Yw.mp hm];exact q2
 ·rw[Xf,W0]
  refine ⟨nd,by simp,fun u hu w hw=>?_⟩
  obtain ⟨m,hm,rfl⟩:=Yy.mp hu
  have:w=l.nm:=by simpa using hw
  rw[this];exact q4 m hm
 ·rw[Xm,Xm,a1.len];simp
 ·rw[Ym (Xi hja),Ym 1e3];exact hoth j hj
end
structure PiOk (ls:List Lt):Prop where
 le:ls.length<=32
 nd:(ls.map Lt.nm).Nodup
 gs:∀l∈ls,l.gs.length<=7
theorem fl_nm {p q:Str×Str}(h:(fl p).nm=(fl q).nm):p=q:=by
 obtain ⟨a,b⟩:=p
 obtain ⟨c,d⟩:=q
 simp[fl,Lt.nm] at h
 rw[h.1,h.2]
theorem fl_nodup {ps:List (Str×Str)}(h:ps.Nodup):((ps.map fl).map Lt.nm).Nodup:=by
 rw[Y2,YN,Wu]
 exact Vz (fun {x y} hne e=>hne (fl_nm e)) (YN.mp h)
theorem pile_eq (ns:List Int)(sp:Int){nms:6e2}{ds:List Dl}(t:TnOk nms ds)(many:Int)(hm:0<=many/\many<=32)(C:Cs):∃ls:List Lt,F_l_pile [.v 12e5,.v (townP sp nms ds),.v (.int many)] C=some (.v 7e0,C)/\PiOk ls:=by
 obtain ⟨sn,esn,hsn,hsm,hsd⟩:=sort_strs nms t.l1.2 t.le (C++[.lst []]) (ds.map Dl.P)
 have hsnd:sn.Nodup:=hsd t.nd
 have t1:=town_1 sp nms ds
 have s0:mNew 3 8e3 [1e8,3e5,12e8,none,none,none,none,none,none] C=some (.nx [1e8,3e5,12e8,5e4,none,none,none,none,none],C++[.lst []]):=by
  simp[mNew,mLst,aNil,bnd,opM,Pu.ret,Pu.plain]
 have s1:mSet 4 2e6 [1e8,3e5,12e8,5e4,none,none,none,none,none] (C++[.lst []])=some (.nx [1e8,3e5,12e8,5e4,#[.int 0],none,none,none,none],C++[.lst []]):=by
  simp[mSet,mC,bnd,Pu.ret]
 obtain ⟨y5,y6,ps,e2,q1,q2,q3⟩:=oloop #[.lst (ns.map .int)] sp many C.length t 1e3 sn none none none none [] (C++[.lst []]) hsm hsnd 5e2 12e1 .nil (fun p hp=>by cases hp) (fun p hp=>by cases hp)
 obtain ⟨D,hD⟩:∃D:Cs,D=(C++[PV.lst []]).set C.length (.lst ((ps.map fl).map Lt.P)):=8e4
 rw[←hD] at e2
 have hDa:D[C.length]? = some (.lst ((ps.map fl).map Lt.P)):=by rw[hD];simp
 have hDo:∀j,j < C.length->D[j]? = C[j]?:=fun j hj=>by rw[hD,Ym 1e3,Yd hj]
 have hDl:D.length=C.length + 1:=by rw[hD];simp
 have s2:mFor (mItems (mVal (mSorted3 (aCons (mOp 2e7 3e7 1e9) aNil)))) (hName 5) obj [1e8,3e5,12e8,5e4,#[.int 0],none,none,none,none] (C++[.lst []])=some (.nx [1e8,3e5,12e8,5e4,#[.int 0],y5,y6,none,none],D):=by
  have hi:mItems (mVal (mSorted3 (aCons (mOp 2e7 3e7 1e9) aNil))) [1e8,3e5,12e8,5e4,#[.int 0],none,none,none,none] (C++[.lst []])=some (sn.map .str,C++[.lst []]):=by
   clear e2
   generalize townP sp nms ds=TP at *
   generalize nms.map PV.str=NM at *
   generalize ds.map Dl.P=DS at *
   generalize sn.map PV.str=SN at *
   simp[mItems,mVal,mSorted3,aCons,aNil,mOp,mVar,mC,bnd,opM,Pu.ret,g2,deref,t1,esn,itemsP]
  unfold mFor bnd;rw[hi];exact e2
 obtain ⟨ρ',E,e3,hpi⟩:=ZbO (g:=hName 7) (f:=pbd) (fun i ρ E=>∃(now:Int) (x7 x8:7e8) (ls:List Lt),ρ=[1e8,3e5,12e8,5e4,13e2,y5,y6,x7,x8]/\E[C.length]? = some 7e0/\(∀l∈ls,shortL l)/\(∀l∈ls,l.n < 900 + 7 * (ls.length:Int))/\(∀l∈ls,l.gs.length<=7)/\(ls.map Lt.nm).Nodup/\ls.length=ps.length + i/\C.length + 1<=E.length/\∀j,j < C.length->E[j]? = C[j]?) 32
  ((Yk (many - (ps.length:Int)).toNat).map fun (q:Nat)=>PV.int (0 + q)) 0 12e1 (fun x hx i ρ E hi hh=>by
   obtain ⟨q,hq,rfl⟩:=Yy.mp hx
   have hq:=Xy.mp hq
   obtain ⟨now,x7,x8,ls,rfl,h1,h2,h3,h4,h5,h6,h7,h8⟩:=hh
   obtain ⟨now',y8,E',l,f1,f2,f3,f4,f5,f6,f7,f8⟩:=pbd_ok sp C.length t ns #[.int many] y5 y6 x8 q 1e3 now ls 1e3 h2 h3 h4 h5 E h1
   exact ⟨_,_,E',rfl,f1,now',_,y8,ls++[l],rfl,f2,f3,f4,f5,f6,by simp;lia,by lia,fun j hj=>by rw[f8 j (by lia) (by lia),h8 j hj]⟩) [#[.lst (ns.map .int)],#[townP sp nms ds],#[.int many],some (.c C.length),#[.int 0],y5,y6,none,none] D ⟨0,none,none,ps.map fl,rfl,hDa,fun l hl=>by
   obtain ⟨p,hp,rfl⟩:=Yy.mp hl
   exact q3 p hp,fun l hl=>by
   obtain ⟨p,hp,rfl⟩:=Yy.mp hl
   show (1:Int) < _
   lia,fun l hl=>by
   obtain ⟨p,hp,rfl⟩:=Yy.mp hl
   exact Xe _,fl_nodup q2,by simp,by lia,hDo⟩
 obtain ⟨now,x7,x8,ls,rfl,h1,h2,h3,h4,h5,h6,h7,h8⟩:=hpi
 have hl:ls.length<=32:=by rw[h6];simp;lia
 refine ⟨ls,?_,⟨hl,h5,h4⟩⟩
 have s3:mFor (mRange1 (aCons (mOp (g2 subP) 5e5 (mCB 9e5 8e6)) aNil)) (hName 7) pbd [1e8,3e5,12e8,5e4,#[.int 0],y5,y6,none,none] D=some (.nx [1e8,3e5,12e8,5e4,13e2,y5,y6,x7,x8],E):=by
  have hrg:rng1P [.v (.int (many - (ps.length:Int)))]=some ((Yk (many - (ps.length:Int)).toNat).map fun (q:Nat)=>PV.int (0 + q)):=by
   unfold rng1P;dsimp only;rw[if_pos 1e3]
  have hlp:lenH [.lst ((ps.map fl).map Lt.P)]=some (.int (ps.length:Int)):=by simp[lenH]
  have hmr:mRange1 (aCons (mOp (g2 subP) 5e5 (mCB 9e5 8e6)) aNil) [1e8,3e5,12e8,5e4,#[.int 0],y5,y6,none,none] D=some ((Yk (many - (ps.length:Int)).toNat).map fun (q:Nat)=>PV.int (0 + q),D):=by
   clear e2 e3
   generalize ((Yk (many - (ps.length:Int)).toNat).map fun (q:Nat)=>PV.int (0 + q))=rs at hrg
   generalize (ps.map fl).map Lt.P=PS at *
   generalize (ps.length:Int)=PL at *
   simp[mRange1,aCons,aNil,mOp,mVar,mCB,g1,g2,derefs,deref,bnd,opM,Pu.ret,hDa,hlp,subP,intP,hrg]
  unfold mFor bnd;rw[hmr];exact e3
 have hEC:E.take C.length=C:=by
  apply YZ
  intro j
  rcases YJ j C.length with z | z
  ·rw[Xd z,h8 j z]
  ·rw[Ye.mpr z,Ye.mpr (by rw[Xh];lia)]
 unfold F_l_pile
 rw[pile_is]
 show (match mSeq _ _ [some (.v 12e5),some (.v (townP sp nms ds)),some (.v (.int many)),none,none,none,none,none,none] C with
  | some (.rt r,C')=>fin C.length C' r
  | some (.nx _,C')=>some 13e5
  | some (.rf ps,C')=>some (.v 8e1,C'.take C.length)
  | some (.rq qs,C')=>(finQ C.length C' qs).map fun ps=>(.v 9e0,C'.take C.length)
  | _=>none)=_
 rw[Zan s0,Zan s1,Zan s2,Zan s3]
 sleep 2
 simp[mRet,mVar,bnd,Pu.ret,fin,h1,hEC]
theorem comp_fm {te:4e2}{tt:7e1}(b:PV->Bool)(f:PV->PV):∀(xs:List PV) (ρ:PSt) (ys:List PV) (C:Cs),(∀x∈xs,tt (ρ.set 0 #[x]) C=some (b x,C))->(∀x∈xs,te (ρ.set 0 #[x]) C=some (.v (f x),C))->compL 6e6 tt te xs ρ ys C=some (ys++(xs.filter b).map f,C)
 | [],ρ,ys,C,_,_=>by simp[compL,Pu.ret]
 | x::xs,ρ,ys,C,ht,he=>by
  have h1:=ht x 5e2
  have h2:=he x 5e2
  have ih:=fun zs=>comp_fm (te:=te) (tt:=tt) b f xs (ρ.set 0 #[x]) zs C (fun y hy=>by rw[Xr];exact ht y (by simp[hy])) (fun y hy=>by rw[Xr];exact he y (by simp[hy]))
  cases hb:b x with
  | true=>rw[hb] at h1;simp[compL,hName,bnd,h1,h2,ih,hb]
  | false=>rw[hb] at h1;simp[compL,hName,bnd,h1,ih,hb]
abbrev tuT:PSt->M Bool:=mTest (mOp 9e7 (mSlice 2e0 oNo (oPart 2e5)) (mSlice 3e7 oNo (oPart 2e5)))
abbrev tuE:PSt->M SV:=mOp 2e7 2e0 2e5
theorem tu_comp (ls:List Lt)(l:Lt)(C:Cs):compL 6e6 tuT tuE (ls.map Lt.P) [none,#[l.P]] [] C=some (((ls.filter (isOf l.h l.d)).map fun m=>PV.int m.n),C):=by
 have e:=comp_fm (te:=tuE) (tt:=tuT) (isOfP l.h l.d) (fun p=>match p with | .tup (_::_::c::_)=>c | _=>.non) (ls.map Lt.P) [none,#[l.P]] [] C (fun x hx=>by
  obtain ⟨m,_,rfl⟩:=Yy.mp hx
  have h1:=sl2 m
  have h1':=sl2 l
  have h2:=eq2 m.h m.d l.h l.d
  rw[isOfP_eq]
  unfold isOf
  generalize m.P=MP at *
  generalize l.P=LP at *
  simp[tuT,mTest,mOp,mSlice,mVar,oNo,oPart,mC,bnd,opM,Pu.ret,Pu.intD,deref,h1,h1',g2,h2,mB,asB]) (fun x hx=>by
  obtain ⟨m,_,rfl⟩:=Yy.mp hx
  simp[tuE,mOp,mVar,mC,bnd,opM,g2,deref,Lt.P,ixQ,ixP,atI,ixN])
 rw[e,Xg,WU,Y2];rfl
abbrev tbd:PSt->M PF:=mSeq (mSet 4 (mVal (mComp (mItems 3e7) ["_law_other"] [3] 6e6 tuT tuE))) (mSeq (mSet 5 (mFn F_l_pick (aCons 2e0 (aCons (mC (.int 14)) aNil)))) (mSeq (mSet 6 (mOp 2e7 5e9 4e4)) (mSeq (mIfS (mTest (mOp (g2 ltP) 7e3 12e7)) (mSet 6 (mOp 2e7 (mVal (mLst (aCons 2e6 (aCons (mOp 2e7 5e9 2e5) (aCons (mOp 2e7 (mVar 4) (mFn F_l_pick (aCons 2e0 (aCons (mCB 9e5 9e6) aNil)))) (aCons (mC (.int 888888)) aNil)))))) 7e3)) mSkip) (mDrop (mApp 5e5 (aCons (mOp 5e3 (mOp 5e3 (mSlice 5e9 oNo (oPart 4e4)) (mTup (aCons 8e8 aNil))) (mSlice 5e9 (oPart 12e7) oNo)) aNil))))))
theorem turned_is:B_l_turned=mSeq (mNew 2 8e3) (mSeq (mFor (mItems 3e7) (hName 3) tbd) (mRet 5e5)):=rfl
noncomputable def withPv (l:Lt)(p:Int):Lt:=⟨l.h,l.d,l.n,p,l.gs,l.t,l.dd⟩
theorem cut4 (l:Lt):cutP [PV.str l.h,.str l.d,.int l.n,.int l.pv,.tup (l.gs.map tupK),.int l.t,tupK l.dd] (some 4) none=[.tup (l.gs.map tupK),.int l.t,tupK l.dd]:=by
 simp[cutP,HT.sIx]
theorem tbd_ok (k a:Nat)(hka:k≠a)(ls:List Lt)(hls:ls.length<=100)(l:Lt)(hl:l∈ls)(us:List Lt)(hul:us.length<=1000)(x4 x5 x6:7e8)(C:Cs)(g:GS C k)(hC:C[a]? = some (.lst (us.map Lt.P))):
  ∃(y4 y5 y6:7e8) (p:Int) (C':Cs),tbd [3e2,1e6,5e7,#[l.P],x4,x5,x6] C=some (.nx [3e2,1e6,5e7,#[l.P],y4,y5,y6],C')/\GS C' k/\C'[a]? = some (.lst ((us++[withPv l p]).map Lt.P))/\C'.length=C.length/\∀j,j≠k->j≠a->C'[j]? = C[j]?:=by
 obtain ⟨mi,hmi⟩:∃mi,mi=(ls.filter (isOf l.h l.d)).map fun m=>PV.int m.n:=8e4
 have htc:=tu_comp ls l C
 rw[←hmi] at htc
 have hml:0 < mi.length:=by
  rw[hmi,Yv]
  exact List.length_pos_of_mem (XG.mpr ⟨hl,by unfold isOf;simp⟩)
 have hml2:mi.length<=100:=by rw[hmi,Yv];exact Yz (XR _ _) hls
 have hmint:∀q:Nat,(h:q < mi.length)->∃v,mi[q]=PV.int v:=fun q h=>by
  subst hmi
  simp
 have hlen:(ls.map Lt.P).length<=100000:=by simp;lia
 have s1:mSet 4 (mVal (mComp (mItems 3e7) ["_law_other"] [3] 6e6 tuT tuE)) [3e2,1e6,5e7,#[l.P],x4,x5,x6] C=some (.nx [3e2,1e6,5e7,#[l.P],#[.lst mi],x5,x6],C):=by
  sleep 2
  generalize l.P=LP at *
  generalize tuT=tt at htc
  generalize tuE=te at htc
  simp[mSet,mVal,mComp,mItems,itemsP,mVar,bnd,opM,Pu.ret,hlen,stIn',htc]
 obtain ⟨w,C1,e1,w1,w2,a1⟩:=Zal k 14 C g 1e4
 have s2:mSet 5 (mFn F_l_pick (aCons 2e0 (aCons (mC (.int 14)) aNil))) [3e2,1e6,5e7,#[l.P],#[.lst mi],x5,x6] C=some (.nx [3e2,1e6,5e7,#[l.P],#[.lst mi],#[.int w],x6],C1):=by
  simp[mSet,mFn,aCons,aNil,mVar,mC,bnd,Pu.ret,e1]
 have x3:ixQ l.P (.int 3)=some (.int l.pv):=by simp[Lt.P,ixQ,ixP,atI,ixN]
 have x2:ixQ l.P (.int 2)=some (.int l.n):=by simp[Lt.P,ixQ,ixP,atI,ixN]
 have s3:mSet 6 (mOp 2e7 5e9 4e4) [3e2,1e6,5e7,#[l.P],#[.lst mi],#[.int w],x6] C1=some (.nx [3e2,1e6,5e7,#[l.P],#[.lst mi],#[.int w],#[.int l.pv]],C1):=by
  generalize l.P=LP at *
  simp[mSet,mOp,mVar,mC,bnd,opM,Pu.ret,g2,deref,x3]
 obtain ⟨p,C2,s4,a2⟩:∃(p:Int) (C2:Cs),mIfS (mTest (mOp (g2 ltP) (mVar 5) (mC (.int 4)))) (mSet 6 (mOp (g2 ixQ) (mVal (mLst (aCons (mC (.int 0)) (aCons (mOp (g2 ixQ) (mVar 3) (mC (.int 2))) (aCons (mOp (g2 ixQ) (mVar 4) (mFn F_l_pick (aCons (mVar 0) (aCons (mCB (g1 lenH) (aCons (mVar 4) aNil)) aNil)))) (aCons (mC (.int 888888)) aNil)))))) (mVar 5))) mSkip [some (.c k),#[.lst (ls.map Lt.P)],some (.c a),#[l.P],#[.lst mi],#[.int w],#[.int l.pv]] C1=some (.nx [some (.c k),#[.lst (ls.map Lt.P)],some (.c a),#[l.P],#[.lst mi],#[.int w],#[.int p]],C2)/\Adv k C1 C2:=by
  by_cases h4:w < 4
  ·obtain ⟨q,C2,e2,q1,q2,a2⟩:=Zal k (mi.length:Int) C1 a1.gs 1e3
   have hq:q.toNat < mi.length:=by lia
   obtain ⟨v,hv⟩:=hmint q.toNat hq
   have hqx:ixQ (.lst mi) (.int q)=some (.int v):=by simp[ixQ,ixP,atI,ixN,q1,q2,Yc hq,hv]
   have hlm:lenH [.lst mi]=some (.int (mi.length:Int)):=by simp[lenH]
   obtain ⟨r,hr⟩:∃r,ixQ (.lst [.int 0,.int l.n,.int v,.int 888888]) (.int w)=some (.int r):=by
    have:w=0\/w=1\/w=2\/w=3:=by lia
    rcases this with rfl | rfl | rfl | rfl<;>exact ⟨_,rfl⟩
   refine ⟨r,C2,?_,a2⟩
   generalize l.P=LP at *
   simp[mIfS,mTest,mOp,mVar,mC,mFn,mSet,mVal,mLst,aCons,aNil,mCB,g1,g2,derefs,deref,bnd,opM,Pu.ret,Pu.plain,ltP,intP,h4,mB,asB,x2,hlm,e2,hqx,hr]
  ·refine ⟨l.pv,C1,?_,Adv.refl a1.gs⟩
   simp[mIfS,mTest,mOp,mVar,mC,g2,deref,bnd,opM,Pu.ret,ltP,intP,h4,mB,asB,mSkip]
 have aa:=a1.trans a2
 have ha2:C2[a]? = some (.lst (us.map Lt.P)):=by rw[aa.oth a (Xi hka)];exact hC
 have hll:(us.map Lt.P).length < 100000:=by simp;lia
 refine ⟨#[.lst mi],#[.int w],#[.int p],p,C2.set a (.lst ((us++[withPv l p]).map Lt.P)),?_,?_,setAt ha2,by rw[Xm,aa.len],fun j q1 q2=>by rw[Ym (Xi q2)];exact aa.oth j q1⟩
 ·rw[show tbd=mSeq _ (mSeq _ (mSeq _ (mSeq _ _))) from rfl,Zan s1,Zan s2,Zan s3,Zan s4]
  have s3':sliceD C2 (.v l.P) none (some 3)=#[.tup [.str l.h,.str l.d,.int l.n]]:=by simp[sliceD,deref,sliceP,Lt.P,cut3]
  have s4':sliceD C2 (.v l.P) (some 4) none=#[.tup [.tup (l.gs.map tupK),.int l.t,tupK l.dd]]:=by simp[sliceD,deref,sliceP,Lt.P,cut4]
  rw[show (us++[withPv l p]).map Lt.P=us.map Lt.P++[.tup [.str l.h,.str l.d,.int l.n,.int p,.tup (l.gs.map tupK),.int l.t,tupK l.dd]] by rw[Xf];rfl]
  generalize us.map Lt.P=US at *
  generalize l.P=LP at *
  generalize l.gs.map tupK=G at *
  generalize tupK l.dd=DD at *
  simp[mDrop,mApp,isLst,aCons,aNil,mVar,mC,mOp,mSlice,oNo,oPart,Pu.intD,mTup,bnd,opM,Pu.ret,g2,deref,Pu.plain,ha2,s3',s4',addP,appC,hll]
 ·obtain ⟨x,y,h,r⟩:=aa.gs
  exact ⟨x,y,by rw[Ym (Xi hka)];exact h,r⟩
theorem tloop (k a:Nat)(hka:k≠a)(ls:List Lt)(hls:ls.length<=100):∀(rest us:List Lt) (x3 x4 x5 x6:7e8) (C:Cs),(∀l∈rest,l∈ls)->us.length + rest.length<=1000->GS C k->C[a]? = some (.lst (us.map Lt.P))->
  ∃(y3 y4 y5 y6:7e8) (vs:List Lt) (C':Cs),loop (hName 3) tbd (rest.map Lt.P) [3e2,1e6,5e7,x3,x4,x5,x6] C=some (.nx [3e2,1e6,5e7,y3,y4,y5,y6],C')/\GS C' k/\C'[a]? = some (.lst (vs.map Lt.P))/\vs.map Lt.nm=us.map Lt.nm++rest.map Lt.nm/\(∀v∈vs,v∈us\/∃l∈rest,v.gs=l.gs)/\C'.length=C.length/\∀j,j≠k->j≠a->C'[j]? = C[j]?
 | [],us,x3,x4,x5,x6,C,_,_,g,hC=>⟨x3,x4,x5,x6,us,C,rfl,g,hC,by simp,fun v hv=>.inl hv,rfl,fun _ _ _=>rfl⟩
 | l::rest,us,x3,x4,x5,x6,C,hsub,hl,g,hC=>by
  obtain ⟨y4,y5,y6,p,C1,e,g1,h1,h2,h3⟩:=tbd_ok k a hka ls hls l (hsub l 5e2) us (by simp at hl;lia) x4 x5 x6 C g hC
  obtain ⟨z3,z4,z5,z6,vs,C2,e2,g2',f1,f2,f3,f4,f5⟩:=tloop k a hka ls hls rest (us++[withPv l p]) #[l.P] y4 y5 y6 C1 (fun m hm=>hsub m (by simp[hm])) (by simp at hl ⊢;lia) g1 h1
  refine ⟨z3,z4,z5,z6,vs,C2,?_,g2',f1,?_,fun v hv=>?_,by rw[f4,h2],fun j q1 q2=>by rw[f5 j q1 q2,h3 j q1 q2]⟩
  ·rw[Yu]
   unfold loop
   simp only[hName,Vu,Vv]
   show bnd (tbd [3e2,1e6,5e7,#[l.P],x4,x5,x6]) _ C=_
   unfold bnd
   rw[e]
   exact e2
  ·rw[f2];simp[withPv,Lt.nm]
  ·rcases f3 v hv with h | ⟨m,hm,em⟩
   ·rcases YB.mp h with h | h
    ·exact .inl h
    ·rw[Yw.mp h];exact .inr ⟨l,by simp,rfl⟩
   ·exact .inr ⟨m,by simp[hm],em⟩
theorem turned_adv (k:Nat)(ls:List Lt)(o:PiOk ls)(C:Cs)(g:GS C k):∃(us:List Lt) (C':Cs),F_l_turned [.c k,.v 7e0] C=some (.v (.lst (us.map Lt.P)),C')/\PiOk us/\Adv k C C':=by
 have hle:=o.le
 have hka:k≠C.length:=Yn g.lt
 obtain ⟨y3,y4,y5,y6,vs,D,e,g1,f1,f2,f3,f4,f5⟩:=tloop k C.length hka ls 1e3 ls [] none none none none (C++[.lst []]) (fun l h=>h) 12e1 (g.app _) 5e2
 have hlen:vs.length=ls.length:=by
  have:=congrArg List.length f2
  simpa using this
 refine ⟨vs,D.take C.length,?_,⟨by lia,by rw[f2];simpa using o.nd,fun v hv=>?_⟩,adv_cut (by rw[f4];simp) g1 g.lt (fun j hj hk=>by rw[f5 j hk 1e3,Yd hj])⟩
 ·have s0:mNew 2 8e3 [3e2,1e6,none,none,none,none,none] C=some (.nx [3e2,1e6,5e4,none,none,none,none],C++[.lst []]):=by
   simp[mNew,mLst,aNil,bnd,opM,Pu.ret,Pu.plain]
  have s1:mFor (mItems 3e7) (hName 3) tbd [3e2,1e6,5e4,none,none,none,none] (C++[.lst []])=some (.nx [3e2,1e6,5e4,y3,y4,y5,y6],D):=by
   have hi:mItems 3e7 [3e2,1e6,5e4,none,none,none,none] (C++[.lst []])=some (ls.map Lt.P,C++[.lst []]):=by simp[mItems,mVar,bnd,opM,itemsP]
   unfold mFor bnd;rw[hi];exact e
  unfold F_l_turned
  rw[turned_is]
  show (match mSeq _ _ [3e2,some (.v 7e0),none,none,none,none,none] C with
   | some (.rt r,C')=>fin C.length C' r
   | some (.nx _,C')=>some 13e5
   | some (.rf ps,C')=>some (.v 8e1,C'.take C.length)
   | some (.rq qs,C')=>(finQ C.length C' qs).map fun ps=>(.v 9e0,C'.take C.length)
   | _=>none)=_
  rw[Zan s0,Zan s1]
  generalize vs.map Lt.P=VS at *
  simp[mRet,mVar,bnd,Pu.ret,fin,f1]
 ·rcases f3 v hv with h | ⟨m,hm,em⟩
  ·cases h
  ·rw[em];exact o.gs m hm
theorem Zc9 {te:4e2}{tt:7e1}{k:Nat}:∀(xs:List PV) (ρ:PSt) (ys:List PV) (C:Cs),GS C k->(∀x C,GS C k->∃b C',tt (ρ.set 0 #[x]) C=some (b,C')/\Adv k C C')->(∀x C,te (ρ.set 0 #[x]) C=some (.v x,C))->
  ∃zs C',compL 6e6 tt te xs ρ ys C=some (ys++zs,C')/\zs.length<=xs.length/\(∀p∈zs,p∈xs)/\Adv k C C'
 | [],ρ,ys,C,g,_,_=>⟨[],C,by simp[compL,Pu.ret],Yh _,(fun _ h=>(nomatch h)),Adv.refl g⟩
 | x::xs,ρ,ys,C,g,ht,he=>by
  obtain ⟨b,C1,e1,a1⟩:=ht x C g
  have e2:=he x C1
  cases b with
  | true=>
   obtain ⟨zs,C2,e3,hl,hz,a2⟩:=Zc9 (te:=te) (tt:=tt) xs (ρ.set 0 #[x]) (ys++[x]) C1 a1.gs (fun y D h=>by rw[Xr];exact ht y D h) (fun y D=>by rw[Xr];exact he y D)
   refine ⟨x::zs,C2,by simp[compL,hName,bnd,e1,e2,e3],by simp;lia,fun p hp=>?_,a1.trans a2⟩
   rcases Ys.mp hp with rfl | hp
   ·simp
   ·simp[hz p hp]
  | false=>
   obtain ⟨zs,C2,e3,hl,hz,a2⟩:=Zc9 (te:=te) (tt:=tt) xs (ρ.set 0 #[x]) ys C1 a1.gs (fun y D h=>by rw[Xr];exact ht y D h) (fun y D=>by rw[Xr];exact he y D)
   exact ⟨zs,C2,by simp[compL,hName,bnd,e1,e3],by simp;lia,fun p hp=>by simp[hz p hp],a1.trans a2⟩
theorem lets_of:∀(L:List PV) (ls:List Lt),(∀p∈L,p∈ls.map Lt.P)->∃us:List Lt,L=us.map Lt.P/\∀u∈us,u∈ls
 | [],ls,_=>⟨[],rfl,(fun _ h=>(nomatch h))⟩
 | p::L,ls,h=>by
  obtain ⟨l,hl,rfl⟩:=Yy.mp (h p 5e2)
  obtain ⟨us,rfl,hu⟩:=lets_of L ls fun q hq=>h q (by simp[hq])
  exact ⟨l::us,rfl,fun u hu'=>by
   rcases Ys.mp hu' with rfl | hu'
   ·exact hl
   ·exact hu u hu'⟩
abbrev loT:PSt->M Bool:=mTest (mOp (g2 gtP) (mFn F_l_pick (aCons 3e7 (aCons (mC (.int 7)) aNil))) 2e6)
abbrev loE:PSt->M SV:=mOp 2e7 3e7 (mFn F_l_pick (aCons 5e5 (aCons (mCB 9e5 (aCons 3e7 aNil)) aNil)))
abbrev loR:PSt->M SV:=mOp (g2 mulP) (mFn F_l_pick (aCons 2e0 (aCons 4e4 aNil))) (mCB (g1 intH) (aCons (mOp 4e1 5e5 (mVal 8e3)) aNil))
theorem left_out_is:B_l_left_out=mSeq (mSet 2 (mVal (mComp (mItems 3e7) 5e0 [0] 6e6 loT 2e0))) (mSeq (mSet 2 (mOp 5e3 5e5 (mVal (mComp (mRange1 (aCons loR aNil)) ["_law_k"] [2,0] 6e6 tOk loE)))) (mSeq (mSet 3 (mFn F_l_pick (aCons 2e0 (aCons (mOp 5e3 (mCB 9e5 6e9) 1e9) aNil)))) (mRet (mOp 5e3 (mSlice 5e5 (oPart 5e9) oNo) (mSlice 5e5 oNo (oPart 5e9)))))):=rfl
theorem loT_adv (k:Nat)(x:7e8)(C:Cs)(g:GS C k):∃b C',loT [x,3e2] C=some (b,C')/\Adv k C C':=by
 obtain ⟨d,C',e,_,_,a⟩:=Zal k 7 C g 1e4
 refine ⟨decide (0 < d),C',?_,a⟩
 simp[loT,mTest,mOp,mFn,aCons,aNil,mVar,mC,bnd,opM,Pu.ret,g2,deref,e,gtP,intP,mB,asB]
theorem loE_adv (k:Nat)(us:List Lt)(hu:0 < us.length)(hu2:us.length<=100)(x:7e8)(C:Cs)(g:GS C k):∃p C',loE [x,#[.lst (us.map Lt.P)],3e2] C=some (.v p,C')/\p∈us.map Lt.P/\Adv k C C':=by
 obtain ⟨d,C',e,d1,d2,a⟩:=Zal k (us.length:Int) C g 1e3
 have hd:d.toNat < us.length:=by lia
 have hix:ixQ (.lst (us.map Lt.P)) (.int d)=some (us[d.toNat]).P:=by simp[ixQ,ixP,atI,ixN,d1,d2,Yc hd]
 have hl:lenH [.lst (us.map Lt.P)]=some (.int (us.length:Int)):=by simp[lenH]
 refine ⟨(us[d.toNat]).P,C',?_,X8 (YV hd),a⟩
 generalize (us[d.toNat]).P=UP at *
 generalize us.map Lt.P=US at *
 simp[loE,mOp,mFn,aCons,aNil,mVar,mCB,g1,g2,derefs,deref,bnd,opM,Pu.ret,hl,e,hix]
theorem left_out_adv (k:Nat)(ls:List Lt)(hls:ls.length<=50)(C:Cs)(g:GS C k):∃(us:List Lt) (C':Cs),F_l_left_out [.c k,.v 7e0] C=some (.v (.lst (us.map Lt.P)),C')/\us.length<=200/\(∀u∈us,u∈ls)/\Adv k C C':=by
 obtain ⟨zs,C1,e1,hl1,hz1,a1⟩:=Zc9 (te:=mVar 0) (tt:=loT) (k:=k) (ls.map Lt.P) [none,3e2] [] C g (fun x C g=>loT_adv k _ C g) (fun x C=>by simp[mVar])
 obtain ⟨vs,rfl,hv⟩:=lets_of zs ls hz1
 rw[Xg] at e1
 have hvl:vs.length<=50:=by simp at hl1;lia
 have hlen:(ls.map Lt.P).length<=100000:=by simp;lia
 have s1:mSet 2 (mVal (mComp (mItems 3e7) 5e0 [0] 6e6 loT 2e0)) [3e2,1e6,none,none] C=some (.nx [3e2,1e6,#[.lst (vs.map Lt.P)],none],C1):=by
  sleep 2
  generalize vs.map Lt.P=VS at *
  generalize loT=tt at e1
  simp[mSet,mVal,mComp,mItems,itemsP,mVar,bnd,opM,Pu.ret,hlen,stIn',e1]
 obtain ⟨d,C2,e2,d1,d2,a2⟩:=Zal k 3 C1 a1.gs 1e4
 have hne:=neP_lst vs
 have cr:-18446744073709551616 < d/\d < 18446744073709551616:=by lia
 obtain ⟨N,hN,hN2,hNs⟩:∃N:Nat,loR [some (.c k),#[.lst (ls.map Lt.P)],#[.lst (vs.map Lt.P)],none] C1=some (.v (.int (N:Int)),C2)/\N<=2/\(0 < N->0 < vs.length):=by
  by_cases hs:vs=[]
  ·rw[decide_eq_false (by simpa using hs)] at hne
   refine ⟨0,?_,by lia,fun z=>absurd z 1e4⟩
   sleep 2
   generalize vs.map Lt.P=VS at *
   simp[loR,mOp,mVal,mLst,mFn,aCons,aNil,mVar,mC,mCB,g1,g2,derefs,deref,opM,bnd,Pu.ret,Pu.plain,e2,hne,intH,mulP,intP,cr]
  ·rw[decide_eq_true hs] at hne
   refine ⟨d.toNat,?_,by lia,fun _=>WB.mpr hs⟩
   have hrr:((d.toNat:Nat):Int)=d:=by lia
   rw[hrr]
   sleep 2
   generalize vs.map Lt.P=VS at *
   simp[loR,mOp,mVal,mLst,mFn,aCons,aNil,mVar,mC,mCB,g1,g2,derefs,deref,opM,bnd,Pu.ret,Pu.plain,e2,hne,intH,mulP,intP,cr]
 obtain ⟨ys,C3,e3,hl3,hz3,a3⟩:∃ys C3,compL (hName 0) tOk loE ((Yk N).map fun (q:Nat)=>PV.int (0 + q)) [none,#[.lst (vs.map Lt.P)],some (.c k)] [] C2=some (ys,C3)/\ys.length=N/\(∀p∈ys,p∈vs.map Lt.P)/\Adv k C2 C3:=by
  rcases Nat.eq_zero_or_pos N with h0 | h0
  ·subst h0
   exact ⟨[],C2,by simp[compL,Pu.ret],rfl,(fun _ h=>(nomatch h)),Adv.refl a2.gs⟩
  ·obtain ⟨zs,C3,e3,hl,hz,a3⟩:=comp_adv (te:=loE) (k:=k) (Pp:=fun p=>p∈vs.map Lt.P) ((Yk N).map fun (q:Nat)=>PV.int (0 + q)) [none,#[.lst (vs.map Lt.P)],3e2] [] C2 a2.gs (fun x C g=>loE_adv k vs (hNs h0) 1e3 _ C g)
   exact ⟨zs,C3,by simpa using e3,by simpa using hl,hz,a3⟩
 obtain ⟨ws,rfl,hw⟩:=lets_of ys vs hz3
 have hwl:ws.length<=2:=by simp at hl3;lia
 have s2:mSet 2 (mOp 5e3 5e5 (mVal (mComp (mRange1 (aCons loR aNil)) ["_law_k"] [2,0] 6e6 tOk loE))) [3e2,1e6,#[.lst (vs.map Lt.P)],none] C1=some (.nx [3e2,1e6,#[.lst ((vs++ws).map Lt.P)],none],C3):=by
  have hrg:rng1P [.v (.int (N:Int))]=some ((Yk N).map fun (q:Nat)=>PV.int (0 + q)):=by
   unfold rng1P;dsimp only;rw[if_pos 1e3,XY]
  have hrl:((Yk N).map fun (q:Nat)=>PV.int (0 + q)).length<=100000:=by simp;lia
  have hsum:(vs.map Lt.P).length + (ws.map Lt.P).length<=1000000:=by simp;lia
  rw[Xf]
  generalize ((Yk N).map fun (q:Nat)=>PV.int (0 + q))=rs at *
  sleep 2
  generalize vs.map Lt.P=VS at *
  generalize ws.map Lt.P=WS at *
  generalize loR=lr at hN
  generalize loE=le at e3
  simp[mSet,mOp,mVal,mComp,mRange1,aCons,aNil,mVar,bnd,opM,Pu.ret,g2,deref,hN,hrg,hrl,stIn',e3,addP,hsum]
 obtain ⟨us,hus⟩:∃us,us=vs++ws:=8e4
 rw[←hus] at s2
 have hul:us.length<=52:=by rw[hus,Y0];lia
 obtain ⟨t,C4,e4,t1,t2,a4⟩:=Zal k ((us.length:Int) + 1) C3 a3.gs 1e3
 have hlu:lenH [.lst (us.map Lt.P)]=some (.int (us.length:Int)):=by simp[lenH]
 have s3:mSet 3 (mFn F_l_pick (aCons 2e0 (aCons (mOp 5e3 (mCB 9e5 6e9) 1e9) aNil))) [3e2,1e6,#[.lst (us.map Lt.P)],none] C3=some (.nx [3e2,1e6,#[.lst (us.map Lt.P)],#[.int t]],C4):=by
  generalize us.map Lt.P=US at *
  simp[mSet,mFn,aCons,aNil,mOp,mCB,g1,g2,derefs,deref,mVar,mC,bnd,opM,Pu.ret,hlu,addP,e4]
 have aa:=((a1.trans a2).trans a3).trans a4
 have sub:∀(lo hi:Option Int),∃xs:List Lt,cutP (us.map Lt.P) lo hi=xs.map Lt.P/\xs.length<=us.length/\∀x∈xs,x∈us:=fun lo hi=>by
  obtain ⟨xs,e,hx⟩:=lets_of (cutP (us.map Lt.P) lo hi) us (fun p hp=>by unfold cutP at hp;exact List.mem_of_mem_drop (Ww hp))
  refine ⟨xs,e,?_,hx⟩
  have:=cut_len (us.map Lt.P) lo hi
  rw[e] at this
  simpa using this
 obtain ⟨xs,ex,hxl,hxm⟩:=sub (some t) none
 obtain ⟨zs,ez,hzl,hzm⟩:=sub none (some t)
 refine ⟨xs++zs,C4,?_,by rw[Y0];lia,fun u hu=>?_,aa⟩
 ·unfold F_l_left_out
  rw[left_out_is]
  show (match mSeq _ _ [3e2,some (.v 7e0),none,none] C with
   | some (.rt r,C')=>fin C.length C' r
   | some (.nx _,C')=>some 13e5
   | some (.rf ps,C')=>some (.v 8e1,C'.take C.length)
   | some (.rq qs,C')=>(finQ C.length C' qs).map fun ps=>(.v 9e0,C'.take C.length)
   | _=>none)=_
  rw[Zan s1,Zan s2,Zan s3]
  have hsum:(xs.map Lt.P).length + (zs.map Lt.P).length<=1000000:=by simp;lia
  have at':=aa.take
  rw[Xf]
  generalize us.map Lt.P=US at *
  generalize xs.map Lt.P=XS at *
  generalize zs.map Lt.P=ZS at *
  simp[mRet,mOp,mSlice,oPart,oNo,Pu.intD,mVar,bnd,opM,Pu.ret,g2,deref,sliceD,sliceP,ex,ez,addP,hsum,fin,at']
 ·have hm:u∈us:=by
   rcases YB.mp hu with h | h
   ·exact hxm u h
   ·exact hzm u h
  rw[hus] at hm
  rcases YB.mp hm with h | h
  ·exact hv u h
  ·exact hv u (hw u h)
theorem uq_sub {ls us:List Lt}(nd:(ls.map Lt.nm).Nodup)(h:∀u∈us,u∈ls):Uq us:=by
 intro l hl m hm e
 have h1:=h l hl
 have h2:=h m hm
 obtain ⟨i,hi,rfl⟩:=Xx h1
 obtain ⟨j,hj,rfl⟩:=Xx h2
 have:=(XD (xs:=ls.map Lt.nm) (i:=i) (j:=j) (h₀:=by simpa using hi) (h₁:=by simpa using hj) nd).mp (by simpa using e)
 subst this;rfl
theorem law_run (ns:List Int)(C:Cs):F_law [.v 12e5] C=some (.v (.bl true),C):=by
 have u0:Uq []:=fun l hl=>by cases hl
 have r0:=F_row_eq (ls:=[]) u0 1e4 [.inr "a",.inr "b",.inl 1] C
 rw[row_out (fun l hl=>by cases hl)] at r0
 have ne0:deepP (fun p q=>!eqD p q) (.lst []) (.lst [])=some (.bl false):=by simp[deepP,dat,dats,dep,deps,eqD,eqDs]
 obtain ⟨sp,nms,ds,et,ht⟩:=town_eq ns C
 obtain ⟨x,y,el,hy⟩:=ZcX ns 50 C 1e3 1e3
 have g0:=gs_new C x y hy
 obtain ⟨p,C1,e1,p1,p2,a1⟩:=Zal C.length 33 _ g0 1e4
 obtain ⟨ls,ep,hp⟩:=pile_eq ns sp ht p 1e3 C1
 obtain ⟨q,C2,e2,q1,q2,a2⟩:=Zal C.length 2 C1 a1.gs 1e4
 have t5:deepP eqD (.int q) (.int 0)=some (.bl (q==0)):=by simp[deepP,dat,dep,eqD]
 have et':F_l_town [.v 12e5] C=some (.v (townP sp nms ds),C):=et
 obtain ⟨us,C3,s4,hus,a3⟩:∃(us:List Lt) (C3:Cs),mIfS (mTest (mOp (g2 (deepP eqD)) (mFn F_l_pick (aCons (mVar 2) (aCons (mC (.int 2)) aNil))) (mC (.int 0)))) (mSet 3 (mFn F_l_turned (aCons (mVar 2) (aCons (mVar 3) aNil)))) mSkip [#[.lst (ns.map .int)],#[townP sp nms ds],some (.c C.length),#[.lst (ls.map Lt.P)],none,none,none,none,none] C1=some (.nx [#[.lst (ns.map .int)],#[townP sp nms ds],some (.c C.length),#[.lst (us.map Lt.P)],none,none,none,none,none],C3)/\PiOk us/\Adv C.length C1 C3:=by
  cases hq:(q==0) with
  | true=>
   rw[hq] at t5
   obtain ⟨us,C3,e3,hu,a3⟩:=turned_adv C.length ls hp C2 a2.gs
   refine ⟨us,C3,?_,hu,a2.trans a3⟩
   generalize townP sp nms ds=TP at *
   sleep 2
   generalize us.map Lt.P=US at *
   simp[mIfS,mTest,mOp,mFn,aCons,aNil,mVar,mC,bnd,opM,Pu.ret,g2,deref,e2,t5,mB,asB,mSet,e3]
  | false=>
   rw[hq] at t5
   refine ⟨ls,C2,?_,hp,a2⟩
   generalize townP sp nms ds=TP at *
   sleep 2
   simp[mIfS,mTest,mOp,mFn,aCons,aNil,mVar,mC,bnd,opM,Pu.ret,g2,deref,e2,t5,mB,asB,mSkip]
 have hul:=hus.le
 obtain ⟨vs,C4,e4,hvl,hvm,a4⟩:=left_out_adv C.length us 1e3 C3 (a3.gs)
 have uv:=uq_sub hus.nd hvm
 have ee:=lend_eq #[.lst (ns.map .int)] #[townP sp nms ds] (some (.c C.length)) (ls:=vs) uv 1e3 (fun l hl=>by have:=hus.gs l (hvm l hl);lia) C4
 have s0:mIfS (mTest (mOp 4e1 (mFn F_row (aCons (mVal 8e3) (aCons (mTup (aCons (mC (.str "a")) (aCons (mC (.str "b")) (aCons 1e9 aNil)))) aNil))) (mVal 8e3))) 9e3 mSkip [1e8,none,none,none,none,none,none,none,none] C=some (.nx [1e8,none,none,none,none,none,none,none,none],C):=by
  have r1:F_row [.v (.lst []),.v (.tup [.str "a",.str "b",.int 1])] C=some (.v (.lst []),C):=r0
  simp[mIfS,mTest,mOp,mFn,aCons,aNil,mVal,mLst,mTup,mC,bnd,opM,Pu.ret,Pu.plain,g2,deref,r1,ne0,mB,asB,mSkip]
 have s1:mSet 1 (mFn F_l_town (aCons 2e0 aNil)) [1e8,none,none,none,none,none,none,none,none] C=some (.nx [1e8,3e5,none,none,none,none,none,none,none],C):=by
  generalize townP sp nms ds=TP at *
  simp[mSet,mFn,aCons,aNil,mVar,bnd,Pu.ret,et']
 have s2:mNew 2 (mFnF FF_l_left (aCons 2e0 (aCons (mC (.int 50)) aNil))) [1e8,3e5,none,none,none,none,none,none,none] C=some (.nx [1e8,3e5,5e4,none,none,none,none,none,none],C++10e8):=by
  simp[mNew,mFnF,aCons,aNil,mVar,mC,bnd,Pu.ret,el]
 have s3:mSet 3 (mFn F_l_pile (aCons 2e0 (aCons 3e7 (aCons (mFn F_l_pick (aCons 5e5 (aCons (mC (.int 33)) aNil))) aNil)))) [1e8,3e5,5e4,none,none,none,none,none,none] (C++10e8)=some (.nx [1e8,3e5,5e4,1e6,none,none,none,none,none],C1):=by
  generalize townP sp nms ds=TP at *
  sleep 2
  simp[mSet,mFn,aCons,aNil,mVar,mC,bnd,Pu.ret,e1,ep]
 have s5:mSet 3 (mFn F_l_left_out (aCons 5e5 8e6)) [1e8,3e5,5e4,#[.lst (us.map Lt.P)],none,none,none,none,none] C3=some (.nx [1e8,3e5,5e4,#[.lst (vs.map Lt.P)],none,none,none,none,none],C4):=by
  generalize us.map Lt.P=US at *
  generalize vs.map Lt.P=VS at *
  simp[mSet,mFn,aCons,aNil,mVar,bnd,Pu.ret,e4]
 have hC4:C4.take C.length=C:=by
  have aa:=(a1.trans a3).trans a4
  apply YZ
  intro j
  rcases YJ j C.length with z | z
  ·rw[Xd z,aa.oth j (Yn z),Yd z]
  ·rw[Ye.mpr z,Ye.mpr (by rw[Xh];lia)]
 have hb:B_law=mSeq (mIfS (mTest (mOp 4e1 (mFn F_row (aCons (mVal 8e3) (aCons (mTup (aCons (mC (.str "a")) (aCons (mC (.str "b")) (aCons 1e9 aNil)))) aNil))) (mVal 8e3))) 9e3 mSkip) (mSeq (mSet 1 (mFn F_l_town (aCons 2e0 aNil))) (mSeq (mNew 2 (mFnF FF_l_left (aCons 2e0 (aCons (mC (.int 50)) aNil)))) (mSeq (mSet 3 (mFn F_l_pile (aCons 2e0 (aCons 3e7 (aCons (mFn F_l_pick (aCons 5e5 (aCons (mC (.int 33)) aNil))) aNil))))) (mSeq (mIfS (mTest (mOp 9e7 (mFn F_l_pick (aCons 5e5 (aCons 2e5 aNil))) 2e6)) (mSet 3 (mFn F_l_turned (aCons 5e5 8e6))) mSkip) (mSeq (mSet 3 (mFn F_l_left_out (aCons 5e5 8e6))) lend))))):=rfl
 unfold F_law
 rw[hb]
 show (match mSeq _ _ [some (.v 12e5),none,none,none,none,none,none,none,none] C with
  | some (.rt r,C')=>fin C.length C' r
  | some (.nx _,C')=>some 13e5
  | some (.rf ps,C')=>some (.v 8e1,C'.take C.length)
  | some (.rq qs,C')=>(finQ C.length C' qs).map fun ps=>(.v 9e0,C'.take C.length)
  | _=>none)=_
 rw[Zan s0,Zan s1,Zan s2,Zan s3,Zan s4,Zan s5,ee]
 show some (SV.v (.bl true),C4.take C.length)=_
 rw[hC4]
theorem law_pure (_:True)(ns:List Int)(hn:ns.length<=63):F_law [.v 12e5] []=some (.v (.bl true),[]):=law_run ns []
noncomputable def qv:Program:=W.view PySem.Challenge.pw_holdword_k18_rows [1,3,4,6,7,9,10,11,12,13,14,15,16,17,18,19,20,21,22,23,24,25,26]
noncomputable def fnames:List Str:=List.map Vs ["name_of","by_name","followed","row_among","row","_law_cell_at","_law_left","_law_pick","_law_words","_law_event","_law_clauses","_law_town","_law_deed","_law_name","_law_last","_law_gots","_law_letter","_law_pile","_law_left_out","_law_turned","_law_is_row","_law_asked","law"]
def sts:List (Str×Stmt):=fnames.zip (List.map top [1,3,4,6,7,9,10,11,12,13,14,15,16,17,18,19,20,21,22,23,24,25,26])
theorem sts_ok:(recsOf qv).map Hd.four=sts.map Hd.fourS:=by kernel_rfl
noncomputable def hk:W.Hook:=W.Hook.none
theorem hl:W.LeftO PySem.Challenge.pw_holdword_k18_rows qv [] (fun s=>W.xlAt qv [] s&&W.recOk [] s) hk.obs hk.val 1556:=
 W.LeftO.of_split "special-get-raises" (fun w=>by kernel_rfl)
theorem all_mk {P:Yx}{w:World}{K:W.Frag}{mg:3e0}{fa:Addr}(hfa:mg "law"=some (.ref fa))(T:Txt mg)
  (e_name_of:Hd.FnAt K mg "name_of" ZcJ)
  (e_by_name:Hd.FnAt K mg "by_name" ZcN)
  (e_followed:Hd.FnAt K mg "followed" Zcl)
  (e_row_among:Hd.FnAt K mg "row_among" Zbt)
  (e_row:Hd.FnAt K mg "row" s_row)
  (e__law_cell_at:Hd.FnAt K mg "_law_cell_at" ZbT)
  (e__law_left:Hd.FnAt K mg "_law_left" Zcy)
  (e__law_pick:Hd.FnAt K mg "_law_pick" s_l_pick)
  (e__law_words:Hd.FnAt K mg "_law_words" ZcK)
  (e__law_event:Hd.FnAt K mg "_law_event" ZcL)
  (e__law_clauses:Hd.FnAt K mg "_law_clauses" ZbS)
  (e__law_town:Hd.FnAt K mg "_law_town" s_l_town)
  (e__law_deed:Hd.FnAt K mg "_law_deed" s_l_deed)
  (e__law_name:Hd.FnAt K mg "_law_name" s_l_name)
  (e__law_last:Hd.FnAt K mg "_law_last" s_l_last)
  (e__law_gots:Hd.FnAt K mg "_law_gots" s_l_gots)
  (e__law_letter:Hd.FnAt K mg "_law_letter" Zcj)
  (e__law_pile:Hd.FnAt K mg "_law_pile" s_l_pile)
  (e__law_left_out:Hd.FnAt K mg "_law_left_out" Zby)
  (e__law_turned:Hd.FnAt K mg "_law_turned" Zci)
  (e__law_is_row:Hd.FnAt K mg "_law_is_row" Zck)
  (e__law_asked:Hd.FnAt K mg "_law_asked" ZcM)
  (e_law:Hd.FnAt K mg "law" s_law)
  :∃fd:XM,(∀(s:Shared) (v:Value),BindsTo s fd ⟨[v],[]⟩ [("_law_script",v)])/\∀base:Heap,FnOk P w K mg base CX0 5 fa fd ["_law_script"] (Hd.spLaw K):=by
 obtain ⟨f_law,fd_law,m_law,N_law⟩:=e_law
 have e:=hfa.symm.trans m_law;cases e
 have hb:∀(s:Shared) (v:Value),BindsTo s fd_law ⟨[v],[]⟩ [("_law_script",v)]:=by
  obtain ⟨oc,od,kV,doc,pm,an,cdv,ct,osl,rfl,lk,hcd⟩:=N_law.ex
  exact fun s v=>.of_eq rfl
 refine ⟨fd_law,hb,fun base=>?_⟩
 have E_name_of:=ok_name_of (P:=P) (w:=w) (base:=base) e_name_of T
 have E_by_name:=ok_by_name (P:=P) (w:=w) (base:=base) e_by_name T E_name_of
 have E_followed:=ok_followed (P:=P) (w:=w) (base:=base) e_followed T
 have E_row_among:=ok_row_among (P:=P) (w:=w) (base:=base) e_row_among T E_followed
 have EF_row_among:=okF_row_among (P:=P) (w:=w) (base:=base) e_row_among T E_followed
 have E_row:=ok_row (P:=P) (w:=w) (base:=base) e_row T E_by_name EF_row_among
 have EF_row:=okF_row (P:=P) (w:=w) (base:=base) e_row T E_by_name EF_row_among
 have E__law_cell_at:=ok_l_cell_at (P:=P) (w:=w) (base:=base) e__law_cell_at T
 have E__law_left:=ok_l_left (P:=P) (w:=w) (base:=base) e__law_left T E__law_cell_at
 have EF__law_left:=okF_l_left (P:=P) (w:=w) (base:=base) e__law_left T E__law_cell_at
 have E__law_pick:=ok_l_pick (P:=P) (w:=w) (base:=base) e__law_pick T
 have E__law_words:=ok_l_words (P:=P) (w:=w) (base:=base) e__law_words T E__law_pick
 have E__law_event:=ok_l_event (P:=P) (w:=w) (base:=base) e__law_event T E__law_pick
 have E__law_clauses:=ok_l_clauses (P:=P) (w:=w) (base:=base) e__law_clauses T E__law_pick E__law_event
 have E__law_town:=ok_l_town (P:=P) (w:=w) (base:=base) e__law_town T EF__law_left E__law_words E__law_pick E__law_clauses
 have E__law_deed:=ok_l_deed (P:=P) (w:=w) (base:=base) e__law_deed T E__law_pick
 have E__law_name:=ok_l_name (P:=P) (w:=w) (base:=base) e__law_name T
 have E__law_last:=ok_l_last (P:=P) (w:=w) (base:=base) e__law_last T
 have E__law_gots:=ok_l_gots (P:=P) (w:=w) (base:=base) e__law_gots T E__law_pick E__law_name
 have E__law_letter:=ok_l_letter (P:=P) (w:=w) (base:=base) e__law_letter T E__law_pick E__law_last E__law_deed E__law_gots
 have E__law_pile:=ok_l_pile (P:=P) (w:=w) (base:=base) e__law_pile T EF__law_left E__law_pick E__law_letter
 have E__law_left_out:=ok_l_left_out (P:=P) (w:=w) (base:=base) e__law_left_out T E__law_pick
 have E__law_turned:=ok_l_turned (P:=P) (w:=w) (base:=base) e__law_turned T E__law_pick
 have E__law_is_row:=ok_l_is_row (P:=P) (w:=w) (base:=base) e__law_is_row T
 have E__law_asked:=ok_l_asked (P:=P) (w:=w) (base:=base) e__law_asked T EF_row E__law_is_row E_row
 have E_law:=ok_law (P:=P) (w:=w) (base:=base) N_law T E_row E__law_town EF__law_left E__law_pick E__law_pile E__law_turned E__law_left_out E__law_asked
 exact E_law.imp (Hd.spLaw_lift fun ns hl=>law_pure trivial ns hl)
noncomputable def bl:List Str:=["dict","enumerate","int","isinstance","len","list","max","min","range","sorted","tuple"]
theorem hbl:bl.all (fun x=>!Hd.isHere qv (W.looseW qv []) x)=true:=by kernel_rfl
theorem said:PySem.Challenge.rw_holdword_k18_rows.wellSaid=true:=by kernel_rfl
end K18
open PySem PySem.W PyProof.Rows
set_option maxRecDepth 100000 in
set_option maxHeartbeats 0 in
theorem PySem.Challenge.cw_holdword_k18_rows_holds : PySem.Challenge.rw_holdword_k18_rows.Holds := by
 refine holds_law K18.said fun said=>?_
 refine holds_open (q:=K18.qv) (loose:=[]) (Xt:=fun s=>xlAt K18.qv [] s&&recOk [] s) (XP:=XL K18.qv []) (YP:=K18.hk.says) K18.hl (Hook.of K18.hk) (Hook.keeps K18.hk) (fun s e=>xl_of s (Bool.and_eq_true_iff.mp e).1) XL.keeps (d:=⟨"law",L2.defArgs K18.s_law,L2.defBody K18.s_law,L2.defScope K18.s_law,Hd.defPos K18.s_law⟩) (kwd:=[]) (by kernel_rfl) (by kernel_rfl) (by kernel_rfl) (fun s e=>recFacts_of (Bool.and_eq_true_iff.mp e).2) 1e0 said (by kernel_rfl) ⟨rfl,rfl,rfl,rfl,rfl,by decide +kernel⟩ ⟨[.list []],by decide +kernel,by decide +kernel⟩ ?_
 refine Hd.walk (k:=5) rfl rfl ⟨rfl,by decide,by decide⟩ [] fun w s₀ mg mb h as G Y h0 A fa hmg=>?_
 refine K18.all_mk hmg ⟨Hd.nones G.T K18.hbl 0 rfl,Hd.nones G.T K18.hbl 1 rfl,Hd.nones G.T K18.hbl 2 rfl,Hd.nones G.T K18.hbl 3 rfl,Hd.nones G.T K18.hbl 4 rfl,Hd.nones G.T K18.hbl 5 rfl,Hd.nones G.T K18.hbl 6 rfl,Hd.nones G.T K18.hbl 7 rfl,Hd.nones G.T K18.hbl 8 rfl,Hd.nones G.T K18.hbl 9 rfl,Hd.nones G.T K18.hbl 10 rfl⟩ (Hd.fn_at A K18.sts_ok 0 rfl) (Hd.fn_at A K18.sts_ok 1 rfl) (Hd.fn_at A K18.sts_ok 2 rfl) (Hd.fn_at A K18.sts_ok 3 rfl) (Hd.fn_at A K18.sts_ok 4 rfl) (Hd.fn_at A K18.sts_ok 5 rfl) (Hd.fn_at A K18.sts_ok 6 rfl) (Hd.fn_at A K18.sts_ok 7 rfl) (Hd.fn_at A K18.sts_ok 8 rfl) (Hd.fn_at A K18.sts_ok 9 rfl) (Hd.fn_at A K18.sts_ok 10 rfl) (Hd.fn_at A K18.sts_ok 11 rfl) (Hd.fn_at A K18.sts_ok 12 rfl) (Hd.fn_at A K18.sts_ok 13 rfl) (Hd.fn_at A K18.sts_ok 14 rfl) (Hd.fn_at A K18.sts_ok 15 rfl) (Hd.fn_at A K18.sts_ok 16 rfl) (Hd.fn_at A K18.sts_ok 17 rfl) (Hd.fn_at A K18.sts_ok 18 rfl) (Hd.fn_at A K18.sts_ok 19 rfl) (Hd.fn_at A K18.sts_ok 20 rfl) (Hd.fn_at A K18.sts_ok 21 rfl) (Hd.fn_at A K18.sts_ok 22 rfl)