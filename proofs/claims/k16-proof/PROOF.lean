import PyProof.Rows.All
import Wide.All
import OpenK.AllK
import Wide.FinOn
import Lean
import PyProof.EqAt
import PyProof.EqKinds
import PyProof.TupleCall
import PyProof.DictCompW
import PySem.SetOps
import PyProof.SetScanFacts
import PyProof.SetKind
import PyProof.TupleKey
import PyProof.DictRoadsH
import PyProof.IsRules
import PyProof.Rows.SetFrom
import PyProof.WalksMore
import PyProof.NeKinds
import KE.KSortTup
import KE.KDictOf
import PyProof.DictFindH
import PyProof.AttrMissSeq
import KE.KDictList
import PyProof.CollectWalk
import PyProof.StrBlock2
import PyProof.SeqI3
import PyProof.EnumMake
import PyProof.WalksEnum
import PyProof.DictValues
import PyProof.DictWalks
import KE.KRevSl
import PyProof.ListMulAny
import PyProof.Rows.ListMul
import PyProof.Draws
import PyProof.Rows.IntBool
import KE.KRevIter
import PyProof.Rows.FStr
import PyProof.Rows.StrNews
import PyProof.Rows.StrSplitAre
import PyProof.CallStr
import KE.KIntText
import PyProof.AutoListH
import KE.KPairComp
import PySem.Challenge.RW_holdword_k16_whole_or_not
noncomputable section
set_option hygiene false
local macro_rules
|`(1e0)=>`((by rfl))
|`(1e1)=>`((by decide))
|`(1e2)=>`((by lia))
|`(1e3)=>`((CompCx X (vs++fs) scope C s₀ H₀ ex pn))
|`(1e4)=>`(⟨rfl,rfl,rfl,by decide +kernel,rfl,by decide +kernel,by decide +kernel⟩)
|`(1e5)=>`(Value->Shared->Prop)
|`(1e6)=>`((Zaf c__law_pick 3e6 1e0 (@Zaa _ _ _ _ _ (Zab 0) 5e2 1e0)))
|`(1e7)=>`(#[.lst (ns.map .int)])
|`(1e8)=>`(Yp 6e8 X.env=(false,eval e X.env)::Yp es X.env)
|`(1e9)=>`((mC (.int 1)))
|`(2e0)=>`(List (Addr×Obj))
|`(2e1)=>`((mVar 0))
|`(2e2)=>`((Or.inl rfl))
|`(2e3)=>`(Inv X pins σ H s)
|`(2e4)=>`((model X.prog X.w))
|`(2e5)=>`((model prog w))
|`(2e6)=>`((mC (.int 2)))
|`(2e7)=>`([5e4,#[d.P],#[.tup (d.hs.map .str)],#[.tup (d.ow.map .str)],#[.int d.cl],#[.tup (d.cs.map Cl.P)],#[.int w],13e4,#[.int cl.a],#[.int cl.b],#[.int cl.p],#[.int cl.w],#[.tup (cl.cs.map tupK)],#[lvP cl.lv],none])
|`(2e8)=>`((backTo pos (Yp es X.env)).any (·.1)=false)
|`(2e9)=>`(PSt->M (List SV))
|`(3e0)=>`((ls.map Lt.P))
|`(3e1)=>`(Str->Option Value)
|`(3e2)=>`(#[townP sp nms ds])
|`(3e3)=>`((Zau (Zat (@Zaa _ _ _ _ _ Zac (@Zaa _ _ _ _ _ Zac (@Zaa _ _ _ _ _ Zac (@Zaa _ _ _ _ _ Zac (@Zaa _ _ _ _ _ Zac (@Zaa _ _ _ _ _ Zac (@Zaa _ _ _ _ _ Zac 5e2 1e0) 1e0) 1e0) 1e0) 1e0) 1e0) 1e0))))
|`(3e4)=>`((mC (.int 0)))
local macro_rules
|`(3e5)=>`((g2 ixQ))
|`(3e6)=>`((hr.mono 1e1))
|`(3e7)=>`(List Addr)
|`(3e8)=>`((by simp))
|`(3e9)=>`((mVar 1))
|`(4e0)=>`(#[.lst (ws.map .str)])
|`(4e1)=>`(List Value)
|`(4e2)=>`((g2 addP))
|`(4e3)=>`(PSt->M SV)
|`(4e4)=>`((.int (sh.length:Int)))
|`(4e5)=>`(PV->PSt->Option PSt)
|`(4e6)=>`(A.units < cLine)
|`(4e7)=>`((by exact ⟨rfl,rfl,rfl,rfl,rfl,rfl,rfl⟩))
|`(4e8)=>`((mFn F_l_pick (aCons 3e9 10e5)))
|`(4e9)=>`(List (List Key))
|`(5e0)=>`(Cal P w K mg base 1 "_law_pick" ["_law_left_here","_law_many"] (liftSp K F_l_pick))
|`(5e1)=>`((x==("__debug__":Str))=false)
|`(5e2)=>`((@Zaa _ _ _ _ _ Zac Zad 1e0))
|`(5e3)=>`(some (.c C.length))
|`(5e4)=>`(some (.c k))
|`(5e5)=>`(some (.c D.length))
|`(5e6)=>`(List Str)
|`(5e7)=>`(["_law_letter_here"])
|`(5e8)=>`((mVar 2))
|`(5e9)=>`(List Expr)
local macro_rules
|`(6e0)=>`(PSt->M 13e5)
|`(6e1)=>`((aCons (mVar 8) (aCons (mVar 9) aNil)))
|`(6e2)=>`(some (.c a))
|`(6e3)=>`(PSt->M Bool)
|`(6e4)=>`((g2 (deepP fun p q=>!eqD p q)))
|`(6e5)=>`((ZaA hr))
|`(6e6)=>`((mC (.int 3)))
|`(6e7)=>`(#[.lst 3e0])
|`(6e8)=>`((e::es))
|`(6e9)=>`((Zaf c__law_pick 3e6 1e0 (@Zaa _ _ _ _ _ (Zab 1) 5e2 1e0)))
|`(7e0)=>`(X.fn x=true\/X.env.scope.names.lookup x=some .local)
|`(7e1)=>`((hName 0))
|`(7e2)=>`(some (.c C2.length))
|`(7e3)=>`((∀b u,s.heap.get? b=some u->h'.get? b=some u))
|`(7e4)=>`((mVar 3))
|`(7e5)=>`(Array (Int×Value))
|`(7e6)=>`((nomark _))
|`(7e7)=>`((mVar 4))
|`(7e8)=>`((mVar 5))
|`(7e9)=>`((by decide +kernel))
|`(8e0)=>`((p.getD (n - 1) 0))
|`(8e1)=>`(Option SV)
|`(8e2)=>`(Bool->Shared->Prop)
|`(8e3)=>`(X.A.units + 64 < cLine)
|`(8e4)=>`((.Call (.Name x p) 6e8 [] pos))
local macro_rules
|`(8e5)=>`((start t.mask (Yr knd k)))
|`(8e6)=>`((.lst ps))
|`(8e7)=>`((0 + (q:Int)))
|`(8e8)=>`((aCons 5e8 aNil))
|`(8e9)=>`(⟨_,rfl⟩)
|`(9e0)=>`((k'==Xo&&env.scope.kind==.function&&env.kindOf n==some .cell))
|`(9e1)=>`((ι++ι2))
|`(9e2)=>`((.tup ps))
|`(9e3)=>`((g1 lenH))
|`(9e4)=>`((mVar 10))
|`(9e5)=>`((.ref s.heap.objs.size))
|`(9e6)=>`(CSc X scope vs fs fr)
|`(9e7)=>`(List Key)
|`(9e8)=>`((g2 (deepP eqD)))
|`(9e9)=>`(X.calm=true)
|`(10e0)=>`((mFn F_l_pick (aCons 2e1 (aCons (mC (.int 9)) aNil))))
|`(10e1)=>`((mFn F_l_pick (aCons 2e1 (aCons 2e6 aNil))))
|`(10e2)=>`(#[.lst (so.map Lt.P)])
|`(10e3)=>`(#[.lst (sn.map .str)])
|`(10e4)=>`((@Zaa _ _ _ _ _ (Zab 0) Zad 1e0))
|`(10e5)=>`((aCons (mC (.int 8)) aNil))
|`(10e6)=>`((.ListComp elt [⟨tg,iter,ifs,0⟩] scope pos))
|`(10e7)=>`((seqObj "list" vs.toArray 0))
|`(10e8)=>`([.lst [.int x,.int y]])
|`(10e9)=>`((@Zaa _ _ _ _ _ (Zab 8) (@Zaa _ _ _ _ _ (Zab 9) Zad 1e0) 1e0))
local macro_rules
|`(11e0)=>`((mLst aNil))
|`(11e1)=>`((by simp;lia))
|`(11e2)=>`((@Zaa _ _ _ _ _ (Zab 2) Zad 1e0))
|`(11e3)=>`((fun _ _ _ _ _ _=>ln1 fun _=>rfl))
|`(11e4)=>`((mTest (mOp (g2 (inDP true)) (mVar 12) 9e4)))
|`(11e5)=>`(CR K ι H C)
|`(11e6)=>`(PSt->M PF)
|`(11e7)=>`(["_law_script","_law_k"])
|`(11e8)=>`(List Nat)
|`(11e9)=>`((aCons 7e4 aNil))
|`(12e0)=>`((∀b∈fp,H' b=none))
|`(12e1)=>`((clFrom X.env.cells scope.names []))
|`(12e2)=>`((sc2 elt t0 i0 t1 i1 ifs scope pos))
|`(12e3)=>`(Result->Shared->Prop)
|`(12e4)=>`(#[.tup (dl.hs.map .str)])
|`(12e5)=>`((ZaP I q 3e8))
|`(12e6)=>`(Array Nat)
|`(12e7)=>`((mVar 6))
|`(12e8)=>`((.int (i:Nat)))
|`(12e9)=>`((aCons 7e8 aNil))
|`(13e0)=>`((Zah 6e5 (Zab 0) Zac))
|`(13e1)=>`((by simpa using h))
|`(13e2)=>`((mC (.int 5)))
|`(13e3)=>`((fun _ _ _ _ _ _=>ln2 fun _ _=>rfl))
|`(13e4)=>`(#[.int c])
local macro_rules
|`(13e5)=>`((List PV))
|`(13e6)=>`(A.handled=none)
|`(13e7)=>`((aCons 2e1 aNil))
|`(13e8)=>`((List Key×Addr×Value))
|`(13e9)=>`(HRep s.heap 8e6 u)
|`(14e0)=>`(HRep s.heap 9e2 u)
|`(14e1)=>`(#[.int many])
|`(14e2)=>`((hu64 hr))
|`(14e3)=>`((.bl true))
|`(14e4)=>`((mVar 7))
|`(14e5)=>`(#[.int now])
|`(14e6)=>`(List V->Hp->VK->Prop)
|`(14e7)=>`(#[.lst ((L.take s.q.toNat).map fI)])
|`(14e8)=>`((.int (j:Int)))
|`(14e9)=>`((aCons 7e7 aNil))
|`(15e0)=>`((.lst (ns.map .int)))
|`(15e1)=>`(Nat->Nat->Bool)
|`(15e2)=>`((defScope st))
|`(15e3)=>`((mC (.int 4)))
|`(15e4)=>`((.inl rfl))
|`(15e5)=>`(Reps.cells hs _ _ r)
|`(15e6)=>`(RawS s.heap a es ep t)
|`(15e7)=>`(HRep s.heap q v)
|`(15e8)=>`((@Zaa _ _ _ _ _ (Zab 4) Zad 1e0))
|`(15e9)=>`((@Zaa _ _ _ _ _ (Zab 5) Zad 1e0))
local macro_rules
|`(16e0)=>`((@Zaa _ _ _ _ _ (Zab 3) Zad 1e0))
|`(16e1)=>`((XB ps.length))
|`(16e2)=>`((mRet (mC (.bl false))))
|`(16e3)=>`((mOp 3e5 3e9 1e9))
local macro_rules
|`(tactic|sleep 1)=>`(tactic|generalize ls.map Lt.P=LS at *)
|`(tactic|sleep 2)=>`(tactic|obtain ⟨ι,ρ,C,fl,C',sr,e,d⟩:=h_)
|`(tactic|sleep 3)=>`(tactic|(intro X hP hw hK hc i pins s σ H E I hf st hg;subst hP hw hK))
|`(tactic|sleep 4)=>`(tactic|(have a0:=a;have b0:=b;unfold HRep at a b;obtain ⟨l,us,rfl,h1,r1⟩:=a;obtain ⟨l',vs,rfl,h2,r2⟩:=b;unfold dep at hu))
|`(tactic|sleep 5)=>`(tactic|intro pins s σ H x y v u Q I rx ry h)
|`(tactic|sleep 6)=>`(tactic|(obtain ⟨ι,ρ,C,z,C',sr,e,q⟩:=h;obtain ⟨x,C1,e1,e⟩:=Zag e))
|`(tactic|sleep 7)=>`(tactic|generalize townP sp nms ds=TP at *)
|`(tactic|sleep 8)=>`(tactic|obtain ⟨t,rfl⟩:=rx)
|`(tactic|sleep 9)=>`(tactic|obtain ⟨xs,C1,e1,e⟩:=Zag e)
|`(tactic|sleep 10)=>`(tactic|generalize mi.map Lt.P=MI at *)
|`(tactic|sleep 11)=>`(tactic|obtain ⟨ι,ρ,C,z,C',sr,e,q⟩:=h_)
|`(tactic|sleep 12)=>`(tactic|intro pins s σ H Q I h)
|`(tactic|sleep 13)=>`(tactic|intro ι H C p q vx vy z Q cr lx ly e k)
|`(tactic|sleep 14)=>`(tactic|(generalize hDD:tupK l.dd=DD at *;generalize hGS:l.gs.map tupK=GS at *))
set_option hygiene true
open Array renaming getElem?_eq_getElem → Yg, length_toList → YG, getD_eq_getD_getElem? → YI, getElem?_eq_none → YK, getElem?_toList → Y3, mem_toList_iff → XW, perm_iff_toList_perm → WZ, mem_of_getElem? → Vx, getElem?_append_left → VX, replicate → Uz
open Array.Perm renaming refl → VM
open Bool renaming and_eq_true → Ys, false_ne_true → Yu, false_eq_true → YM, eq_iff_iff → X5, false_or → VE, not_true → VF, true_or → Uv, or_eq_true → UE
open False renaming elim → WD
open ForInStep renaming yield → WP
open Int renaming emod_lt_of_pos → Y5, emod_nonneg → Xd, toNat_natCast → XG
open List renaming getElem?_eq_getElem → Yd, mem_append_right → Ye, getElem?_append_left → Yf, mem_singleton → Yh, getElem?_eq_none_iff → Yi, range → Yl, size_toArray → Ym, mem_cons → Yn, map_cons → Yw, mem_append_left → Yx, getElem?_set_ne → Yy, mem_append → Yz, mem_cons_self → YA, mem_map → YB, append_assoc → YD, length_map → YE, append_nil → YJ, getElem?_map → YL, mem_cons_of_mem → YO, mem_of_getElem? → YQ, getElem?_eq_some_iff → YS, all_eq_true → YW, length_cons → YX, nodup_iff_pairwise_ne → YZ, mem_range → Y1, lookup_cons → Y6, getElem_mem → Y7, getElem?_append_right → Y8, ext_getElem? → Xa, zip_cons_cons → Xe, map_map → Xf, getElem?_take_of_lt → Xh, mem_filter → Xj, nodup_cons → Xk, length_take → Xl, not_mem_nil → Xm, length_append → Xn, getElem?_eq_none → Xs, map_append → Xv, any_cons → Xz, getElem?_set_self → XC, length_set → XI, nil_append → XJ, getD_eq_getElem?_getD → XM, pairwise_map → XR, drop_eq_getElem_cons → XS, nodup_append → X2, length_range → X3, mem_of_mem_take → Wl, mem_of_mem_drop → Wm, set_set → Ws, filterMap_cons → Wt, getElem_of_mem → Ww, mem_map_of_mem → Wy, getElem_inj → Wz, find?_cons → WN, length_nil → WO, getElem?_toArray → WR, toArray → WT, length_filter_le → WX, replicate → W1, drop_length → W6, map_fst_zip → W7, length_pos_iff → W9, map_nil → Vc, all_cons → Vj, take_of_length_le → Vm, reverse_cons → Vr, length_drop → Vy, nodup_range → Vz, eq_nil_of_length_eq_zero → VA, any_eq_true → VB, getElem?_range → VN, length_zip → VP, filter_map → VR, length_eraseIdx_of_lt → VW, mem_filterMap → VY, all_map → V3, any_eq_false → V8, of_mem_zip → Ut
open List.Pairwise renaming imp_of_mem → Wq, imp → Ue
open List.cons renaming inj → Vk, injEq → UF
open Nat renaming le_refl → Yj, lt_of_lt_of_le → Yk, ne_of_lt → Yq, lt_or_ge → YH, le_trans → YR, zero_le → YV, le_of_lt → XA, lt_irrefl → XX, ne_of_gt → X0, not_lt_zero → X6, zero_add → WQ, min_eq_left → WU, lt_succ_self → W5, lt_trichotomy → Vo, lt_succ_of_lt → Vp, mod_lt → VJ, lt_of_le_of_lt → V1, succ_pos → V2, le_succ → Ug, le_of_not_lt → Ul, lt_trans → Uw
open Ne renaming symm → Xw
open Option renaming map_eq_some_iff → XN, isSome_iff_exists → Va, isSome_map → Ub, map_some → Uy
open Option.some renaming inj → YN
open Prod renaming fst → UJ
open PyProof.Rows renaming slot_tuple_getitem → Xi, callWith_type1 → Xq, get?_update_seq → Wr, callWith_builtin1 → Vw, entry_proto_collect' → VD, SortKind → VG, listUpdate_at → VH, mirror_perm → Ui, entry_list_iadd' → Um, AllBare → Up, listItems_at → UC, mirror_size → UO, seqEpoch_at → UP
open PySem renaming wpAny_bind → Ya, wpAny_pure → Yc, starEach → Yp, tupleKeyHash → Yr, sizeLine → Yt, Program → YC, sizeLine_eq → YU, wpAny_setState_of → YY, wpAny_mono → Y0, Spec → Y2, foldedSetIterable → Y4, wpAny_call_entry → Y9, bootBuiltins → Xb, wpAny_holding → Xc, wpAny_callSpecial?_slot → Xx, wpAny_newObj_type → Xy, SetTable → XH, compareOp → XT, codeAny → XU, wpAny_standAt → XY, FuncData → XZ, IsTupleKey → X1, letOwnedTupleGo → X4, wpAny_ite_split → X7, sysModules → Wa, wpAny_askSetting → Wb, wpAny_Call_Name_kw → Wd, setSearchFrom → We, wpAny_setField → Wj, assignEach → Wn, wpAny_comprehension_free → Wp, mem_of_lookup → Wu, wpAny_newList → Wx, wpAny_typeNameOfWhole_keyiter → WC, tupleKind → WI, swapsWith → WJ, wpAny_typeOf → WL, codeAny_builtin → WV, builtinLookup_eq_fast → WW, binaryOp → WY, Builtin → W0, carriedByValue → W3, wpAny_passesOwn → Ve, behindInMarks → Vf, NameKind → Vg, tupleKind_room_in1 → Vi, sliceBounds → Vn, wpAny_seqItems → Vt, wpAny_fieldsOf → Vu, wpAny_newFunctionEnv → VC, wpAny_attempt → VI, wpAny_specialOf → VL, wpAny_raiseNew_none → VO, typeLookup_type → VQ, isSubtype_type → V7, DictEntry → Ua, ofAClassStatement → Uc, wpAny_pyIter_slot → Ud, mainGlobals → Uf, noFill_tuple_add → Uk, wpAny_execs_nil → Uq, holding → Ur, codeAny_mono → Us, concat_meets → Uu, codeAny_loop → Ux, wpAny_loadPart' → UA, collect → UD, pickOrder → UG, wpAny_updateSeq → UH, compEnvC → UI, setEntries → UK, setsByText → UL, getItem → UM, wpAny_noted → UN, isSubtype → UT, standAt → UU, callerA → UV, valueAt → UW, ItemsOf → UX
open PySem.Around renaming in1_units → YT
open PySem.Builtin.List renaming listExtendWith → Xu, listSameRef → XV, listLengthHint → X8
open PySem.Builtin.Slice renaming slicePlaces → Wi, sliceAdjust → W2, sliceApplied → VU
open PySem.Builtin.Tuple renaming tupleExact → Wo, tupleItemsOf → VV
open PySem.Calls renaming call_function_entry → W4, Name_function_global → VT, spliced_cons → VZ, spliced_nil → V9
open PySem.Code renaming quiet_builtin → V4
open PySem.F renaming slot_dict_keyiterator_next → WH, args_tuple_add_2 → Vb, entry_tuple_add → Vh, slot_tuple_add → Vl
open PySem.Heap renaming get?_push_of_some → Yb, get?_push_size → Yo, lt_size → Yv, get?_update_self → Xr, get?_update_ne → XF, SameBut → Wc, size_push → Vs, ExtBut → UQ
open PySem.Heap.SameBut renaming update → Xg
open PySem.NameKind renaming free → Xo, cell → Wv
open PySem.Obj renaming data_mapFields → Xp, mapSeq → XD, mapFields → Wg, isFreed_of_fields → Wh, cls_mapFields → Vq
open PySem.Paired renaming length → Vd
open PySem.PassesOwn renaming never → XE
open PySem.SetFound renaming there → V6
open PySem.SetTable renaming grown → Vv, sizeAbove → V5, slot → Uh
open PySem.Str renaming ofString → WK
open PySem.Value renaming ref → YF, none → XO, type → XQ
open PySem.W renaming kas_sort → XB, kas_desc → X9, kia_one → WA, kas_place → WB, kas_rev → WG, kas_asc → W8, keepIn → V0, kas_descPart → UB
open PySem.W.KasT renaming ret → UR
open PySem.W.Looks renaming of_pure → Uj
open Sum renaming inr → WF, inl → Uo
open True renaming intro → WE
set_option backward.eqns.nonrecursive false
set_option genSizeOf false
set_option compiler.extract_closed false
set_option bootstrap.genMatcherCode false
set_option Elab.async false
set_option linter.all false
set_option maxRecDepth 100000
namespace L2
open PySem PySem.Spec PyProof.Rows
abbrev Key:=Sum Int Str
def keyIs:Key->Value->Bool
 | .inl k,v=>Value.isInt k v
 | .inr x,v=>Value.isStrOf x v
def keyH (w:World):Key->Int
 | .inl k=>hashInt k
 | .inr x=>hashStr w x
theorem ZaS:∀{k:Key} {v:Value},keyIs k v=true->(∃i t,k=Uo i/\v=Value.int i t)\/(∃x t,k=WF x/\v=Value.str x t)
 | .inl i,v,h=>by
  obtain ⟨t,e⟩:=Value.isInt_shape (k:=i) (v:=v) h
  exact .inl ⟨i,t,rfl,e⟩
 | .inr x,v,h=>by
  obtain ⟨t,e⟩:=Value.isStrOf_shape (x:=x) (v:=v) h
  exact .inr ⟨x,t,rfl,e⟩
theorem keyIs_int (i:Int)(t:Tok):keyIs (.inl i) (.int i t)=true:=by simp[keyIs,Value.isInt]
theorem keyIs_str (x:Str)(t:Tok):keyIs (.inr x) (.str x t)=true:=by simp[keyIs,Value.isStrOf]
theorem key_ll (a b:Int):decide ((Uo a:Key)=Uo b)=(a==b):=by
 by_cases e:a=b
 ·subst e;simp
 ·have h:¬(Uo a:Key)=Uo b:=fun q=>e (Sum.inl.inj q)
  rw[decide_eq_false h]
  exact (beq_eq_false_iff_ne.mpr e).symm
theorem key_rr (a b:Str):decide ((WF a:Key)=WF b)=decide (a=b):=by
 by_cases e:a=b
 ·subst e;simp
 ·have h:¬(WF a:Key)=WF b:=fun q=>e (Sum.inr.inj q)
  rw[decide_eq_false h,decide_eq_false e]
theorem key_lr (a:Int)(b:Str):decide ((Uo a:Key)=WF b)=false:=decide_eq_false (fun q=>nomatch q)
theorem key_rl (a:Str)(b:Int):decide ((WF a:Key)=Uo b)=false:=decide_eq_false (fun q=>nomatch q)
def mixKind (prog:YC)(w:World):PySem.KeyKind prog w Key where
 is:=keyIs
 hash:=keyH w
 inj:=fun v a b ha hb=>by
  rcases ZaS ha with ⟨i,t,rfl,rfl⟩ | ⟨x,t,rfl,rfl⟩
  ·rcases ZaS hb with ⟨j,u,rfl,e⟩ | ⟨y,u,rfl,e⟩
   ·injection e with e1 _;rw[e1]
   ·exact nomatch e
  ·rcases ZaS hb with ⟨j,u,rfl,e⟩ | ⟨y,u,rfl,e⟩
   ·exact nomatch e
   ·injection e with e1 _;rw[e1]
 byValue:=fun k v h=>by
  rcases ZaS h with ⟨i,t,rfl,rfl⟩ | ⟨x,t,rfl,rfl⟩<;>rfl
 pyHash:=fun hv h=>by
  rcases ZaS hv with ⟨i,t,rfl,rfl⟩ | ⟨x,t,rfl,rfl⟩
  ·exact wpAny_pyHash_int h
  ·exact wpAny_pyHash_str h
 eqBool:=fun hu hv h=>by
  rcases ZaS hu with ⟨i,t,rfl,rfl⟩ | ⟨x,t,rfl,rfl⟩
  ·rcases ZaS hv with ⟨j,u,rfl,rfl⟩ | ⟨y,u,rfl,rfl⟩
   ·rw[key_ll] at h;exact wpAny_eqBool_int h
   ·rw[key_lr] at h;exact SeqAt.EqAt.int_str i t y u _ _ _ _ h
  ·rcases ZaS hv with ⟨j,u,rfl,rfl⟩ | ⟨y,u,rfl,rfl⟩
   ·rw[key_rl] at h;exact SeqAt.EqAt.str_int x t j u _ _ _ _ h
   ·rw[key_rr] at h;exact wpAny_eqBool_str h
 «strs»:=fun k x t v h=>by
  rcases ZaS h with ⟨i,u,rfl,e⟩ | ⟨y,u,rfl,e⟩
  ·exact nomatch e
  ·injection e with e1 _
   subst e1
   cases v<;>rfl
theorem mixKind_int (prog:YC)(w:World)(i:Int)(t:Tok):(mixKind prog w).is (.inl i) (.int i t)=true:=keyIs_int i t
theorem mixKind_str (prog:YC)(w:World)(x:Str)(t:Tok):(mixKind prog w).is (.inr x) (.str x t)=true:=keyIs_str x t
inductive V where
 | non | bl (b:Bool) | int (i:Int) | str (x:Str) | byt (b:Array UInt8) | flt (b:UInt64) | ref (a:Addr) | ty (n:String)
 deriving DecidableEq
def RelV:V->Value->Prop
 | .non,u=>u=XO
 | .bl b,u=>u=Value.bool b
 | .int i,u=>∃t,u=Value.int i t
 | .str x,u=>∃t,u=Value.str x t
 | .byt b,u=>∃t,u=Value.bytes b t
 | .flt b,u=>∃t,u=Value.float b t
 | .ref a,u=>u=YF a
 | .ty n,u=>u=XQ n
abbrev Vals:List V->List Value->Prop:=Paired RelV
theorem Vals.length {xs:List V}{us:4e1}(r:Vals xs us):xs.length=us.length:=Vd r
theorem Vals.get:∀{xs:List V} {us:4e1} {i:Nat} {x:V},Vals xs us->xs[i]? = some x->∃u,us[i]? = some u/\RelV x u
 | _,_,_,_,.nil,e=>by simp at e
 | _,_,0,_,.cons r _,e=>by simp at e;subst e;exact ⟨_,rfl,r⟩
 | _,_,i + 1,x,.cons _ t,e=>by
  obtain ⟨u,h1,h2⟩:=Vals.get (i:=i) (x:=x) t (by simpa using e)
  exact ⟨u,by simpa using h1,h2⟩
theorem Vals.set {x:V}{u:Value}(r:RelV x u):∀{xs:List V} {us:4e1} (i:Nat),Vals xs us->Vals (xs.set i x) (us.set i u)
 | _,_,_,.nil=>.nil
 | _,_,0,.cons _ t=>.cons r t
 | _,_,i + 1,.cons q t=>.cons q (Vals.set r i t)
theorem Vals.append:∀{xs ys:List V} {us ws:4e1},Vals xs us->Vals ys ws->Vals (xs++ys) (us++ws)
 | _,_,_,_,.nil,s=>s
 | _,_,_,_,.cons r t,s=>.cons r (Vals.append t s)
theorem Vals.take:∀{xs:List V} {us:4e1} (n:Nat),Vals xs us->Vals (xs.take n) (us.take n)
 | _,_,0,_=>.nil
 | _,_,_ + 1,.nil=>.nil
 | _,_,n + 1,.cons r t=>.cons r (Vals.take n t)
theorem Vals.drop:∀{xs:List V} {us:4e1} (n:Nat),Vals xs us->Vals (xs.drop n) (us.drop n)
 | _,_,0,r=>r
 | _,_,_ + 1,.nil=>.nil
 | _,_,n + 1,.cons _ t=>Vals.drop n t
def RelO:Option V->Option Value->Prop
 | some v,some u=>RelV v u
 | none,none=>True
 | _,_=>False
def KV {κ:Type}:List (κ×V)->List (κ×Value)->Prop:=Paired fun (p:κ×V) (q:κ×Value)=>p.1=q.1/\RelV p.2 q.2
def kV:Key->V
 | .inl i=>.int i
 | .inr x=>.str x
inductive HO where
  | lst (xs:List V)
  | tup (xs:List V)
  | dK (kvs:List (Key×V)) | dT (kvs:List (List Key×V))
  | set (S:Int->Bool) (n:Nat)
  | ins (C dx:Addr) (fs:List (Str×V))
  | own (x:Addr)
  | xd (fs:List (Str×V))
  | met (f x:Addr)
  | rng (lo hi:Int)
  | frz (o:Obj) (u:HO)
  | tbl (ps:Array Value)
  | ext (φ:Heap->Prop)
abbrev Hp:=Addr->Option HO
def upd (H:Hp)(a:Addr)(o:HO):Hp:=fun b=>if b=a then some o else H b
theorem ZaQ {H:Hp}{a:Addr}{o:HO}:upd H a o a=some o:=by unfold upd;rw[if_pos rfl]
theorem Zax {H:Hp}{a b:Addr}{o:HO}(h:b≠a):upd H a o b=H b:=by unfold upd;rw[if_neg h]
theorem ne_of {H:Hp}{a b:Addr}{o u:HO}(h:H a=some o)(h':H b=some u)(d:o≠u):a≠b:=by
 intro e;subst e;rw[h] at h';exact d (YN h')
theorem Zas {H:Hp}{a b:Addr}{o:HO}(h:H a=some o)(h':H b=none):a≠b:=by
 intro e;subst e;rw[h] at h';cases h'
section
variable (P:YC)(w:World)
def ObjOk (H:Hp)(h:Heap)(a:Addr):HO->Prop
 | .lst xs=>xs.length<=Yt/\∃(its:4e1) (n:Nat),Vals xs its/\h.get? a=some { cls:=.type "list",data:=.seq its.toArray n }
 | .tup xs=>xs.length<=Yt/\∃its:List Value,Vals xs its/\IsTup h a its.toArray
 | .dK kvs=>kvs.length<=Yt/\(a==Wa)=false/\∃vs,KV kvs vs/\h.DictOf (mixKind P w) a vs
 | .dT kvs=>kvs.length<=Yt/\(a==Wa)=false/\∃xs:List 13e8,
   Paired (fun (p:List Key×V) (q:List Key×Addr×Value)=>p.1=q.1/\H q.2.1=some (.tup (p.1.map kV))/\RelV p.2 q.2.2) kvs xs/\
   ∃o es ep,h.get? a=some o/\o.ExactDict/\o.data=.dict es ep/\es.toList=xs.map (entryOfKey (WI (mixKind P w)))/\(xs.map (·.1)).Nodup
 | .set S n=>h.SetOf (intKind P w) a S n
 | .ins C dx fs=>H dx=some (.own a)/\fs.length<=1000/\dx≠a/\h.get? a=some (W.instObj C dx)/\
   ∃mA,h.Ns1 dx mA/\(∀f,RelO (fs.lookup f) (mA f))/\PySem.Within mA (fs.map (·.1))
 | .own _=>∃o,h.get? a=some o
 | .xd fs=>∃mA,h.Ns1 a mA/\∀f,RelO (fs.lookup f) (mA f)
 | .rng lo hi=>∃t u v,h.get? a=some { cls:=.type "range",data:=.fields #[.int lo t,.int hi u,.int 1 v] }
 | .frz o u=>h.get? a=some o/\ObjOk H h a u
 | .tbl ps=>h.get? a=some { cls:=.none,data:=.fields ps }
 | .met f x=>h.get? a=some (W.methodObj (.ref f) (.ref x))
 | .ext φ=>φ h/\(∃o,h.get? a=some o)/\∀h1 h2:Heap,φ h1->(∀o,h1.get? a=some o->h2.get? a=some o)->φ h2
def HOk (H:Hp)(h:Heap):Prop:=∀a o,H a=some o->ObjOk P w H h a o
end
section
variable {P:YC}{w:World}{H H':Hp}{h h':Heap}{a:Addr}{o:HO}
theorem ObjOk.lt (x:ObjOk P w H h a o):a < h.objs.size:=by
 cases o with
 | lst xs=>obtain ⟨_,_,_,_,e⟩:=x;exact Yv e
 | tup xs=>obtain ⟨_,_,_,p⟩:=x;exact p.lt
 | dK kvs=>obtain ⟨_,_,_,_,o,_,_,e,_⟩:=x;exact Yv e
 | dT kvs=>obtain ⟨_,_,_,_,o,_,_,e,_⟩:=x;exact Yv e
 | set S n=>obtain ⟨o,_,_,_,e,_⟩:=x;exact Yv e
 | ins C dx fs=>obtain ⟨_,_,_,e,_⟩:=x;exact Yv e
 | own y=>obtain ⟨_,e⟩:=x;exact Yv e
 | xd fs=>obtain ⟨_,⟨_,_,_,e,_⟩,_⟩:=x;exact Yv e
 | rng lo hi=>obtain ⟨_,_,_,e⟩:=x;exact Yv e
 | frz ob u=>obtain ⟨e,_⟩:=x;exact Yv e
 | tbl ps=>exact Yv (show h.get? a=some _ from x)
 | met f y=>exact Yv (show h.get? a=some _ from x)
 | ext φ=>obtain ⟨_,⟨_,e⟩,_⟩:=x;exact Yv e
theorem Paired.mapP {α β:Type}{F G:α->β->Prop}:∀{l₁:List α} {l₂:List β},Paired F l₁ l₂->(∀a b,F a b->G a b)->Paired G l₁ l₂
 | _,_,.nil,_=>.nil
 | _,_,.cons r t,f=>.cons (f _ _ r) (Paired.mapP t f)
theorem ObjOk.stay (x:ObjOk P w H h a o)(k:∀b u,(b=a\/H b=some (.own a))->h.get? b=some u->h'.get? b=some u)
  (ho:∀b,H b=some (.own a)->H' b=some (.own a)) (ht:∀b xs,H b=some (.tup xs)->H' b=some (.tup xs)):ObjOk P w H' h' a o:=by
 induction o with
 | lst xs=>obtain ⟨z,its,n,r,e⟩:=x;exact ⟨z,its,n,r,k _ _ 15e4 e⟩
 | tup xs=>obtain ⟨z,its,r,ob,e,c⟩:=x;exact ⟨z,its,r,ob,k _ _ 15e4 e,c⟩
 | dK kvs=>obtain ⟨z,y,vs,r,ob,es,ep,e,c⟩:=x;exact ⟨z,y,vs,r,ob,es,ep,k _ _ 15e4 e,c⟩
 | dT kvs=>
  obtain ⟨z,y,xs,r,ob,es,ep,e,c⟩:=x
  exact ⟨z,y,xs,Paired.mapP r fun p q z=>⟨z.1,ht _ _ z.2.1,z.2.2⟩,ob,es,ep,k _ _ 15e4 e,c⟩
 | set S n=>obtain ⟨ob,es,ep,t,e,c⟩:=x;exact ⟨ob,es,ep,t,k _ _ 15e4 e,c⟩
 | ins C dx fs=>
  obtain ⟨d,z,ne,e,mA,⟨od,es,ep,e2,c⟩,r⟩:=x
  exact ⟨ho _ d,z,ne,k _ _ 15e4 e,mA,⟨od,es,ep,k _ _ (.inr d) e2,c⟩,r⟩
 | own y=>obtain ⟨ob,e⟩:=x;exact ⟨ob,k _ _ 15e4 e⟩
 | xd fs=>obtain ⟨mA,⟨od,es,ep,e,c⟩,r⟩:=x;exact ⟨mA,⟨od,es,ep,k _ _ 15e4 e,c⟩,r⟩
 | rng lo hi=>obtain ⟨t,u,v,e⟩:=x;exact ⟨t,u,v,k _ _ 15e4 e⟩
 | frz ob u ih=>obtain ⟨e,q⟩:=x;exact ⟨k _ _ 15e4 e,ih q⟩
 | tbl ps=>
  have e:h.get? a=some { cls:=.none,data:=.fields ps }:=x
  show h'.get? a=some { cls:=.none,data:=.fields ps }
  exact k a _ 15e4 e
 | met f y=>
  have e:h.get? a=some (W.methodObj (.ref f) (.ref y)):=x
  show h'.get? a=some (W.methodObj (.ref f) (.ref y))
  exact k a _ 15e4 e
 | ext φ=>obtain ⟨p,⟨o,e⟩,st⟩:=x;exact ⟨st _ _ p fun o q=>k _ _ 15e4 q,⟨o,k _ _ 15e4 e⟩,st⟩
theorem HOk.lt (x:HOk P w H h)(e:H a=some o):a < h.objs.size:=(x a o e).lt
theorem HOk.fresh (x:HOk P w H h)(e:h.objs.size<=a):H a=none:=by
 cases q:H a with
 | none=>rfl
 | some u=>exact absurd (Yk (x.lt q) e) (XX _)
theorem HOk.kept (x:HOk P w H h)(k:∀b u,h.get? b=some u->h'.get? b=some u):HOk P w H h':=fun a o e=>
 (x a o e).stay (fun b u _ q=>k b u q) (fun _ q=>q) fun _ _ q=>q
theorem HOk.laid (x:HOk P w H h)(k:∀b u,h.get? b=some u->h'.get? b=some u)(hp:h.objs.size<=a)(new:ObjOk P w (upd H a o) h' a o):HOk P w (upd H a o) h':=fun b u e=>by
 have hn:=x.fresh hp
 by_cases hb:b=a
 ·subst hb;rw[ZaQ] at e;cases e;exact new
 ·rw[Zax hb] at e
  exact (x b u e).stay (fun c v _ q=>k c v q) (fun c q=>by rw[Zax (Zas q hn)];exact q) fun c xs q=>by rw[Zax (Zas q hn)];exact q
end
def Rd (H:Hp)(a:Addr)(u:HO):Prop:=H a=some u\/∃o,H a=some (.frz o u)
theorem Rd.ok {P:YC}{w:World}{H:Hp}{h:Heap}{a:Addr}{u:HO}(r:Rd H a u)(x:HOk P w H h):ObjOk P w H h a u:=by
 rcases r with r | ⟨o,r⟩
 ·exact x a u r
 ·obtain ⟨_,q⟩:=x a _ r
  exact q
def Mut:Option HO->Prop
 | some (.lst _)=>True
 | some (.dK _)=>True
 | some (.dT _)=>True
 | some (.set _ _)=>True
 | some (.ins _ _ _)=>True
 | some (.ext _)=>True
 | _=>False
section
variable {P:YC}{w:World}{H:Hp}{h h':Heap}{x e:Addr}{o':HO}
theorem HOk.write (ok:HOk P w H h)(mu:Mut (H x))(he:e=x\/H e=some (.own x))(k:∀b u,b≠e->h.get? b=some u->h'.get? b=some u)(heo:∃u,h'.get? e=some u)
  (new:ObjOk P w (upd H x o') h' x o'):HOk P w (upd H x o') h':=fun b u q=>by
 have nown:∀c y,H c=some (.own y)->c≠x:=fun c y r z=>by subst z;rw[r] at mu;exact mu
 have ntup:∀c xs,H c=some (.tup xs)->c≠x:=fun c xs r z=>by subst z;rw[r] at mu;exact mu
 by_cases hb:b=x
 ·subst hb;rw[ZaQ] at q;cases q;exact new
 ·rw[Zax hb] at q
  by_cases hbe:b=e
  ·have q':H b=some (.own x):=by
    rcases he with z | z
    ·exact absurd (hbe.trans z) hb
    ·rw[hbe];exact z
   rw[q] at q';cases q'
   obtain ⟨v,hv⟩:=heo
   exact ⟨v,by rw[hbe];exact hv⟩
  ·refine (ok b u q).stay (fun c v hc r=>k c v ?_ r) (fun c r=>by rw[Zax (nown c b r)];exact r) fun c xs r=>by rw[Zax (ntup c xs r)];exact r
   rcases hc with rfl | hc
   ·exact hbe
   ·rintro rfl
    rcases he with z | z
    ·exact nown c b hc z
    ·rw[hc] at z;cases z;exact hb rfl
end
structure Un (fs ex:List Addr)(H H':Hp)(h h':Heap):Prop where
 keep:∀b o,h.get? b=some o->H b=none->b∉fs->b∉ex->h'.get? b=some o
 slot:∀b o,h.get? b=some o->H b=none->b∈fs->b∉ex->∃sl,h'.get? b=some { o with slots:=sl }
 free:∀b o,h.get? b=some o->H b=none->b∉ex->H' b=none
 there:∀b o,h.get? b=some o->b∉ex->∃o',h'.get? b=some o'
 tups:∀b xs,H b=some (.tup xs)->H' b=some (.tup xs)
 frzs:∀b o u,H b=some (.frz o u)->H' b=some (.frz o u)
 tbls:∀b ps,H b=some (.tbl ps)->∃more,H' b=some (.tbl (ps++more))
section
variable {fs fs' ex ex':3e7}{H H1 H2:Hp}{h h1 h2 h':Heap}{a x e:Addr}{o:HO}
theorem Un.any (u:Un fs ex H H1 h h1){b:Addr}{ob:Obj}(q:h.get? b=some ob)(n:H b=none)(hx:b∉ex):∃sl,h1.get? b=some { ob with slots:=sl }:=by
 by_cases hb:b∈fs
 ·exact u.slot b ob q n hb hx
 ·exact ⟨ob.slots,u.keep b ob q n hb hx⟩
theorem Un.kept (k:∀b u,h.get? b=some u->h'.get? b=some u):Un fs ex H H h h':=
 ⟨fun b ob q _ _ _=>k b ob q,fun b ob q _ _ _=>⟨ob.slots,k b ob q⟩,fun _ _ _ n _=>n,fun b ob q _=>⟨ob,k b ob q⟩,fun _ _ q=>q,fun _ _ _ q=>q,fun _ ps q=>⟨#[],by rw[q];simp⟩⟩
theorem Un.refl:Un fs ex H H h h:=Un.kept fun _ _ q=>q
theorem Un.laid (k:∀b u,h.get? b=some u->h'.get? b=some u)(hp:h.objs.size<=a)(hn:H a=none):Un fs ex H (upd H a o) h h' where
 keep:=fun b u q _ _ _=>k b u q
 slot:=fun b u q _ _ _=>⟨u.slots,k b u q⟩
 free:=fun b u q n _=>by rw[Zax (Yq (Yk (Yv q) hp))];exact n
 there:=fun b u q _=>⟨u,k b u q⟩
 tups:=fun b xs q=>by rw[Zax (Zas q hn)];exact q
 frzs:=fun b u xs q=>by rw[Zax (Zas q hn)];exact q
 tbls:=fun b ps q=>⟨#[],by rw[Zax (Zas q hn),q];simp⟩
theorem Un.write (mu:Mut (H x))(he:e=x\/H e=some (.own x))(k:∀b u,b≠e->h.get? b=some u->h'.get? b=some u)(heo:∃u,h'.get? e=some u):Un fs ex H (upd H x o) h h':=by
 have hx:∀b,H b=none->b≠x:=fun b n z=>by subst z;rw[n] at mu;exact mu
 have hb:∀b,H b=none->b≠e:=fun b n z=>by
  subst z
  rcases he with r | r
  ·exact hx b n r
  ·rw[n] at r;cases r
 have hm:∀b u,H b=some u->¬Mut (some u)->b≠x:=fun b u q nm z=>by subst z;rw[q] at mu;exact nm mu
 refine ⟨fun b u q n _ _=>k b u (hb b n) q,fun b u q n _ _=>⟨u.slots,k b u (hb b n) q⟩,fun b u q n _=>by rw[Zax (hx b n)];exact n,fun b u q _=>?_,
  fun b xs q=>by rw[Zax (hm b _ q fun z=>z)];exact q,fun b u xs q=>by rw[Zax (hm b _ q fun z=>z)];exact q,fun b ps q=>⟨#[],by rw[Zax (hm b _ q fun z=>z),q];simp⟩⟩
 by_cases hbe:b=e
 ·subst hbe;exact heo
 ·exact ⟨u,k b u hbe q⟩
end
def trk (h:Heap)(H:Hp):List Addr:=(Yl h.objs.size).filter fun a=>(H a).isSome
def hidT (h:Heap)(H:Hp):Heap:=W.hideAll h (trk h H)
theorem hidT_size (h:Heap)(H:Hp):(hidT h H).objs.size=h.objs.size:=W.hideAll_size _ _
theorem hidT_get {h:Heap}{H:Hp}{b:Addr}{o:Obj}(e:h.get? b=some o)(n:H b=none):(hidT h H).get? b=some o:=
 W.hideAll_get _ e fun hm=>by
  have q:(H b).isSome=true:=(Xj.mp hm).2
  rw[n] at q;simp at q
theorem of_hidT {h:Heap}{H:Hp}{b:Addr}{o:Obj}(e:(hidT h H).get? b=some o):h.get? b=some o/\H b=none:=by
 have e':h.get? b=some o:=W.of_hideAll (trk h H) e
 refine ⟨e',?_⟩
 cases q:H b with
 | none=>rfl
 | some x=>
  have hm:b∈trk h H:=Xj.mpr ⟨Y1.mpr (Yv e'),by simp[q]⟩
  have z:(hidT h H).get? b=none:=W.hideAll_none (trk h H) hm
  rw[z] at e;cases e
def allNews (g h:Heap)(L:Addr):List (Addr×Obj):=(Yl h.objs.size).filterMap fun a=>if a=L\/(g.get? a).isSome=true then none else (h.get? a).map fun o=>(a,o)
def rest (g h:Heap)(L d:Addr):List (Addr×Obj):=(allNews g h L).filter fun p=>decide (p.1≠d)
structure Mod (K:W.Frag)(mg:Str->Option Value)(base:Heap):Prop where
 kin:K.In base
 glob:base.Ns Uf mg
 blt:∃mb,base.Ns builtinsNs mb/\∀x:Str,x≠"__name__"->mb x=Xb x
 nolimit:base.NoLimit
structure Cx where
 prog:YC
 w:World
 K:W.Frag
 mg:Str->Option Value
 base:Heap
 A:Around
 N:List Str
 s₀:Shared
 H₀:Hp
 env:Env
 outer:List Env
 stack:List Env
 ex:List Addr
 fn:Str->Bool
 calm:Bool
 pn:List (Addr×Obj)
 xe:Value->Shared->Prop
def frs (l:List Env):List Addr:=l.filterMap (·.frame)
abbrev Cx.fs (X:Cx):List Addr:=frs X.outer
def Vis (sc:Scope)(x:Str):Prop:=sc.names.lookup x=some .local\/sc.names.lookup x=some .cell\/sc.names.lookup x=some .free
def Loc (sc:Scope)(x:Str):Prop:=sc.names.lookup x=some .local\/sc.names.lookup x=some .cell
def Look (env:Env)(h:Heap)(m:3e1)(x:Str)(u:Value):Prop:=
 (env.kindOf x=some .local/\m x=some u)\/((env.kindOf x=some .cell\/env.kindOf x=some .free)/\∃c,env.cells.lookup x=some c/\h.IsCell c (some u))
structure Cx.Ok (X:Cx):Prop where
 mod:Mod X.K X.mg X.base
 kind:X.env.scope.kind=.function
 glob:X.env.globals=Uf
 blt:X.env.builtins=builtinsNs
 above:X.s₀.heap.objs.size<=X.env.locals
 inj:∀x y c,X.env.cells.lookup x=some c->X.env.cells.lookup y=some c->x=y
 has:∀x,(X.env.kindOf x=some .cell\/X.env.kindOf x=some .free)->∃c,X.env.cells.lookup x=some c
 cab:∀x c,X.fn x=true->X.env.cells.lookup x=some c->X.s₀.heap.objs.size<=c
 hd:X.calm=true->X.A.handled=none
 frames:X.A.frames=some X.stack
 stk:X.stack=X.outer\/(X.stack=X.env::X.outer/\X.env.frame=some X.env.locals)
 exf:∀b∈X.ex,b≠X.env.locals/\∀x c,X.env.cells.lookup x=some c->c≠b
 bs:∀b o,X.base.get? b=some o->X.s₀.heap.get? b=some o/\X.H₀ b=none
 bsz:X.base.objs.size<=X.s₀.heap.objs.size
 noex:∀b o,X.base.get? b=some o->b∉X.ex
 exfs:∀b∈X.ex,b∉X.fs
 funs:X.s₀.heap.FunFrames X.base X.outer
 frf:∀b∈X.fs,X.H₀ b=none
structure Inv (X:Cx)(pins:List (Addr×Obj))(σ:List (Option V))(H:Hp)(s:Shared):Prop where
 ok:X.Ok
 os:s.os=X.s₀.os
 bare:Up s.gens
 base:Un X.fs X.ex X.H₀ H X.s₀.heap s.heap
 loc:∃m,s.heap.Ns X.env.locals m/\∀(i:Nat) (x:Str) (v:V),X.N[i]? = some x->σ[i]? = some (some v)->Vis X.env.scope x->∃u,RelV v u/\Look X.env s.heap m x u
 cell:∀x c,X.env.cells.lookup x=some c->∃v,s.heap.IsCell c v
 free:H X.env.locals=none
 freeC:∀x c,X.env.cells.lookup x=some c->H c=none
 pin:∀p∈X.pn++pins,s.heap.get? p.1=some p.2/\H p.1=none/\p.1≠X.env.locals/\p.1∉X.fs/\∀v,p.2.data≠.cell v
 hok:HOk X.prog X.w H s.heap
 len:σ.length=X.N.length
section
variable {X:Cx}{pins:2e0}{σ:List (Option V)}{H H':Hp}{s:Shared}{h':Heap}
theorem Cx.Ok.nofr (ok:X.Ok){b:Addr}{o:Obj}(e:X.base.get? b=some o):b∉X.fs:=fun hb=>by
 have:=(ok.funs.mem hb).1
 rw[e] at this;cases this
theorem Inv.bs (I:2e3):∀b o,X.base.get? b=some o->s.heap.get? b=some o/\H b=none:=fun b o e=>
 ⟨I.base.keep b o (I.ok.bs b o e).1 (I.ok.bs b o e).2 (I.ok.nofr e) (I.ok.noex b o e),I.base.free b o (I.ok.bs b o e).1 (I.ok.bs b o e).2 (I.ok.noex b o e)⟩
theorem Inv.bk (I:2e3):∀b o,X.base.get? b=some o->s.heap.get? b=some o:=fun b o e=>(I.bs b o e).1
theorem Inv.mod (I:2e3):Mod X.K X.mg X.base:=I.ok.mod
theorem Inv.kIn (I:2e3):X.K.In s.heap:=I.ok.mod.kin.keeps I.bk
theorem Inv.lt (I:2e3):X.env.locals < s.heap.objs.size:=let ⟨_,hn,_⟩:=I.loc;hn.lt
theorem Inv.sz (I:2e3):X.s₀.heap.objs.size<=s.heap.objs.size:=YR I.ok.above (XA I.lt)
theorem Inv.nofs (I:2e3){a:Addr}(h:s.heap.objs.size<=a):a∉X.fs:=fun hb=>by
 obtain ⟨_,o,ho,_⟩:=I.ok.funs.mem hb
 exact absurd (Yk (Yv ho) (YR I.sz h)) (XX _)
theorem Inv.cne (I:2e3):∀x c,X.env.cells.lookup x=some c->c≠X.env.locals:=fun x c e z=>by
 obtain ⟨v,o,ho,hd⟩:=I.cell x c e
 obtain ⟨m,⟨o',es,ep,ho',hd',_⟩,_⟩:=I.loc
 rw[z,ho'] at ho;cases ho;rw[hd'] at hd;cases hd
theorem Inv.funs (I:2e3):s.heap.FunFrames X.base X.outer:=by
 have all:∀(l:List Env),(∀b∈frs l,b∈X.fs)->X.s₀.heap.FunFrames X.base l->s.heap.FunFrames X.base l:=by
  intro l
  induction l with
  | nil=>intro _ _;trivial
  | cons env r ih=>
   intro hs hl
   obtain ⟨hk,⟨L,o,hf,hn,ho,hd⟩,hr⟩:=hl
   have hL:L∈X.fs:=hs L (by unfold frs;rw[Wt,hf];exact YA)
   obtain ⟨sl,e⟩:=I.base.slot L o ho (I.ok.frf L hL) hL fun z=>I.ok.exfs L z hL
   exact ⟨hk,⟨L,_,hf,hn,e,hd⟩,ih (fun b hb=>hs b (by unfold frs;rw[Wt,hf];exact YO _ hb)) hr⟩
 exact all X.outer (fun _ hb=>hb) I.ok.funs
theorem Inv.stack (I:2e3):s.heap.FunFrames X.base X.stack:=by
 rcases I.ok.stk with e | ⟨e,hf⟩
 ·rw[e];exact I.funs
 ·rw[e]
  obtain ⟨m,hn,_⟩:=I.loc
  refine .cons (by rw[I.ok.kind];decide) hf hn ?_ I.funs
  exact Heap.get?_none_of_le (YR I.ok.bsz I.ok.above)
theorem Inv.stkSub (I:2e3):∀b∈frs X.stack,b∈X.env.locals::X.fs:=fun b hb=>by
 rcases I.ok.stk with e | ⟨e,hf⟩
 ·rw[e] at hb;exact YO _ hb
 ·rw[e] at hb
  unfold frs at hb
  rw[Wt,hf] at hb
  exact hb
theorem Inv.stkFree (I:2e3):∀b∈frs X.stack,H b=none:=fun b hb=>by
 rcases Yn.mp (I.stkSub b hb) with e | hb
 ·rw[e];exact I.free
 ·obtain ⟨_,o,ho,_⟩:=I.ok.funs.mem hb
  exact I.base.free b o ho (I.ok.frf b hb) fun z=>I.ok.exfs b z hb
theorem Inv.step {g':Array GenState}{t':Nat}{d':Drawn}{ch:3e7}(I:2e3)
  (hch:∀b∈ch,(b∈X.ex\/X.s₀.heap.objs.size<=b)/\b≠X.env.locals/\(∀x c,X.env.cells.lookup x=some c->c≠b)/\∀p∈X.pn++pins,p.1≠b)
  (keep:∀b o,b≠X.env.locals->b∉X.fs->b∉ch->s.heap.get? b=some o->H b=none->h'.get? b=some o)
  (slot:∀b o,b≠X.env.locals->b∈X.fs->b∉ch->s.heap.get? b=some o->H b=none->∃sl,h'.get? b=some { o with slots:=sl }) (free:∀b o,b∉ch->s.heap.get? b=some o->H b=none->H' b=none)
  (there:∀b o,b∉ch->s.heap.get? b=some o->∃o',h'.get? b=some o')
  (tups:∀b xs,H b=some (.tup xs)->H' b=some (.tup xs)) (frzs:∀b o u,H b=some (.frz o u)->H' b=some (.frz o u)) (tbls:∀b ps,H b=some (.tbl ps)->∃more,H' b=some (.tbl (ps++more)))
  (ns:∀m,s.heap.Ns X.env.locals m->h'.Ns X.env.locals m) (hok:HOk X.prog X.w H' h') (hg:Up g'):
  Inv X pins σ H' { s with heap:=h',gens:=g',drawn:=d',toks:=t' }:=by
 have neL:∀b o,X.s₀.heap.get? b=some o->b≠X.env.locals:=fun b o e=>Yq (Yk (Yv e) I.ok.above)
 have neC:∀b o,X.s₀.heap.get? b=some o->b∉X.ex->b∉ch:=fun b o e hx hb=>by
  rcases (hch b hb).1 with z | z
  ·exact hx z
  ·exact absurd (Yk (Yv e) z) (XX _)
 have cellK:∀x c,X.env.cells.lookup x=some c->∀v,s.heap.IsCell c v->h'.IsCell c v:=fun x c e v h_=>by
  obtain ⟨o,ho,hd⟩:=h_
  have nch:c∉ch:=fun z=>(hch c z).2.2.1 x c e rfl
  by_cases hc:c∈X.fs
  ·obtain ⟨sl,q⟩:=slot c o (I.cne x c e) hc nch ho (I.freeC x c e)
   exact ⟨_,q,hd⟩
  ·exact ⟨o,keep c o (I.cne x c e) hc nch ho (I.freeC x c e),hd⟩
 refine ⟨I.ok,I.os,hg,⟨fun b o e n hb hx=>?_,fun b o e n hb hx=>?_,fun b o e n hx=>?_,fun b o e hx=>?_,fun b xs e=>tups b xs (I.base.tups b xs e),fun b o xs e=>frzs b o xs (I.base.frzs b o xs e),fun b ps e=>?_⟩,?_,fun x c e=>?_,?_,fun x c e=>?_,fun p hp=>?_,hok,I.len⟩
 ·exact keep b o (neL b o e) hb (neC b o e hx) (I.base.keep b o e n hb hx) (I.base.free b o e n hx)
 ·obtain ⟨sl,e1⟩:=I.base.slot b o e n hb hx
  obtain ⟨sl',e2⟩:=slot b _ (neL b o e) hb (neC b o e hx) e1 (I.base.free b o e n hx)
  exact ⟨sl',e2⟩
 ·obtain ⟨o',e1⟩:=I.base.there b o e hx
  exact free b o' (neC b o e hx) e1 (I.base.free b o e n hx)
 ·obtain ⟨o',e1⟩:=I.base.there b o e hx
  exact there b o' (neC b o e hx) e1
 ·obtain ⟨m1,e1⟩:=I.base.tbls b ps e
  obtain ⟨m2,e2⟩:=tbls b _ e1
  exact ⟨m1++m2,by rw[e2,Array.append_assoc]⟩
 ·obtain ⟨m,hn,hl⟩:=I.loc
  refine ⟨m,ns m hn,fun i x v e1 e2 e3=>?_⟩
  obtain ⟨u,r,l⟩:=hl i x v e1 e2 e3
  refine ⟨u,r,?_⟩
  rcases l with l | ⟨k,c,e,z⟩
  ·exact .inl l
  ·exact .inr ⟨k,c,e,cellK x c e _ z⟩
 ·obtain ⟨v,z⟩:=I.cell x c e
  exact ⟨v,cellK x c e v z⟩
 ·obtain ⟨m,⟨o,_,_,ho,_⟩,_⟩:=I.loc
  exact free _ o (fun z=>(hch _ z).2.1 rfl) ho I.free
 ·obtain ⟨v,o,ho,hd⟩:=I.cell x c e
  exact free c o (fun z=>(hch c z).2.2.1 x c e rfl) ho (I.freeC x c e)
 ·obtain ⟨e,n,ne,nf,d⟩:=I.pin p hp
  have nch:p.1∉ch:=fun z=>(hch p.1 z).2.2.2 p hp rfl
  exact ⟨keep p.1 p.2 ne nf nch e n,free p.1 p.2 nch e n,ne,nf,d⟩
theorem Inv.un {t':Nat}(I:2e3)(u:Un X.fs [] H H' s.heap h')(hok:HOk X.prog X.w H' h'):Inv X pins σ H' { s with heap:=h',toks:=t' }:=by
 obtain ⟨m,⟨o,es,ep,ho,r⟩,_⟩:=id I.loc
 obtain ⟨sl,hL⟩:=u.any ho I.free 3e8
 exact I.step (g':=s.gens) (d':=s.drawn) (ch:=[]) (fun _ z=>nomatch z) (fun b o _ hb _ e n=>u.keep b o e n hb 3e8) (fun b o _ hb _ e n=>u.slot b o e n hb 3e8) (fun b o _ e n=>u.free b o e n 3e8) (fun b o _ e=>u.there b o e 3e8) u.tups u.frzs u.tbls (fun m' hm=>by
  obtain ⟨o',es',ep',ho',r'⟩:=hm
  rw[ho] at ho';cases ho'
  exact ⟨_,es',ep',hL,r'⟩) hok I.bare
theorem Inv.call {g':Array GenState}{t':Nat}{d':Drawn}{ch:3e7}(I:2e3)(u:Un (frs X.stack) ch H H' s.heap h')(hok:HOk X.prog X.w H' h')(hg:Up g')
  (hch:∀b∈ch,(b∈X.ex\/X.s₀.heap.objs.size<=b)/\b≠X.env.locals/\(∀x c,X.env.cells.lookup x=some c->c≠b)/\∀p∈X.pn++pins,p.1≠b):
  Inv X pins σ H' { s with heap:=h',gens:=g',drawn:=d',toks:=t' }:=by
 obtain ⟨m,⟨o,es,ep,ho,r⟩,_⟩:=id I.loc
 obtain ⟨sl,hL⟩:=u.any ho I.free fun z=>(hch _ z).2.1 rfl
 exact I.step (ch:=ch) hch (fun b o hL hb hc e n=>u.keep b o e n (fun z=>(Yn.mp (I.stkSub b z)).elim hL hb) hc) (fun b o _ _ hc e n=>u.any e n hc) (fun b o hc e n=>u.free b o e n hc) (fun b o hc e=>u.there b o e hc) u.tups u.frzs u.tbls (fun m' hm=>by
  obtain ⟨o',es',ep',ho',r'⟩:=hm
  rw[ho] at ho';cases ho'
  exact ⟨_,es',ep',hL,r'⟩) hok hg
theorem Inv.turned {t':Nat}{it:Addr}(I:2e3)(k:∀b o,b≠it->s.heap.get? b=some o->h'.get? b=some o)(hn:H it=none)(hL:it≠X.env.locals)
  (h1:it∈X.ex\/X.s₀.heap.objs.size<=it) (h2:∀x c,X.env.cells.lookup x=some c->c≠it) (h3:∀p∈X.pn++pins,p.1≠it):Inv X pins σ H { s with heap:=h',toks:=t' }:=by
 have nit:∀b u,H b=some u->b≠it:=fun b u e z=>by rw[z,hn] at e;cases e
 refine I.step (g':=s.gens) (d':=s.drawn) (ch:=[it]) (fun b hb=>?_) (fun b o _ _ hc e _=>k b o (fun z=>hc (by simp[z])) e) (fun b o _ _ hc e _=>⟨o.slots,k b o (fun z=>hc (by simp[z])) e⟩) (fun _ _ _ _ n=>n)
  (fun b o hc e=>⟨o,k b o (fun z=>hc (by simp[z])) e⟩) (fun _ _ e=>e) (fun _ _ _ e=>e) (fun b ps e=>⟨#[],by rw[e];simp⟩) (fun m hm=>?_) (fun b u e=>?_) I.bare
 ·have e:b=it:=by simpa using hb
  subst e
  exact ⟨h1,hL,h2,h3⟩
 ·obtain ⟨o,es,ep,ho,r⟩:=hm
  exact ⟨o,es,ep,k _ o (Xw hL) ho,r⟩
 ·refine (I.hok b u e).stay (fun c v hc q=>k c v ?_ q) (fun _ q=>q) fun _ _ q=>q
  rcases hc with z | z
  ·rw[z];exact nit b u e
  ·exact nit c _ z
theorem Inv.tok (I:2e3)(t:Nat):Inv X pins σ H { s with toks:=t }:=I.un (h':=s.heap) (t':=t) Un.refl I.hok
theorem Inv.kept {t':Nat}(I:2e3)(k:∀b u,s.heap.get? b=some u->h'.get? b=some u):Inv X pins σ H { s with heap:=h',toks:=t' }:=I.un (Un.kept k) (I.hok.kept k)
theorem Inv.laid {a:Addr}{o:HO}{t':Nat}(I:2e3)(k:∀b u,s.heap.get? b=some u->h'.get? b=some u)(hp:s.heap.objs.size<=a)(new:ObjOk X.prog X.w (upd H a o) h' a o):
  Inv X pins σ (upd H a o) { s with heap:=h',toks:=t' }:=I.un (Un.laid k hp (I.hok.fresh hp)) (I.hok.laid k hp new)
theorem Inv.write {x e:Addr}{o:HO}{t':Nat}(I:2e3)(mu:Mut (H x))(he:e=x\/H e=some (.own x))(k:∀b u,b≠e->s.heap.get? b=some u->h'.get? b=some u)(heo:∃u,h'.get? e=some u)
  (new:ObjOk X.prog X.w (upd H x o) h' x o):Inv X pins σ (upd H x o) { s with heap:=h',toks:=t' }:=I.un (Un.write mu he k heo) (I.hok.write mu he k heo new)
theorem Inv.pins_of {pins':2e0}(I:2e3)(h:∀p∈pins',s.heap.get? p.1=some p.2/\H p.1=none/\p.1≠X.env.locals/\p.1∉X.fs/\∀v,p.2.data≠.cell v):Inv X pins' σ H s:=
 ⟨I.ok,I.os,I.bare,I.base,I.loc,I.cell,I.free,I.freeC,fun p hp=>(Yz.mp hp).elim (fun z=>I.pin p (Yx _ z)) (h p),I.hok,I.len⟩
theorem nodup_ix {N:5e6}(hN:N.Nodup){i j:Nat}{x:Str}(a:N[i]? = some x)(b:N[j]? = some x):i=j:=by
 obtain ⟨h1,e1⟩:=YS.mp a
 obtain ⟨h2,e2⟩:=YS.mp b
 exact (Wz hN).mp (e1.trans e2.symm)
theorem store_ok2 {M:Model}{A:Around}{E:1e5}{i:Nat}{x:Str}{v:V}{u:Value}{Q:Unit->Shared->Prop}(I:2e3)(hN:X.N.Nodup)(hi:X.N[i]? = some x)(hx:Loc X.env.scope x)(r:RelV v u)
  (h:∀s',Inv X pins (σ.set i (some v)) H s'->(∃a,Wc a s.heap s'.heap/\(a=X.env.locals\/X.env.cells.lookup x=some a))->Q () s') (hf:7e0:=by first | exact .inl rfl | exact .inr rfl | assumption):wpAny M A (storeName X.env x u) Q E s:=by
 obtain ⟨m,hn,hl⟩:=id I.loc
 have hcls:(X.env.scope.kind==.class||(X.env.scope.kind==.module&&X.env.locals != X.env.globals))=false:=by rw[I.ok.kind];rfl
 have hiσ:i < σ.length:=by rw[I.len];exact (YS.mp hi).1
 have cne:=I.cne
 have tracked:∀{a:Addr} {h':Heap},(∃o,s.heap.get? a=some o/\H a=none)->Wc a s.heap h'->HOk X.prog X.w H h':=fun {a h'} ha hs b ob e=>by
  obtain ⟨_,_,hfree⟩:=ha
  refine (I.hok b ob e).stay (fun c w' hc q=>(hs.2 c ?_).trans q) (fun _ q=>q) fun _ _ q=>q
  rintro rfl
  rcases hc with rfl | hc
  ·rw[hfree] at e;cases e
  ·rw[hfree] at hc;cases hc
 rcases hx with hk | hk
 ·refine wpAny_storeName_local hk hn (fun h' hn' hs=>?_) hcls
  obtain ⟨oL,_,_,hoL,_⟩:=id hn
  refine h _ ⟨I.ok,I.os,I.bare,⟨fun b o e n hb hx=>?_,fun b o e n hb hx=>?_,I.base.free,fun b o e hx=>?_,I.base.tups,I.base.frzs,I.base.tbls⟩,⟨_,hn',fun j y v' e1 e2 e3=>?_⟩,fun y c e=>?_,I.free,I.freeC,fun p hp=>?_,tracked ⟨oL,hoL,I.free⟩ hs,by simpa using I.len⟩ ⟨_,hs,.inl rfl⟩
  ·exact (hs.2 b (Yq (Yk (Yv e) I.ok.above))).trans (I.base.keep b o e n hb hx)
  ·obtain ⟨sl,e1⟩:=I.base.slot b o e n hb hx
   exact ⟨sl,(hs.2 b (Yq (Yk (Yv e) I.ok.above))).trans e1⟩
  ·obtain ⟨o',e1⟩:=I.base.there b o e hx
   exact ⟨o',(hs.2 b (Yq (Yk (Yv e) I.ok.above))).trans e1⟩
  ·by_cases hj:j=i
   ·subst hj
    rw[hi] at e1;cases e1
    rw[XC hiσ] at e2
    cases e2
    exact ⟨u,r,.inl ⟨hk,by simp⟩⟩
   ·rw[Yy (Xw hj)] at e2
    obtain ⟨u',r',q⟩:=hl j y v' e1 e2 e3
    refine ⟨u',r',?_⟩
    rcases q with ⟨k,e⟩ | ⟨k,c,e,z⟩
    ·refine .inl ⟨k,?_⟩
     have:y≠x:=fun e=>hj (nodup_ix hN e1 (e ▸ hi))
     simp[this,e]
    ·exact .inr ⟨k,c,e,z.sameBut hs (cne y c e)⟩
  ·obtain ⟨w',z⟩:=I.cell y c e
   exact ⟨w',z.sameBut hs (cne y c e)⟩
  ·obtain ⟨e,n,ne,nf,d⟩:=I.pin p hp
   exact ⟨(hs.2 p.1 ne).trans e,n,ne,nf,d⟩
 ·have hfn:X.fn x=true:=by
   rcases hf with z | z
   ·exact z
   ·rw[z] at hk;cases hk
  obtain ⟨c,hc⟩:=I.ok.has x (.inl hk)
  obtain ⟨w',z⟩:=I.cell x c hc
  refine wpAny_storeName_cell I.ok.kind hk hc z (fun h' hc' hs=>?_)
  obtain ⟨oc,hoc,hocd⟩:=id z
  refine h { s with heap:=h' } ⟨I.ok,I.os,I.bare,⟨fun b o e n hb hx=>?_,fun b o e n hb hx=>?_,I.base.free,fun b o e hx=>?_,I.base.tups,I.base.frzs,I.base.tbls⟩,⟨m,hn.sameBut hs (Xw (cne x c hc)),fun j y v' e1 e2 e3=>?_⟩,fun y c' e=>?_,I.free,I.freeC,fun p hp=>?_,tracked ⟨oc,hoc,I.freeC x c hc⟩ hs,by simpa using I.len⟩ ⟨c,hs,.inr hc⟩
  ·exact (hs.2 b (Yq (Yk (Yv e) (I.ok.cab x c hfn hc)))).trans (I.base.keep b o e n hb hx)
  ·obtain ⟨sl,e1⟩:=I.base.slot b o e n hb hx
   exact ⟨sl,(hs.2 b (Yq (Yk (Yv e) (I.ok.cab x c hfn hc)))).trans e1⟩
  ·obtain ⟨o',e1⟩:=I.base.there b o e hx
   exact ⟨o',(hs.2 b (Yq (Yk (Yv e) (I.ok.cab x c hfn hc)))).trans e1⟩
  ·by_cases hj:j=i
   ·subst hj
    rw[hi] at e1;cases e1
    rw[XC hiσ] at e2
    cases e2
    exact ⟨u,r,.inr ⟨.inl hk,c,hc,hc'⟩⟩
   ·rw[Yy (Xw hj)] at e2
    obtain ⟨u',r',q⟩:=hl j y v' e1 e2 e3
    refine ⟨u',r',?_⟩
    rcases q with q | ⟨k,c',e,z'⟩
    ·exact .inl q
    ·refine .inr ⟨k,c',e,z'.sameBut hs ?_⟩
     rintro rfl
     exact hj (nodup_ix hN e1 (I.ok.inj _ _ _ e hc ▸ hi))
  ·by_cases hcc:c'=c
   ·subst hcc;exact ⟨_,hc'⟩
   ·obtain ⟨w2,z2⟩:=I.cell y c' e
    exact ⟨w2,z2.sameBut hs hcc⟩
  ·obtain ⟨e,n,ne,nf,d⟩:=I.pin p hp
   refine ⟨(hs.2 p.1 ?_).trans e,n,ne,nf,d⟩
   intro q
   rw[q,hoc] at e
   have q':oc=p.2:=YN e
   exact d w' (by rw[←q'];exact hocd)
theorem store_ok {M:Model}{A:Around}{E:1e5}{i:Nat}{x:Str}{v:V}{u:Value}{Q:Unit->Shared->Prop}(I:2e3)(hN:X.N.Nodup)(hi:X.N[i]? = some x)(hx:Loc X.env.scope x)(r:RelV v u)
  (h:∀s',Inv X pins (σ.set i (some v)) H s'->Q () s') (hf:7e0:=by first | exact .inl rfl | exact .inr rfl | assumption):wpAny M A (storeName X.env x u) Q E s:=
 store_ok2 I hN hi hx r (fun s' I' _=>h s' I') hf
theorem Inv.call' {s':Shared}{ch:3e7}(I:2e3)(ho:s'.os=s.os)(u:Un (frs X.stack) ch H H' s.heap s'.heap)(hok:HOk X.prog X.w H' s'.heap)(hg:Up s'.gens)
  (hch:∀b∈ch,(b∈X.ex\/X.s₀.heap.objs.size<=b)/\b≠X.env.locals/\(∀x c,X.env.cells.lookup x=some c->c≠b)/\∀p∈X.pn++pins,p.1≠b):Inv X pins σ H' s':=by
 obtain ⟨h',g',d',t',o'⟩:=s'
 have e:o'=s.os:=ho
 subst e
 exact I.call (g':=g') (t':=t') (d':=d') u hok hg hch
end
abbrev XK:=Value->Option Addr->Hp->Prop
abbrev St:=List (Option V)
abbrev VK:=V->Hp->Prop
abbrev TE:=St->Hp->VK->Prop
abbrev TT:=St->Hp->(Bool->Hp->Prop)->Prop
abbrev TA:=St->Hp->(List V->Hp->Prop)->Prop
structure Ends where
 nx:St->Hp->Prop
 rt:VK
 bk:St->Hp->Prop:=fun _ _=>False
 ct:St->Hp->Prop:=fun _ _=>False
abbrev TS:=Ends->St->Hp->Prop
def EP (X:Cx)(pins:2e0)(σ:St)(Q:VK)(u:Value)(s':Shared):Prop:=∃v H',Inv X pins σ H' s'/\RelV v u/\Q v H'
def TP (X:Cx)(pins:2e0)(σ:St)(Q:Bool->Hp->Prop)(b:Bool)(s':Shared):Prop:=∃H',Inv X pins σ H' s'/\Q b H'
def AP (X:Cx)(pins:2e0)(σ:St)(Q:List V->Hp->Prop)(us:4e1)(s':Shared):Prop:=∃vs H',Inv X pins σ H' s'/\Vals vs us/\Q vs H'
def SP (X:Cx)(pins:2e0)(D:Ends)(f:Flow)(s':Shared):Prop:=
 match f with
 | .next=>∃σ' H',Inv X pins σ' H' s'/\D.nx σ' H'
 | .brk=>∃σ' H',Inv X pins σ' H' s'/\D.bk σ' H'
 | .cont=>∃σ' H',Inv X pins σ' H' s'/\D.ct σ' H'
 | .ret u=>∃v σ' H',Inv X pins σ' H' s'/\RelV v u/\D.rt v H'
def PE (X:Cx)(e:Expr)(t:TE):Prop:=
 ∀(pins:2e0) (s:Shared) (σ:St) (H:Hp) (Q:VK),Inv X pins σ H s->t σ H Q->wpAny 2e4 X.A (eval e X.env) (EP X pins σ Q) X.xe s
def PT (X:Cx)(e:Expr)(t:TT):Prop:=
 ∀(pins:2e0) (s:Shared) (σ:St) (H:Hp) (Q:Bool->Hp->Prop),Inv X pins σ H s->t σ H Q->wpAny 2e4 X.A (isTrue e X.env (eval e X.env)) (TP X pins σ Q) X.xe s
def PW (X:Cx)(e:Expr)(t:TT):Prop:=
 ∀(whole:Sem Value) (pins:2e0) (s:Shared) (σ:St) (H:Hp) (Q:Bool->Hp->Prop),Inv X pins σ H s->t σ H Q->wpAny 2e4 X.A (isTrue e X.env whole) (TP X pins σ Q) X.xe s
def PA (X:Cx)(es:5e9)(t:TA):Prop:=
 ∀(pos:Pos) (pins:2e0) (s:Shared) (σ:St) (H:Hp) (Q:List V->Hp->Prop),Inv X pins σ H s->t σ H Q->wpAny 2e4 X.A (spliced (backTo pos (Yp es X.env))) (AP X pins σ Q) X.xe s
def PS (X:Cx)(st:Stmt)(t:TS):Prop:=
 ∀(pins:2e0) (s:Shared) (σ:St) (H:Hp) (D:Ends),Inv X pins σ H s->t D σ H->wpAny 2e4 X.A (exec st X.env) (SP X pins D) X.xe s
def PSs (X:Cx)(st:List Stmt)(t:TS):Prop:=
 ∀(pins:2e0) (s:Shared) (σ:St) (H:Hp) (D:Ends),Inv X pins σ H s->t D σ H->wpAny 2e4 X.A (execs st X.env) (SP X pins D) X.xe s
theorem thn {α:Type}{t:Sem α}{Q Q':α->Shared->Prop}{M:Model}{A:Around}{E:1e5}{s:Shared}(h:wpAny M A t Q E s)(hQ:∀a s,Q a s->Q' a s):wpAny M A t Q' E s:=Y0 h hQ fun _ _ x=>x
section
variable {X:Cx}
theorem bin {a b:Expr}{ta tb:TE}(ha:PE X a ta)(hb:PE X b tb){pins:2e0}{s:Shared}{σ:St}{H:Hp}{R:V->V->Hp->Prop}(I:2e3)(h:ta σ H fun x H1=>tb σ H1 fun y H2=>R x y H2)
  {α:Type} {Q:α->Shared->Prop} {f:Value->Value->Sem α}
  (hf:∀v u s2 x y H2,Inv X pins σ H2 s2->RelV x v->RelV y u->R x y H2->wpAny 2e4 X.A (f v u) Q X.xe s2):
  wpAny 2e4 X.A (eval a X.env) (fun v s₁=>wpAny 2e4 X.A (eval b X.env) (fun u s₂=>wpAny 2e4 X.A (f v u) Q X.xe s₂) X.xe s₁) X.xe s:=by
 refine thn (ha pins s σ H _ I h) fun v s1 h_=>?_
 obtain ⟨x,H1,I1,r1,q1⟩:=h_
 refine thn (hb pins s1 σ H1 _ I1 q1) fun u s2 h_=>?_
 obtain ⟨y,H2,I2,r2,q2⟩:=h_
 exact hf v u s2 x y H2 I2 r1 r2 q2
def tVar (i:Nat):TE:=fun σ H Q=>∃v,σ[i]? = some (some v)/\Q v H
def tC (v:V):TE:=fun _ H Q=>Q v H
theorem pe_var {i:Nat}{x:Str}{pos:Pos}(hN:X.N[i]? = some x)(hv:Vis X.env.scope x)(hd:5e1:=by decide)(hcd:(x==("__classdict__":Str))=false:=by decide):PE X (.Name x pos) (tVar i):=by
 sleep 12
 obtain ⟨v,e,h⟩:=h
 obtain ⟨m,hn,hl⟩:=I.loc
 obtain ⟨u,r,l⟩:=hl i x v hN e hv
 have fin:EP X pins σ Q u s:=⟨v,H,I,r,h⟩
 rcases l with ⟨hk,hm⟩ | ⟨hk,c,hc,hcell⟩
 ·exact wpAny_Name (wpAny_loadName_local I.ok.kind hk hn hm fin) hd
 ·rcases hk with hk | hk
  ·exact wpAny_Name (wpAny_loadName_cell I.ok.kind hk hc hcell fin) hd
  ·exact wpAny_Name (wpAny_loadName_free I.ok.kind hk hc hcell fin hcd) hd
theorem pe_int {i j pos}:PE X (.Constant (.int i) j pos) (tC (.int i)):=fun _ _ _ H _ I h=>wpAny_Constant_int ⟨.int i,H,I.tok _,8e9,h⟩
theorem pe_bl {b j pos}:PE X (.Constant (.bool b) j pos) (tC (.bl b)):=fun _ _ _ H _ I h=>Constant_bool ⟨.bl b,H,I,rfl,h⟩
theorem pe_str {x j pos}:PE X (.Constant (.str x) j pos) (tC (.str x)):=fun _ _ _ H _ I h=>Calls.Constant_str ⟨.str x,H,I.tok _,8e9,h⟩
def Gl (X:Cx)(x:Str):Prop:=X.env.kindOf x=some .globalImplicit
theorem ld_glob {E:1e5}{pins:2e0}{s:Shared}{σ:St}{H:Hp}{x:Str}{u:Value}{pos:Pos}{Q:1e5}(I:2e3)(hg:Gl X x)(hm:X.mg x=some u)(h:Q u s)
  (hd:5e1:=by decide):wpAny 2e4 X.A (eval (.Name x pos) X.env) Q E s:=
 VT I.ok.kind hg (Calls.loadGlobal_global (by rw[I.ok.glob];exact I.mod.glob.keeps I.bk) hm h) hd
theorem Zci {E:1e5}{pins:2e0}{s:Shared}{σ:St}{H:Hp}{x:Str}{u:Value}{pos:Pos}{Q:1e5}(I:2e3)(hg:Gl X x)(hm:X.mg x=none)(hv:Xb x=some u)(h:Q u s)
  (hn:x≠"__name__":=by decide) (hd:5e1:=by decide):wpAny 2e4 X.A (eval (.Name x pos) X.env) Q E s:=by
 obtain ⟨mb,h1,h2⟩:=I.mod.blt
 exact VT I.ok.kind hg (Calls.loadGlobal_builtin (by rw[I.ok.glob];exact I.mod.glob.keeps I.bk) hm (by rw[I.ok.blt];exact h1.keeps I.bk) ((h2 x hn).trans hv) h) hd
theorem pe_bltn {x:Str}{v:V}{u:Value}{pos:Pos}(hg:Gl X x)(hm:X.mg x=none)(hv:Xb x=some u)(r:RelV v u)(hn:x≠"__name__":=by decide)(hd:5e1:=by decide):PE X (.Name x pos) (tC v):=
 fun _ _ _ H _ I h=>Zci I hg hm hv ⟨v,H,I,r,h⟩ hn hd
variable {a b:Expr}{ta tb:TE}{pos:Pos}
variable {tA tB':TT}{rest:5e9}
def tAnd (t u:TT):TT:=fun σ H Q=>t σ H fun c H1=>if c=true then u σ H1 Q else Q false H1
def tOr (t u:TT):TT:=fun σ H Q=>t σ H fun c H1=>if c=true then Q true H1 else u σ H1 Q
def tNot (t:TT):TT:=fun σ H Q=>t σ H fun c H1=>Q (!c) H1
theorem pw_and1 (ha:PT X a tA):PW X (.BoolOp .And [a] pos) tA:=by
 intro wh pins s σ H Q I h
 refine isTrue_and (thn (ha pins s σ H Q I h) fun c s1 e=>?_)
 cases c with
 | true=>exact isTrue_and_nil e
 | false=>exact e
theorem pw_or1 (ha:PT X a tA):PW X (.BoolOp .Or [a] pos) tA:=by
 intro wh pins s σ H Q I h
 refine isTrue_or (thn (ha pins s σ H Q I h) fun c s1 e=>?_)
 cases c with
 | false=>exact isTrue_or_nil e
 | true=>exact e
theorem pw_and (ha:PT X a tA)(hb:PW X (.BoolOp .And (b::rest) pos) tB'):PW X (.BoolOp .And (a::b::rest) pos) (tAnd tA tB'):=by
 intro wh pins s σ H Q I h
 refine isTrue_and (thn (ha pins s σ H _ I h) fun c s1 h_=>?_)
 obtain ⟨H1,I1,q1⟩:=h_
 cases c with
 | true=>exact hb wh pins s1 σ H1 Q I1 q1
 | false=>exact ⟨H1,I1,q1⟩
theorem pw_or (ha:PT X a tA)(hb:PW X (.BoolOp .Or (b::rest) pos) tB'):PW X (.BoolOp .Or (a::b::rest) pos) (tOr tA tB'):=by
 intro wh pins s σ H Q I h
 refine isTrue_or (thn (ha pins s σ H _ I h) fun c s1 h_=>?_)
 obtain ⟨H1,I1,q1⟩:=h_
 cases c with
 | true=>exact ⟨H1,I1,q1⟩
 | false=>exact hb wh pins s1 σ H1 Q I1 q1
theorem pt_not (ha:PT X a tA):PT X (.UnaryOp .Not a pos) (tNot tA):=by
 sleep 12
 exact isTrue_not (ha pins s σ H (fun c H1=>Q (!c) H1) I h)
def tIf (t:TT)(ta tb:TE):TE:=fun σ H Q=>t σ H fun c H1=>if c=true then ta σ H1 Q else tb σ H1 Q
theorem pe_ifExp {c:Expr}(hc:PT X c tA)(ha:PE X a ta)(hb:PE X b tb):PE X (.IfExp c a b pos) (tIf tA ta tb):=by
 sleep 12
 refine wpAny_IfExp (thn (hc pins s σ H _ I h) fun d s1 h_=>?_)
 obtain ⟨H1,I1,q1⟩:=h_
 cases d with
 | true=>exact ha pins s1 σ H1 Q I1 q1
 | false=>exact hb pins s1 σ H1 Q I1 q1
end
def SqL (K:W.Frag)(H:Hp)(a:Addr)(xs:List V):Prop:=
 Rd H a (.lst xs)\/
  ∃(o:Obj) (its:Array Value) (n:Nat),K.lookup a=some o/\o.cls=.type "list"/\o.dict=none/\o.data=.seq its n/\its.size<=Yt/\Vals xs its.toList
def SqT (K:W.Frag)(H:Hp)(a:Addr)(xs:List V):Prop:=
 Rd H a (.tup xs)\/
  ∃(o:Obj) (its:Array Value) (n:Nat),K.lookup a=some o/\o.cls=.type "tuple"/\o.data=.seq its n/\its.size<=Yt/\Vals xs its.toList
def absV:Value->Option V
 | .none=>some .non
 | .bool b=>some (.bl b)
 | .int i _=>some (.int i)
 | .str x _=>some (.str x)
 | .bytes b _=>some (.byt b)
 | .float b _=>some (.flt b)
 | .ref a=>some (.ref a)
 | .type n=>some (.ty n)
 | _=>none
theorem RelV.abs {x:V}{u:Value}(r:RelV x u):absV u=some x:=by
 cases x with
 | non=>cases r;rfl
 | bl _=>cases r;rfl
 | int _=>obtain ⟨t,rfl⟩:=r;rfl
 | str _=>obtain ⟨t,rfl⟩:=r;rfl
 | byt _=>obtain ⟨t,rfl⟩:=r;rfl
 | flt _=>obtain ⟨t,rfl⟩:=r;rfl
 | ref _=>cases r;rfl
 | ty _=>cases r;rfl
theorem RelV.inj {x y:V}{u:Value}(r:RelV x u)(q:RelV y u):x=y:=YN (r.abs.symm.trans q.abs)
theorem Vals.inj:∀{xs ys:List V} {us:4e1},Vals xs us->Vals ys us->xs=ys
 | _,_,_,.nil,.nil=>rfl
 | _,_,_,.cons r t,.cons r' t'=>by rw[r.inj r',Vals.inj t t']
section
variable {X:Cx}{pins:2e0}{σ:St}{H:Hp}{s:Shared}{a:Addr}{xs ys:List V}
theorem SqL.of {K:W.Frag}(h:H a=some (.lst xs)):SqL K H a xs:=.inl (.inl h)
theorem Inv.list (I:2e3)(h:SqL X.K H a xs):∃its:List Value,Vals xs its/\PlainL s.heap a its.toArray/\xs.length<=sizeLine:=by
 rcases h with h | ⟨o,its,n,hk,hc,hd,hs,hz,r⟩
 ·obtain ⟨z,its,n,r,e⟩:=h.ok I.hok
  exact ⟨its,r,⟨_,n,e,rfl,rfl,rfl⟩,z⟩
 ·refine ⟨its.toList,r,⟨o,n,I.kIn a o hk,hc,hd,by simpa using hs⟩,?_⟩
  have e:=r.length
  simp only[YG] at e
  lia
theorem Inv.tuple (I:2e3)(h:SqT X.K H a xs):∃its:List Value,Vals xs its/\IsTup s.heap a its.toArray/\xs.length<=sizeLine:=by
 rcases h with h | ⟨o,its,n,hk,hc,hs,hz,r⟩
 ·obtain ⟨z,its,r,p⟩:=h.ok I.hok
  exact ⟨its,r,p,z⟩
 ·refine ⟨its.toList,r,⟨o,I.kIn a o hk,hc,n,by simpa using hs⟩,?_⟩
  have e:=r.length
  simp only[YG] at e
  lia
theorem Inv.list_inj (I:2e3)(h:SqL X.K H a xs)(h':SqL X.K H a ys):xs=ys:=by
 obtain ⟨its,r,⟨o,n,e,_,_,d⟩,_⟩:=I.list h
 obtain ⟨its',r',⟨o',n',e',_,_,d'⟩,_⟩:=I.list h'
 rw[e] at e';cases e'
 rw[d] at d'
 injection d' with d1 _
 have:its=its':=by simpa using congrArg Array.toList d1
 subst this
 exact r.inj r'
theorem Inv.tuple_inj (I:2e3)(h:SqT X.K H a xs)(h':SqT X.K H a ys):xs=ys:=by
 obtain ⟨its,r,⟨o,e,_,n,d⟩,_⟩:=I.tuple h
 obtain ⟨its',r',⟨o',e',_,n',d'⟩,_⟩:=I.tuple h'
 rw[e] at e';cases e'
 rw[d] at d'
 injection d' with d1 _
 have:its=its':=by simpa using congrArg Array.toList d1
 subst this
 exact r.inj r'
end
abbrev Cx.wish (X:Cx)(E:1e5):Cx:={ X with xe:=E }
abbrev Cx.nox (X:Cx):Cx:=X.wish fun _ _=>False
theorem Cx.Ok.wish {X:Cx}(ok:X.Ok)(E:1e5):(X.wish E).Ok:=
 ⟨ok.mod,ok.kind,ok.glob,ok.blt,ok.above,ok.inj,ok.has,ok.cab,ok.hd,ok.frames,ok.stk,ok.exf,ok.bs,ok.bsz,ok.noex,ok.exfs,ok.funs,ok.frf⟩
theorem Cx.Ok.unwish {X:Cx}{E:1e5}(ok:(X.wish E).Ok):X.Ok:=
 ⟨ok.mod,ok.kind,ok.glob,ok.blt,ok.above,ok.inj,ok.has,ok.cab,ok.hd,ok.frames,ok.stk,ok.exf,ok.bs,ok.bsz,ok.noex,ok.exfs,ok.funs,ok.frf⟩
section
variable {X:Cx}{pins:2e0}{σ:St}{H:Hp}{s:Shared}{E:1e5}
theorem Inv.wish (I:2e3)(E:1e5):Inv (X.wish E) pins σ H s:=⟨I.ok.wish E,I.os,I.bare,I.base,I.loc,I.cell,I.free,I.freeC,I.pin,I.hok,I.len⟩
theorem Inv.unwish (I:Inv (X.wish E) pins σ H s):Inv X pins σ H s:=⟨I.ok.unwish,I.os,I.bare,I.base,I.loc,I.cell,I.free,I.freeC,I.pin,I.hok,I.len⟩
theorem SP.unwish {D:Ends}{f:Flow}{s':Shared}(h:SP (X.wish E) pins D f s'):SP X pins D f s':=by
 cases f with
 | next=>obtain ⟨σ',H',I,q⟩:=h;exact ⟨σ',H',I.unwish,q⟩
 | brk=>obtain ⟨σ',H',I,q⟩:=h;exact ⟨σ',H',I.unwish,q⟩
 | cont=>obtain ⟨σ',H',I,q⟩:=h;exact ⟨σ',H',I.unwish,q⟩
 | ret u=>obtain ⟨v,σ',H',I,r,q⟩:=h;exact ⟨v,σ',H',I.unwish,r,q⟩
theorem PSs.nox {st:List Stmt}{t:TS}(h:PSs X.nox st t):PSs X st t:=fun pins s σ H D I hw=>
 Y0 (h pins s σ H D (I.wish _) hw) (fun _ _ q=>q.unwish) fun _ _ z=>WD z
end
section
variable {X:Cx}{st:Stmt}{rest:List Stmt}{t u:TS}{e:Expr}{te:TE}{pos:Pos}
def tNext:TS:=fun D σ H=>D.nx σ H
def tSeq (t u:TS):TS:=fun D σ H=>t { D with nx:=u D } σ H
theorem pss_nil:PSs X [] tNext:=fun _ _ σ H _ I h=>Uq ⟨σ,H,I,h⟩
theorem pss_cons (h1:PS X st t)(h2:PSs X rest u):PSs X (st::rest) (tSeq t u):=by
 intro pins s σ H D I h
 refine wpAny_execs_cons (thn (h1 pins s σ H { D with nx:=u D } I h) fun f s1 q=>?_)
 cases f with
 | next=>
  obtain ⟨σ',H',I',q⟩:=q
  exact h2 pins s1 σ' H' D I' q
 | ret v=>exact q
 | brk=>exact q
 | cont=>exact q
theorem pss_one (h1:PS X st t):PSs X [st] t:=by
 intro pins s σ H D I h
 refine wpAny_execs_cons (thn (h1 pins s σ H D I h) fun f s1 q=>?_)
 cases f with
 | next=>exact Uq q
 | ret v=>exact q
 | brk=>exact q
 | cont=>exact q
theorem Inv.quiet {pins:2e0}{σ:St}{H:Hp}{s:Shared}(I:2e3):interactive X.env=false:=by simp[interactive,I.ok.kind]
def tDrop (te:TE):TS:=fun D σ H=>te σ H fun _ H1=>D.nx σ H1
theorem ps_expr (he:PE X e te)(hs:WJ e none pos.line X.env=pure false:=by rfl):PS X (.Expr e pos) (tDrop te):=by
 intro pins s σ H D I h
 exact wpAny_Expr_any (thn (he pins s σ H _ I h) fun v s1 ⟨x,H1,I1,r1,q1⟩=>⟨σ,H1,I1,q1⟩) I.quiet hs
def tRet (te:TE):TS:=fun D σ H=>te σ H D.rt
theorem ps_ret (he:PE X e te):PS X (.Return (some e) pos) (tRet te):=by
 intro pins s σ H D I h
 exact wpAny_Return_some (thn (he pins s σ H _ I h) fun v s1 ⟨x,H1,I1,r1,q1⟩=>⟨x,σ,H1,I1,r1,q1⟩)
def tIfS (c:TT)(t u:TS):TS:=fun D σ H=>c σ H fun b H1=>if b=true then t D σ H1 else u D σ H1
theorem ps_if {c:Expr}{a b:List Stmt}{tc:TT}(hc:PT X c tc)(ha:PSs X a t)(hb:PSs X b u):PS X (.If c a b pos) (tIfS tc t u):=by
 intro pins s σ H D I h
 refine wpAny_If (thn (hc pins s σ H _ I h) fun d s1 h_=>?_)
 obtain ⟨H1,I1,q1⟩:=h_
 cases d with
 | true=>exact ha pins s1 σ H1 D I1 q1
 | false=>exact hb pins s1 σ H1 D I1 q1
end
abbrev TG:=V->St->Hp->(St->Hp->Prop)->Prop
abbrev TGs:=List V->St->Hp->(St->Hp->Prop)->Prop
def PG (X:Cx)(target:Expr)(t:TG):Prop:=
 ∀(pins:2e0) (s:Shared) (σ:St) (H:Hp) (v:V) (u:Value) (Q:St->Hp->Prop),Inv X pins σ H s->RelV v u->t v σ H Q->
  wpAny 2e4 X.A (assign target X.env u) (fun _ s'=>∃σ' H',Inv X pins σ' H' s'/\Q σ' H') X.xe s
def PGs (X:Cx)(ts:5e9)(t:TGs):Prop:=
 ∀(pins:2e0) (s:Shared) (σ:St) (H:Hp) (vs:List V) (us:4e1) (Q:St->Hp->Prop),Inv X pins σ H s->Vals vs us->t vs σ H Q->
  wpAny 2e4 X.A (assignInOrder ((Wn ts X.env).map (·.2)) us) (fun _ s'=>∃σ' H',Inv X pins σ' H' s'/\Q σ' H') X.xe s
abbrev TSet:=V->V->V->Hp->(Hp->Prop)->Prop
def PSet (X:Cx)(t:TSet):Prop:=
 ∀(pins:2e0) (s:Shared) (σ:St) (H:Hp) (o i v:V) (ov iv u:Value) (Q:Hp->Prop),Inv X pins σ H s->RelV o ov->RelV i iv->RelV v u->t o i v H Q->
  wpAny 2e4 X.A (setItem ov iv u) (fun _ s'=>∃H',Inv X pins σ H' s'/\Q H') X.xe s
section
variable {X:Cx}{pos:Pos}
def gName (i:Nat):TG:=fun v σ H Q=>Q (σ.set i (some v)) H
theorem pg_name {i:Nat}{x:Str}(hN:X.N.Nodup)(hi:X.N[i]? = some x)(hx:Loc X.env.scope x)(hf:7e0:=by first | exact .inl rfl | exact .inr rfl | assumption):PG X (.Name x pos) (gName i):=by
 intro pins s σ H v u Q I r h
 exact wpAny_assign_Name (store_ok I hN hi hx r (fun s' I'=>⟨_,H,I',h⟩) hf)
def gNil:TGs:=fun vs σ H Q=>vs=[]/\Q σ H
def gCons (t:TG)(u:TGs):TGs:=fun vs σ H Q=>∃v r,vs=v::r/\t v σ H fun σ' H'=>u r σ' H' Q
theorem pgs_nil:PGs X [] gNil:=by
 intro pins s σ H vs us Q I r h
 obtain ⟨e,h⟩:=h
 subst e
 cases r
 exact assignInOrder_nil ⟨σ,H,I,h⟩
theorem pgs_cons {e:Expr}{es:5e9}{t:TG}{u:TGs}(h1:PG X e t)(h2:PGs X es u)
  (hs:(Wn 6e8 X.env).map (·.2)=assign e X.env::(Wn es X.env).map (·.2):=by rfl):PGs X 6e8 (gCons t u):=by
 intro pins s σ H vs us Q I r h
 obtain ⟨v,vr,e1,h⟩:=h
 subst e1
 cases r with
 | cons r rr=>
  rw[hs]
  refine assignInOrder_cons (thn (h1 pins s σ H _ _ _ I r h) fun _ s1 h_=>?_)
  obtain ⟨σ1,H1,I1,q1⟩:=h_
  exact h2 pins s1 σ1 H1 _ _ Q I1 rr q1
def gTup (K:W.Frag)(n:Nat)(t:TGs):TG:=fun v σ H Q=>∃a xs,v=.ref a/\SqT K H a xs/\xs.length=n/\t xs σ H Q
theorem pg_tup {es:5e9}{k:Nat}{t:TGs}{n:Nat}(hc:9e9)(h:PGs X es t)
  (hn:(Wn es X.env).length=n:=by rfl) (hst:(Wn es X.env).findIdx? (·.1)=none:=by rfl):PG X (.Tuple es k pos) (gTup X.K n t):=by
 intro pins s σ H v u Q I r hw
 obtain ⟨a,xs,e1,hq,hl,hw⟩:=hw
 subst e1
 cases r
 obtain ⟨its,rv,ht,hz⟩:=I.tuple hq
 refine assign_Tuple_tuple (I.ok.hd hc) ht (by simp[hn,←hl,rv.length]) hst fun h' hx=>?_
 have I1:Inv X pins σ H { s with heap:=h' }:=I.kept (t':=s.toks) fun b o e=>hx b o (Yq (Yv e)) e
 exact h pins _ σ H xs _ Q I1 (by simpa using rv) hw
def gSub (to ti:TE)(t:TSet):TG:=fun v σ H Q=>to σ H fun o H1=>ti σ H1 fun i H2=>t o i v H2 fun H3=>Q σ H3
theorem pg_sub {o i:Expr}{to ti:TE}{t:TSet}(ho:PE X o to)(hi:PE X i ti)(hs:PSet X t)
  (ha:∀v,assign (.Subscript o i pos) X.env v=(do
   let ov ←Ur [v] (eval o X.env)
   let iv ←Ur [v,ov] (eval i X.env)
   UU pos
   Ur [v,ov,iv] (setItem ov iv v)
   release [v,ov,iv] []):=by intro _;rfl):PG X (.Subscript o i pos) (gSub to ti t):=by
 intro pins s σ H v u Q I r h
 rw[ha]
 refine Ya (Xc (thn (ho pins s σ H _ I h) fun ov s1 h_=>?_))
 obtain ⟨x,H1,I1,r1,q1⟩:=h_
 refine Ya (Xc (thn (hi pins s1 σ H1 _ I1 q1) fun iv s2 h_=>?_))
 obtain ⟨y,H2,I2,r2,q2⟩:=h_
 refine Ya (XY (Ya (Xc (thn (hs pins s2 σ H2 x y v ov iv u _ I2 r1 r2 r q2) fun _ s3 h_=>?_))))
 obtain ⟨H3,I3,q3⟩:=h_
 exact wpAny_release ⟨σ,H3,I3,q3⟩
def tAsg (te:TE)(g:TG):TS:=fun D σ H=>te σ H fun x H1=>g x σ H1 D.nx
theorem ps_asg {tg e:Expr}{te:TE}{g:TG}(he:PE X e te)(hg:PG X tg g)(hs:swapsWithSole [tg] e pos.line X.env=pure false:=by rfl)(hw:swappedStores [tg] e X.env=pure none:=by rfl)
  (h1:(Wn [tg] X.env).map (·.2)=[assign tg X.env]:=by rfl):PS X (.Assign [tg] e pos) (tAsg te g):=by
 intro pins s σ H D I h
 refine wpAny_Assign_stores (thn (he pins s σ H _ I h) fun v s1 ⟨x,H1,I1,r1,q1⟩=>?_) hs hw
 rw[h1]
 exact thn (hg pins s1 σ H1 x v _ I1 r1 q1) fun _ s2 q=>q
theorem ps_set {i:Nat}{x:Str}{e:Expr}{te:TE}{pos':Pos}(hN:X.N.Nodup)(hi:X.N[i]? = some x)(hx:Loc X.env.scope x)(he:PE X e te)(hs:WJ e (some (.Name x pos')) pos.line X.env=pure false:=by rfl)(hf:7e0:=by first | exact .inl rfl | exact .inr rfl | assumption):
  PS X (.Assign [.Name x pos'] e pos) (tAsg te (gName i)):=by
 intro pins s σ H D I h
 refine wpAny_Assign_Name (thn (he pins s σ H _ I h) fun v s1 ⟨y,H1,I1,r1,q1⟩=>?_) hs
 exact store_ok I1 hN hi hx r1 (fun s2 I2=>⟨_,H1,I2,q1⟩) hf
end
structure It where
 go:Nat->Hp->Prop
 yld:Nat->Hp->V->Hp->Prop
 stop:Nat->Hp->Prop
def FpOk (X:Cx)(pins:2e0)(H:Hp)(b:Addr):Prop:=
 H b=none/\b≠X.env.locals/\b∉X.fs/\(b∈X.ex\/X.s₀.heap.objs.size<=b)/\(∀x c,X.env.cells.lookup x=some c->c≠b)/\∀p∈X.pn++pins,p.1≠b
theorem Inv.fpOk {X:Cx}{pins:2e0}{σ:St}{H H':Hp}{s:Shared}{b:Addr}(I:2e3)(hb:s.heap.objs.size<=b)(hn:H' b=none):FpOk X pins H' b:=by
 refine ⟨hn,X0 (Yk I.lt hb),I.nofs hb,.inr (YR I.sz hb),fun x c e z=>?_,fun p hp z=>?_⟩
 ·obtain ⟨v,q⟩:=I.cell x c e
  exact absurd (Yk q.lt (by rw[z];exact hb)) (XX _)
 ·exact absurd (Yk (Yv (I.pin p hp).1) (by rw[z];exact hb)) (XX _)
structure Turn (P:YC)(w:World)(K:W.Frag)(tg:Expr)(J:It)(fp:List Addr)(it:Addr)(tn:Nat->Heap->Prop):Prop where
 mem:it∈fp
 obj:∀i h,tn i h->∀b∈fp,∃o,h.get? b=some o/\∀v,o.data≠.cell v
 keep:∀i h h',tn i h->(∀b∈fp,∀o,h.get? b=some o->h'.get? b=some o)->tn i h'
 item:∀(X:Cx),X.prog=P->X.w=w->X.K=K->X.calm=true->∀(i:Nat) (pins:2e0) (s:Shared) (σ:St) (H:Hp) (E:1e5),Inv X pins σ H s->(∀b∈fp,FpOk X pins H b)->tn i s.heap->J.go i H->
  wpAny (model P w) X.A (pyNext (.ref it)) (fun r s1=>∃u,r=some u/\
   wpAny (model P w) X.A (X4 tg (.ref it) u) (fun _ s2=>∃x H',Inv X pins σ H' s2/\RelV x u/\J.yld i H x H'/\tn (i + 1) s2.heap/\∀b∈fp,H' b=none) E s1) E s
 done:∀(X:Cx),X.prog=P->X.w=w->X.K=K->X.calm=true->∀(i:Nat) (pins:2e0) (s:Shared) (σ:St) (H:Hp) (E:1e5),Inv X pins σ H s->(∀b∈fp,FpOk X pins H b)->tn i s.heap->J.stop i H->
  wpAny (model P w) X.A (pyNext (.ref it)) (fun r s1=>r=none/\Inv X pins σ H s1) E s
 self:∀(A:Around) (i:Nat) (s:Shared) (Q:1e5) (E:1e5),tn i s.heap->Q (.ref it) s->wpAny (model P w) A (pyIter (.ref it)) Q E s
abbrev TI:=St->Hp->(It->Hp->Prop)->Prop
def PIE (X:Cx)(pins:2e0)(σ:St)(tg:Expr)(R:It->Hp->Prop)(itv:Value)(s2:Shared):Prop:=
 ∃(it:Addr) (fp:3e7) (tn:Nat->Heap->Prop) (J:It) (H':Hp),itv=.ref it/\Inv X pins σ H' s2/\Turn X.prog X.w X.K tg J fp it tn/\tn 0 s2.heap/\(∀b∈fp,FpOk X pins H' b)/\R J H'
def PI (X:Cx)(tg iter:Expr)(wi:TI):Prop:=
 ∀(pins:2e0) (s:Shared) (σ:St) (H:Hp) (R:It->Hp->Prop),Inv X pins σ H s->wi σ H R->
  wpAny 2e4 X.A (eval iter X.env) (fun v s1=>wpAny 2e4 X.A (pyIter v) (PIE X pins σ tg R) X.xe s1) X.xe s
theorem go_of {M:Model}{A:Around}{E:1e5}{s:Shared}{tg:Expr}{it:Addr}{u:Value}{o:Obj}{n:String}{vs:Array Value}{Q:Unit->Shared->Prop}(ho:s.heap.get? it=some o)(hc:o.cls=.type n)(hd:o.data=.fields vs)
    (hn:["enumerate","zip","dict_itemiterator","dict_reverseitemiterator","odict_iterator","itertools.zip_longest","itertools.pairwise"].contains n=false) (hQ:Q () s):wpAny M A (X4 tg (.ref it) u) Q E s:=by
  unfold X4
  cases tg<;>first
    | exact Yc hQ
    | (cases u<;>first
        | exact Yc hQ
        | (refine Ya (wpAny_load ho ?_)
           rw[hc,hd]
           show wpAny M A (if (["enumerate","zip","dict_itemiterator","dict_reverseitemiterator","odict_iterator","itertools.zip_longest","itertools.pairwise"].contains n&&vs[0]?==some (rawInt _))=true then _ else _) Q E s
           rw[if_neg (by intro h;rw[hn,Bool.false_and] at h;cases h)]
           exact Yc hQ))
def Itl (K:W.Frag)(a:Addr):It:=
 ⟨fun i H=>∃xs x,SqL K H a xs/\xs[i]? = some x,fun i H x H'=>H'=H/\∀xs,SqL K H a xs->xs[i]? = some x,fun i H=>∃xs,SqL K H a xs/\xs.length<=i⟩
def Itt (K:W.Frag)(a:Addr):It:=
 ⟨fun i H=>∃xs x,SqT K H a xs/\xs[i]? = some x,fun i H x H'=>H'=H/\∀xs,SqT K H a xs->xs[i]? = some x,fun i H=>∃xs,SqT K H a xs/\xs.length<=i⟩
def Itr (lo:Int)(n:Nat):It:=⟨fun i _=>i < n,fun i H x H'=>H'=H/\x=.int (lo + i),fun i _=>n<=i⟩
theorem turn_list {P:YC}{w:World}{K:W.Frag}{tg:Expr}(a it:Addr):Turn P w K tg (Itl K a) [it] it (fun i h=>h.IsListIter it a i) where
 mem:=by simp
 obj:=fun i h st b hb=>by
  have e:b=it:=by simpa using hb
  subst e
  obtain ⟨o,e,c,d⟩:=st
  exact ⟨o,e,fun v z=>by rw[d] at z;cases z⟩
 keep:=fun i h h' st k=>st.at fun o e=>k it 3e8 o e
 item:=by
  sleep 3
  obtain ⟨xs,x,hq,hx⟩:=hg
  obtain ⟨its,rv,p,hz⟩:=I.list hq
  obtain ⟨u,hu,ru⟩:=rv.get hx
  obtain ⟨f0,f1,f2,f3,f4,f5⟩:=hf it 3e8
  refine wpAny_pyNext_list_item st p.isList (x:=u) (by simpa using hu) fun h' st' sb=>?_
  have I1:Inv X pins σ H { s with heap:=h' }:=I.turned (t':=s.toks) (fun b o hb e=>(sb.2 b hb).trans e) f0 f1 f3 f4 f5
  obtain ⟨o,e,c,d⟩:=id st'
  exact ⟨u,rfl,go_of (s:={ s with heap:=h' }) e c d (by decide) ⟨x,H,I1,ru,⟨rfl,fun ys hy=>by rw[I.list_inj hy hq];exact hx⟩,st',fun b hb=>(hf b hb).1⟩⟩
 done:=by
  sleep 3
  obtain ⟨xs,hq,hx⟩:=hg
  obtain ⟨its,rv,p,hz⟩:=I.list hq
  obtain ⟨f0,f1,f2,f3,f4,f5⟩:=hf it 3e8
  have hl:=rv.length
  exact wpAny_pyNext_list_end (I.ok.hd hc) st p.isList 11e1 fun h' eb=>⟨rfl,I.turned (t':=s.toks) (fun b o hb e=>eb b o hb e) f0 f1 f3 f4 f5⟩
 self:=fun _ _ _ _ _ st h=>wpAny_pyIter_listiter st h
theorem turn_tuple {P:YC}{w:World}{K:W.Frag}{tg:Expr}(a it:Addr):Turn P w K tg (Itt K a) [it] it (fun i h=>h.IsTupleIter it a i) where
 mem:=by simp
 obj:=fun i h st b hb=>by
  have e:b=it:=by simpa using hb
  subst e
  obtain ⟨o,e,c,d⟩:=st
  exact ⟨o,e,fun v z=>by rw[d] at z;cases z⟩
 keep:=fun i h h' st k=>st.at fun o e=>k it 3e8 o e
 item:=by
  sleep 3
  obtain ⟨xs,x,hq,hx⟩:=hg
  obtain ⟨its,rv,p,hz⟩:=I.tuple hq
  obtain ⟨u,hu,ru⟩:=rv.get hx
  obtain ⟨f0,f1,f2,f3,f4,f5⟩:=hf it 3e8
  refine wpAny_pyNext_tuple_item st (show s.heap.IsTuple a its.toArray from p) (x:=u) (by simpa using hu) fun h' st' sb=>?_
  have I1:Inv X pins σ H { s with heap:=h' }:=I.turned (t':=s.toks) (fun b o hb e=>(sb.2 b hb).trans e) f0 f1 f3 f4 f5
  obtain ⟨o,e,c,d⟩:=id st'
  exact ⟨u,rfl,go_of (s:={ s with heap:=h' }) e c d (by decide) ⟨x,H,I1,ru,⟨rfl,fun ys hy=>by rw[I.tuple_inj hy hq];exact hx⟩,st',fun b hb=>(hf b hb).1⟩⟩
 done:=by
  sleep 3
  obtain ⟨xs,hq,hx⟩:=hg
  obtain ⟨its,rv,p,hz⟩:=I.tuple hq
  obtain ⟨f0,f1,f2,f3,f4,f5⟩:=hf it 3e8
  have hl:=rv.length
  exact wpAny_pyNext_tuple_end (I.ok.hd hc) st (show s.heap.IsTuple a its.toArray from p) 11e1 fun h' eb=>⟨rfl,I.turned (t':=s.toks) (fun b o hb e=>eb b o hb e) f0 f1 f3 f4 f5⟩
 self:=fun _ _ _ _ _ st h=>wpAny_pyIter_tupleiter st h
theorem turn_range {P:YC}{w:World}{K:W.Frag}{tg:Expr}(it:Addr)(lo:Int)(n:Nat):Turn P w K tg (Itr lo n) [it] it (fun i h=>IsRangeIter h it (lo + (i:Nat) * 1) ((n:Int) - (i:Nat)) 1) where
 mem:=by simp
 obj:=fun i h st b hb=>by
  have e:b=it:=by simpa using hb
  subst e
  exact ⟨_,st,fun v z=>by
   have z':Data.fields _=Data.cell v:=z
   cases z'⟩
 keep:=fun i h h' st k=>k it 3e8 _ st
 item:=by
  sleep 3
  obtain ⟨f0,f1,f2,f3,f4,f5⟩:=hf it 3e8
  have W:=Walks.range (prog:=X.prog) (w:=X.w) (I.ok.hd hc) it lo 1 n
  refine W.item i s _ _ hg st fun v h' tk hv st' kk=>?_
  obtain ⟨t,rfl⟩:=hv
  have I1:Inv X pins σ H { s with heap:=h',toks:=tk }:=I.turned (fun b o hb e=>kk b o (by simpa using hb) e) f0 f1 f3 f4 f5
  refine ⟨_,rfl,go_of (s:={ s with heap:=h',toks:=tk }) (n:="range_iterator") st' rfl rfl (by decide) ⟨.int (lo + i),H,I1,⟨t,?_⟩,⟨rfl,rfl⟩,st',fun b hb=>(hf b hb).1⟩⟩
  rw[Int.mul_one]
 done:=by
  sleep 3
  obtain ⟨f0,f1,f2,f3,f4,f5⟩:=hf it 3e8
  exact wpAny_pyNext_range_end (I.ok.hd hc) st (by have:n<=i:=hg;lia) fun h' eb=>⟨rfl,I.turned (t':=s.toks) (fun b o hb e=>eb b o hb e) f0 f1 f3 f4 f5⟩
 self:=fun _ _ _ _ _ st h=>wpAny_pyIter_rangeiter st h
section
variable {X:Cx}{tg:Expr}
theorem range_it {pins:2e0}{σ:St}{H:Hp}{s:Shared}{R:It->Hp->Prop}{E:1e5}{lo hi:Int}{t u v:Tok}{tk:Nat}(I:2e3)(h1:-(2 ^ 62)<=lo)(h2:lo < 2 ^ 62)(h3:-(2 ^ 62)<=hi)(h4:hi < 2 ^ 62)
  (q:R (Itr lo (hi - lo).toNat) H):wpAny 2e4 X.A (pyIter 9e5) (PIE X pins σ tg R) E { s with heap:=s.heap.push { cls:=.type "range",data:=.fields #[.int lo t,.int hi u,.int 1 v] },toks:=tk }:=by
 refine wpAny_pyIter_range (IsRange.new ..) (small_one h1 h2 h3 h4) ?_
 have I1:Inv X pins σ H { s with heap:=s.heap.push { cls:=.type "range",data:=.fields #[.int lo t,.int hi u,.int 1 v] },toks:=tk }:=I.kept fun b o e=>Yb _ e
 refine ⟨(s.heap.push { cls:=.type "range",data:=.fields #[.int lo t,.int hi u,.int 1 v] }).objs.size,[(s.heap.push { cls:=.type "range",data:=.fields #[.int lo t,.int hi u,.int 1 v] }).objs.size],_,_,H,rfl,
  I1.kept (t':=tk) fun b o e=>Yb _ e,turn_range _ lo (hi - lo).toNat,?_,fun b hb=>?_,q⟩
 ·have e1:lo + ((0:Nat):Int) * 1=lo:=by simp
  have e2:(((hi - lo).toNat:Nat):Int) - ((0:Nat):Int)=Builtin.Range.rangeSize lo hi 1:=by rw[rangeSize_one];split<;>lia
  show IsRangeIter _ _ (lo + ((0:Nat):Int) * 1) ((((hi - lo).toNat:Nat):Int) - ((0:Nat):Int)) 1
  rw[e1,e2]
  exact Yo _ rfl
 ·have e:b=(s.heap.push { cls:=.type "range",data:=.fields #[.int lo t,.int hi u,.int 1 v] }).objs.size:=by simpa using hb
  subst e
  exact I1.fpOk (Yj _) (I1.hok.fresh (Yj _))
def iRng1 (ta:TA):TI:=fun σ H R=>ta σ H fun vs H1=>∃j:Int,vs=[.int j]/\-(2 ^ 62)<=j/\j < 2 ^ 62/\R (Itr 0 j.toNat) H1
def iRng2 (ta:TA):TI:=fun σ H R=>ta σ H fun vs H1=>∃i j:Int,vs=[.int i,.int j]/\(-(2 ^ 62)<=i/\i < 2 ^ 62/\-(2 ^ 62)<=j/\j < 2 ^ 62)/\R (Itr i (j - i).toNat) H1
theorem pi_range1 {a:Expr}{ta:TA}{p pos:Pos}(hg:Gl X "range")(hm:X.mg "range"=none)(ha:PA X [a] ta)(hs:Yp [a] X.env=[(false,eval a X.env)]:=by rfl):PI X tg (.Call (.Name "range" p) [a] [] pos) (iRng1 ta):=by
 intro pins s σ H R I h
 refine Call_ (Zci I hg hm boot_range (Xq (thn (ha pos pins s σ H _ I h) fun us s1 ⟨vs,H1,I1,r1,q1⟩=>?_) hs rfl))
 obtain ⟨j,e,q1,q2,q⟩:=q1
 subst e
 cases r1 with
 | cons r rr=>
  cases rr
  obtain ⟨t,rfl⟩:=r
  exact call_range_1 (range_it I1 1e2 1e2 q1 q2 (by simpa using q))
theorem pi_range2 {a b:Expr}{ta:TA}{p pos:Pos}(hg:Gl X "range")(hm:X.mg "range"=none)(ha:PA X [a,b] ta)(hs:Yp [a,b] X.env=[(false,eval a X.env),(false,eval b X.env)]:=by rfl)(hs2:Yp [b] X.env=[(false,eval b X.env)]:=by rfl):
  PI X tg (.Call (.Name "range" p) [a,b] [] pos) (iRng2 ta):=by
 intro pins s σ H R I h
 refine Call_ (Zci I hg hm boot_range (Xq (thn (ha pos pins s σ H _ I h) fun us s1 ⟨vs,H1,I1,r1,q1⟩=>?_) (by rw[hs,hs2]) (by rw[hs2];rfl)))
 obtain ⟨i,j,e,⟨q1,q2,q3,q4⟩,q⟩:=q1
 subst e
 cases r1 with
 | cons r rr=>
  cases rr with
  | cons r' rr=>
   cases rr
   obtain ⟨t,rfl⟩:=r
   obtain ⟨t',rfl⟩:=r'
   exact call_range_2 (range_it I1 q1 q2 q3 q4 q)
def tFor (wi:TI)(g:TG)(tb:TS):TS:=fun D σ H=>wi σ H fun J H1=>∃W:Nat->Nat->St->Hp->Prop,(∃m,W 0 m σ H1)/\∀i m σ H,W i m σ H->
 (J.stop i H/\D.nx σ H)\/(J.go i H/\∃N:St->Hp->Prop,(∀σ' H',N σ' H'->∃m',m' < m/\W (i + 1) m' σ' H')/\∀x H',J.yld i H x H'->g x σ H' fun σ2 H2=>tb { D with nx:=N,ct:=N,bk:=D.nx } σ2 H2)
def pinsAt (fp:3e7)(h:Heap):List (Addr×Obj):=fp.filterMap fun b=>(h.get? b).map fun o=>(b,o)
theorem ZaW {fp:3e7}{h:Heap}{b:Addr}{o:Obj}(hb:b∈fp)(e:h.get? b=some o):(b,o)∈pinsAt fp h:=VY.mpr ⟨b,hb,by rw[e];rfl⟩
theorem of_pinsAt {fp:3e7}{h:Heap}{p:Addr×Obj}(hp:p∈pinsAt fp h):p.1∈fp/\h.get? p.1=some p.2:=by
 obtain ⟨b,hb,e⟩:=VY.mp hp
 cases q:h.get? b with
 | none=>rw[q] at e;cases e
 | some o=>
  rw[q] at e
  have e':(b,o)=p:=YN e
  subst e'
  exact ⟨hb,q⟩
theorem Inv.pinned {pins:2e0}{σ:St}{H:Hp}{s:Shared}{fp:3e7}(I:2e3)(hf:∀b∈fp,FpOk X pins H b)(ho:∀b∈fp,∃o,s.heap.get? b=some o/\∀v,o.data≠.cell v):Inv X (pins++pinsAt fp s.heap) σ H s:=
 I.pins_of fun p hp=>(Yz.mp hp).elim (fun z=>I.pin p (Ye _ z)) fun z=>by
  obtain ⟨hb,e⟩:=of_pinsAt z
  obtain ⟨f0,f1,f2,_⟩:=hf p.1 hb
  obtain ⟨o,e',d⟩:=ho p.1 hb
  rw[e] at e';cases e'
  exact ⟨e,f0,f1,f2,d⟩
theorem Inv.unpinned {pins pl:2e0}{σ:St}{H:Hp}{s:Shared}(I:Inv X (pins++pl) σ H s):Inv X pins σ H s:=I.pins_of fun p hp=>I.pin p (Ye _ (Yx _ hp))
theorem ps_for {iter:Expr}{body:List Stmt}{wi:TI}{g:TG}{tb:TS}{pos:Pos}(hp:PassesOwn 2e4 X.A X.env X.xe)(hc:9e9)(hi:PI X tg iter wi)(hg:PG X tg g)(hb:PSs X body tb)
  (hs:∀x,Y4 iter X.env x=pure x:=by intro _;rfl):PS X (.For tg iter body [] pos) (tFor wi g tb):=by
 intro pins s σ H D I h
 refine wpAny_For (thn (hi pins s σ H _ I h) fun v s1 h1=>thn h1 fun itv s2 h2=>?_) hs
 obtain ⟨it,fp,tn,J,H2,e,I2,T,st2,f2,W,⟨m0,w0⟩,turn⟩:=h2
 subst e
 have stat:∀{H':Hp},12e0->∀b∈fp,FpOk X pins H' b:=fun hn b hb=>⟨hn b hb,(f2 b hb).2⟩
 refine codeAny_forLoop_any (fun n s'=>∃i σ' H',Inv X pins σ' H' s'/\tn i s'.heap/\12e0/\W i n σ' H') ?_ m0 ⟨0,σ,H2,I2,st2,fun b hb=>(f2 b hb).1,w0⟩
 rintro n s3 ⟨i,σ3,H3,I3,st3,fr3,w3⟩
 rcases turn i n σ3 H3 w3 with ⟨stop,qn⟩ | ⟨go,N,hN,step⟩
 ·refine Ve hp (thn (T.done X rfl rfl rfl hc i pins s3 σ3 H3 X.xe I3 (stat fr3) st3 stop) fun r s4 h_=>?_)
  obtain ⟨hr,I4⟩:=h_
  subst hr
  exact Uq ⟨σ3,H3,I4,qn⟩
 ·refine Ve hp (thn (T.item X rfl rfl rfl hc i pins s3 σ3 H3 X.xe I3 (stat fr3) st3 go) fun r s4 h_=>?_)
  obtain ⟨u,hr,h4⟩:=h_
  subst hr
  refine Ve hp (thn h4 fun _ s5 h_=>?_)
  obtain ⟨x,H5,I5,r5,y5,st5,fr5⟩:=h_
  have I5':=I5.pinned (stat fr5) (T.obj _ _ st5)
  refine Ve hp (thn (hg _ s5 σ3 H5 x u _ I5' r5 (step x H5 y5)) fun _ s6 h_=>?_)
  obtain ⟨σ6,H6,I6,q6⟩:=h_
  refine Ve hp (thn (hb _ s6 σ6 H6 _ I6 q6) fun f s7 q7=>?_)
  have again:∀{σ7:St} {H7:Hp},Inv X (pins++pinsAt fp s5.heap) σ7 H7 s7->N σ7 H7->∃m,m < n/\∃i σ' H',Inv X pins σ' H' s7/\tn i s7.heap/\12e0/\W i m σ' H':=fun {σ7 H7} I7 n7=>by
   obtain ⟨m',hm,w7⟩:=hN σ7 H7 n7
   refine ⟨m',hm,i + 1,σ7,H7,I7.unpinned,T.keep _ _ _ st5 fun b hb o e=>(I7.pin (b,o) (Ye _ (Ye _ (ZaW hb e)))).1,fun b hb=>?_,w7⟩
   obtain ⟨o,e,d⟩:=T.obj _ _ st5 b hb
   exact (I7.pin (b,o) (Ye _ (Ye _ (ZaW hb e)))).2.1
  cases f with
  | next=>obtain ⟨σ7,H7,I7,n7⟩:=q7;exact again I7 n7
  | cont=>obtain ⟨σ7,H7,I7,n7⟩:=q7;exact again I7 n7
  | brk=>obtain ⟨σ7,H7,I7,q7⟩:=q7;exact ⟨σ7,H7,I7.unpinned,q7⟩
  | ret v=>obtain ⟨x7,σ7,H7,I7,r7,q7⟩:=q7;exact ⟨x7,σ7,H7,I7.unpinned,r7,q7⟩
end
abbrev R2:=V->V->Hp->VK->Prop
def OpR (X:Cx)(f:Value->Value->Sem Value)(r:R2):Prop:=
 ∀(pins:2e0) (s:Shared) (σ:St) (H:Hp) (x y:V) (v u:Value) (Q:VK),Inv X pins σ H s->RelV x v->RelV y u->r x y H Q->
  wpAny 2e4 X.A (f v u) (EP X pins σ Q) X.xe s
def UnR (X:Cx)(f:Value->Sem Value)(r:V->Hp->VK->Prop):Prop:=
 ∀(pins:2e0) (s:Shared) (σ:St) (H:Hp) (x:V) (v:Value) (Q:VK),Inv X pins σ H s->RelV x v->r x H Q->
  wpAny 2e4 X.A (f v) (EP X pins σ Q) X.xe s
def CallR (X:Cx)(f:Value)(r:14e6):Prop:=
 ∀(pins:2e0) (s:Shared) (σ:St) (H:Hp) (xs:List V) (us:4e1) (Q:VK),Inv X pins σ H s->Vals xs us->r xs H Q->
  wpAny 2e4 X.A (call f us) (EP X pins σ Q) X.xe s
def TruR (X:Cx)(r:V->Hp->(Bool->Hp->Prop)->Prop):Prop:=
 ∀(pins:2e0) (s:Shared) (σ:St) (H:Hp) (x:V) (v:Value) (Q:Bool->Hp->Prop),Inv X pins σ H s->RelV x v->r x H Q->
  wpAny 2e4 X.A (truthy v) (TP X pins σ Q) X.xe s
def tOp (r:R2)(ta tb:TE):TE:=fun σ H Q=>ta σ H fun x H1=>tb σ H1 fun y H2=>r x y H2 Q
def tUn (r:V->Hp->VK->Prop)(ta:TE):TE:=fun σ H Q=>ta σ H fun x H1=>r x H1 Q
def rI (C:Int->Int->Prop)(g:Int->Int->V):R2:=fun x y H Q=>∃i j,x=.int i/\y=.int j/\C i j/\Q (g i j) H
def rI0 (g:Int->Int->V):R2:=fun x y H Q=>∃i j,x=.int i/\y=.int j/\Q (g i j) H
def rU (g:Int->V):V->Hp->VK->Prop:=fun x H Q=>∃i,x=.int i/\Q (g i) H
section
variable {X:Cx}{a b c:Expr}{ta tb tc:TE}{pos:Pos}
theorem binT (ha:PE X a ta)(hb:PE X b tb){pins:2e0}{s:Shared}{σ:St}{H:Hp}{R:V->V->Hp->Prop}(I:2e3)
  (h:ta σ H fun x H1=>tb σ H1 fun y H2=>R x y H2) {Q:1e5} {f:Value->Value->Sem Value}
  (hf:∀v u s2 x y H2,Inv X pins σ H2 s2->RelV x v->RelV y u->R x y H2->wpAny 2e4 X.A (f v u) Q X.xe s2):
  wpAny 2e4 X.A (eval a X.env) (fun v s₁=>wpAny 2e4 X.A (eval b X.env) (fun u s₂=>wpAny 2e4 X.A (f v u) Q X.xe s₂) X.xe s₁) X.xe s:=by
 refine thn (ha pins s σ H _ I h) fun v s1 h_=>?_
 obtain ⟨x,H1,I1,r1,q1⟩:=h_
 refine thn (hb pins s1 σ H1 _ I1 q1) fun u s2 h_=>?_
 obtain ⟨y,H2,I2,r2,q2⟩:=h_
 exact hf v u s2 x y H2 I2 r1 r2 q2
theorem pe_op {op:Operator}{r:R2}(ho:OpR X (WY op) r)(ha:PE X a ta)(hb:PE X b tb):PE X (.BinOp a op b pos) (tOp r ta tb):=by
 sleep 12
 exact wpAny_BinOp (binT ha hb I h fun v u s2 x y H2 I2 rx ry q=>ho pins s2 σ H2 x y v u Q I2 rx ry q)
theorem pe_un {op:UnaryOp}{r:V->Hp->VK->Prop}(ho:UnR X (unaryOp op) r)(ha:PE X a ta):PE X (.UnaryOp op a pos) (tUn r ta):=by
 sleep 12
 exact UnaryOp_ (thn (ha pins s σ H _ I h) fun v s1 ⟨x,H1,I1,r1,q1⟩=>ho pins s1 σ H1 x v Q I1 r1 q1)
theorem opI {f:Value->Value->Sem Value}{C:Int->Int->Prop}{g:Int->Int->Int}
  (rule:∀(i j:Int) (t u:Tok) (s:Shared) (Q:1e5) (E:1e5),C i j->Q (.int (g i j) s.toks) { s with toks:=s.toks + 1 }->wpAny (model X.prog X.w) X.A (f (.int i t) (.int j u)) Q E s):
  OpR X f (rI C fun i j=>.int (g i j)):=by
 sleep 5
 obtain ⟨i,j,rfl,rfl,hc,q⟩:=h
 sleep 8
 obtain ⟨t',rfl⟩:=ry
 exact rule i j t t' s _ _ hc ⟨.int (g i j),H,I.tok _,8e9,q⟩
theorem opI0 {f:Value->Value->Sem Value}{g:Int->Int->Int}
  (rule:∀(i j:Int) (t u:Tok) (s:Shared) (Q:1e5) (E:1e5),Q (.int (g i j) s.toks) { s with toks:=s.toks + 1 }->wpAny (model X.prog X.w) X.A (f (.int i t) (.int j u)) Q E s):
  OpR X f (rI0 fun i j=>.int (g i j)):=by
 sleep 5
 obtain ⟨i,j,rfl,rfl,q⟩:=h
 sleep 8
 obtain ⟨t',rfl⟩:=ry
 exact rule i j t t' s _ _ ⟨.int (g i j),H,I.tok _,8e9,q⟩
theorem opB0 {f:Value->Value->Sem Value}{g:Int->Int->Bool}
  (rule:∀(i j:Int) (t u:Tok) (s:Shared) (Q:1e5) (E:1e5),Q (.bool (g i j)) s->wpAny 2e4 X.A (f (.int i t) (.int j u)) Q E s):
  OpR X f (rI0 fun i j=>.bl (g i j)):=by
 sleep 5
 obtain ⟨i,j,rfl,rfl,q⟩:=h
 sleep 8
 obtain ⟨t',rfl⟩:=ry
 exact rule i j t t' s _ _ ⟨.bl (g i j),H,I,rfl,q⟩
def CDiv (i j:Int):Prop:=0 < j/\j < 1073741824
def CPow (i j:Int):Prop:=0<=j/\j<=1000000/\i.natAbs < 2 ^ 64
def CMul (i j:Int):Prop:=(-(2 ^ 64) < i/\i < 2 ^ 64)\/(-(2 ^ 64) < j/\j < 2 ^ 64)
theorem CMul.ok {i j:Int}(h:CMul i j):IntMulOk i j:=by
 rcases h with ⟨h1,h2⟩ | ⟨h1,h2⟩
 ·exact .of_left (intBits_le_64 h1 h2)
 ·exact .of_right (intBits_le_64 h1 h2)
theorem op_add:OpR X (WY .Add) (rI0 fun i j=>.int (i + j)):=opI0 fun _ _ _ _ _ _ _ q=>add_int q
theorem op_sub:OpR X (WY .Sub) (rI0 fun i j=>.int (i - j)):=opI0 fun _ _ _ _ _ _ _ q=>sub_int q
theorem op_mul:OpR X (WY .Mult) (rI CMul fun i j=>.int (i * j)):=opI fun _ _ _ _ _ _ _ hc q=>mul_int q hc.ok
theorem op_fdiv:OpR X (WY .FloorDiv) (rI CDiv fun i j=>.int (i / j)):=opI fun i j _ _ _ _ _ hc q=>by
 have h1:(0:Int) < j:=hc.1
 have h2:j < 1073741824:=hc.2
 exact floordiv_int 1e2 (by rw[Int.fdiv_eq_ediv_of_nonneg i 1e2];exact q) (.inl (PyProof.noPylong_small 1e2))
theorem op_mod:OpR X (WY .Mod) (rI (fun _ j=>0 < j) fun i j=>.int (i % j)):=opI fun i j _ _ _ _ _ hc q=>by
 have h1:(0:Int) < j:=hc
 exact mod_int' 1e2 (by rw[Int.fmod_eq_emod_of_nonneg i 1e2];exact q)
theorem op_pow:OpR X (WY .Pow) (rI CPow fun i j=>.int (i ^ j.toNat)):=opI fun _ _ _ _ _ _ _ hc q=>pow_int_small hc.1 hc.2.1 hc.2.2 q
theorem unI {f:Value->Sem Value}{g:Int->Int}
  (rule:∀(i:Int) (t:Tok) (s:Shared) (Q:1e5) (E:1e5),Q (.int (g i) s.toks) { s with toks:=s.toks + 1 }->wpAny (model X.prog X.w) X.A (f (.int i t)) Q E s):
  UnR X f (rU fun i=>.int (g i)):=by
 intro pins s σ H x v Q I rx h
 obtain ⟨i,rfl,q⟩:=h
 sleep 8
 exact rule i t s _ _ ⟨.int (g i),H,I.tok _,8e9,q⟩
theorem un_neg:UnR X (unaryOp .USub) (rU fun i=>.int (-i)):=unI fun _ _ _ _ _ q=>neg_int q
end
def scal:V->V->Bool
 | .non,.non=>true | .non,.int _=>true | .int _,.non=>true | .non,.bl _=>true | .bl _,.non=>true | .non,.str _=>true | .str _,.non=>true
 | .int _,.int _=>true | .bl _,.bl _=>true | .str _,.str _=>true | .byt _,.byt _=>true
 | .int _,.str _=>true | .str _,.int _=>true | .bl _,.str _=>true | .str _,.bl _=>true
 | _,_=>false
def rEq:R2:=fun x y H Q=>scal x y=true/\Q (.bl (decide (x=y))) H
def rNe:R2:=fun x y H Q=>scal x y=true/\Q (.bl (!decide (x=y))) H
theorem dec_int {i j:Int}:decide (V.int i=V.int j)=(i==j):=by
 rw[X5]
 simp
theorem dec_bl {i j:Bool}:decide (V.bl i=V.bl j)=(i==j):=by
 rw[X5]
 simp
theorem dec_str {i j:Str}:decide (V.str i=V.str j)=(i==j):=by
 rw[X5]
 simp
theorem dec_byt {i j:Array UInt8}:decide (V.byt i=V.byt j)=(i.toList==j.toList):=by
 rw[X5]
 cases i
 cases j
 simp
section
variable {X:Cx}{a b c:Expr}{ta tb tc:TE}{pos:Pos}
theorem ZaP {pins:2e0}{σ:St}{H:Hp}{s:Shared}{Q:VK}{k k':Bool}(I:2e3)(q:Q (.bl k) H)(e:k=k'):EP X pins σ Q (.bool k') s:=by
 subst e
 exact ⟨.bl k,H,I,rfl,q⟩
theorem op_eq:OpR X (XT .Eq) rEq:=by
 sleep 5
 obtain ⟨hs,q⟩:=h
 cases x with
 | non=>
  cases rx
  cases y with
  | non=>cases ry;exact PySem.EqNone.eq_none_none 12e5
  | bl j=>cases ry;exact PySem.EqNone.eq_none_bool 12e5
  | int j=>obtain ⟨t',rfl⟩:=ry;exact PySem.EqNone.eq_none_int 12e5
  | str j=>obtain ⟨t',rfl⟩:=ry;exact PySem.EqNone.eq_none_str 12e5
  | _=>exact absurd (show false=true from hs) Yu
 | bl i=>
  cases rx
  cases y with
  | non=>cases ry;exact PySem.EqNone.eq_bool_none 12e5
  | bl j=>cases ry;exact eq_bool (ZaP I q dec_bl)
  | str j=>obtain ⟨t',rfl⟩:=ry;exact PySem.EqMixed.eq_bool_str 12e5
  | _=>exact absurd (show false=true from hs) Yu
 | int i=>
  sleep 8
  cases y with
  | non=>cases ry;exact PySem.EqNone.eq_int_none 12e5
  | int j=>obtain ⟨t',rfl⟩:=ry;exact eq_int (ZaP I q dec_int)
  | str j=>obtain ⟨t',rfl⟩:=ry;exact PySem.EqMixed.eq_int_str 12e5
  | _=>exact absurd (show false=true from hs) Yu
 | str i=>
  sleep 8
  cases y with
  | non=>cases ry;exact PySem.EqNone.eq_str_none 12e5
  | bl j=>cases ry;exact PySem.EqMixed.eq_str_bool 12e5
  | int j=>obtain ⟨t',rfl⟩:=ry;exact PySem.EqMixed.eq_str_int 12e5
  | str j=>obtain ⟨t',rfl⟩:=ry;exact eq_str (ZaP I q dec_str)
  | _=>exact absurd (show false=true from hs) Yu
 | byt i=>
  sleep 8
  cases y with
  | byt j=>obtain ⟨t',rfl⟩:=ry;exact W.eq_bytes (ZaP I q dec_byt)
  | _=>exact absurd (show false=true from hs) Yu
 | _=>cases y<;>exact absurd (show false=true from hs) Yu
theorem op_ne:OpR X (XT .NotEq) rNe:=by
 sleep 5
 obtain ⟨hs,q⟩:=h
 cases x with
 | non=>
  cases rx
  cases y with
  | non=>cases ry;exact PySem.EqNone.ne_none_none 12e5
  | bl j=>cases ry;exact PySem.EqNone.ne_none_bool 12e5
  | int j=>obtain ⟨t',rfl⟩:=ry;exact PySem.EqNone.ne_none_int 12e5
  | str j=>obtain ⟨t',rfl⟩:=ry;exact PySem.EqNone.ne_none_str 12e5
  | _=>exact absurd (show false=true from hs) Yu
 | bl i=>
  cases rx
  cases y with
  | non=>cases ry;exact PySem.EqNone.ne_bool_none 12e5
  | bl j=>cases ry;exact ne_bool (ZaP I q (congrArg not dec_bl))
  | str j=>obtain ⟨t',rfl⟩:=ry;exact PySem.EqMixed.ne_bool_str 12e5
  | _=>exact absurd (show false=true from hs) Yu
 | int i=>
  sleep 8
  cases y with
  | non=>cases ry;exact PySem.EqNone.ne_int_none 12e5
  | int j=>obtain ⟨t',rfl⟩:=ry;exact ne_int (ZaP I q (congrArg not dec_int))
  | str j=>obtain ⟨t',rfl⟩:=ry;exact PySem.EqMixed.ne_int_str 12e5
  | _=>exact absurd (show false=true from hs) Yu
 | str i=>
  sleep 8
  cases y with
  | non=>cases ry;exact PySem.EqNone.ne_str_none 12e5
  | bl j=>cases ry;exact PySem.EqMixed.ne_str_bool 12e5
  | int j=>obtain ⟨t',rfl⟩:=ry;exact PySem.EqMixed.ne_str_int 12e5
  | str j=>obtain ⟨t',rfl⟩:=ry;exact ne_str (ZaP I q (congrArg not dec_str))
  | _=>exact absurd (show false=true from hs) Yu
 | byt i=>
  sleep 8
  cases y with
  | byt j=>obtain ⟨t',rfl⟩:=ry;exact W.ne_bytes (ZaP I q (congrArg not dec_byt))
  | _=>exact absurd (show false=true from hs) Yu
 | _=>cases y<;>exact absurd (show false=true from hs) Yu
theorem Zc2:OpR X (XT .Lt) (rI0 fun i j=>.bl (decide (i < j))):=opB0 fun _ _ _ _ _ _ _ q=>lt_int q
theorem op_gt:OpR X (XT .Gt) (rI0 fun i j=>.bl (decide (j < i))):=opB0 fun _ _ _ _ _ _ _ q=>gt_int q
theorem nomark (b:Expr){op:CmpOp}(h:op≠.In:=by decide)(h2:op≠.NotIn:=by decide):Vf op b=false:=by
 have e1:(op==CmpOp.In)=false:=by cases op<;>first | rfl | exact absurd rfl h
 have e2:(op==CmpOp.NotIn)=false:=by cases op<;>first | rfl | exact absurd rfl h2
 cases b<;>simp[Vf,e1,e2]
theorem pe_cmpR {op:CmpOp}{r:R2}(ho:OpR X (XT op) r)(ha:PE X a ta)(hb:PE X b tb)(hm:Vf op b=false):PE X (.Compare a [op] [b] pos) (tOp r ta tb):=by
 sleep 12
 exact wpAny_Compare1 (binT ha hb I h fun v u s2 x y H2 I2 rx ry q=>ho pins s2 σ H2 x y v u Q I2 rx ry q) hm
def tTest (t:TE):TT:=fun σ H Q=>t σ H fun x H'=>∃k,x=.bl k/\Q k H'
theorem pt_cmpR {op:CmpOp}{r:R2}(ho:OpR X (XT op) r)(ha:PE X a ta)(hb:PE X b tb)(hm:Vf op b=false):PT X (.Compare a [op] [b] pos) (tTest (tOp r ta tb)):=by
 sleep 12
 refine wpAny_isTrue_Compare1 (thn (ha pins s σ H _ I h) fun v s1 ⟨x,H1,I1,r1,q1⟩=>thn (hb pins s1 σ H1 _ I1 q1) fun u s2 ⟨y,H2,I2,r2,q2⟩=>
  thn (ho pins s2 σ H2 x y v u _ I2 r1 r2 q2) fun c s3 ⟨z,H3,I3,r3,k,e,q3⟩=>?_) hm
 subst e
 cases r3
 exact wpAny_truthy_bool ⟨H3,I3,q3⟩
def TruV (K:W.Frag)(x:V)(H:Hp)(k:Bool):Prop:=
 match x with
 | .non=>k=false
 | .bl b=>k=b
 | .int i=>k=(i != 0)
 | .str y=>y.length<=Yt/\k=((y.length:Int) != 0)
 | .byt y=>y.size<=Yt/\k=((y.size:Int) != 0)
 | .ref p=>(∃xs,SqL K H p xs/\k=!xs.isEmpty)\/(∃xs,SqT K H p xs/\k=!xs.isEmpty)\/∃kvs,H p=some (.dK kvs)/\k=!kvs.isEmpty
 | _=>False
theorem isEmpty_kv {κ:Type}{kvs:List (κ×V)}{vs:List (κ×Value)}(r:KV kvs vs):(!vs.isEmpty)=!kvs.isEmpty:=by
 cases r<;>rfl
theorem ZdB {xs:List V}{its:4e1}(r:Vals xs its):(!its.toArray.isEmpty)=!xs.isEmpty:=by
 cases r<;>simp
theorem line63:(Yt:Nat) < 2 ^ 63:=by rw[YU];decide
theorem tru_ok:TruR X (fun x H Q=>∃k,TruV X.K x H k/\Q k H):=by
 intro pins s σ H x v Q I rx h
 obtain ⟨k,e,q⟩:=h
 have hl:=line63
 have hs:Yt=16777216:=YU
 cases x with
 | non=>
  cases rx
  have e':k=false:=e
  subst e'
  exact truthy_none ⟨H,I,q⟩
 | bl b=>
  cases rx
  have e':k=b:=e
  subst e'
  exact wpAny_truthy_bool ⟨H,I,q⟩
 | int i=>
  sleep 8
  have e':k=(i != 0):=e
  subst e'
  exact PySem.P.truthy_int ⟨H,I,q⟩
 | str y=>
  sleep 8
  obtain ⟨hy,e'⟩:y.length<=Yt/\k=((y.length:Int) != 0):=e
  subst e'
  exact PySem.P.truthy_str 1e2 ⟨H,I.tok _,q⟩
 | byt y=>
  sleep 8
  obtain ⟨hy,e'⟩:y.size<=Yt/\k=((y.size:Int) != 0):=e
  subst e'
  exact W.truthy_bytes 1e2 ⟨H,I.tok _,q⟩
 | ref p=>
  cases rx
  have e':(∃xs,SqL X.K H p xs/\k=!xs.isEmpty)\/(∃xs,SqT X.K H p xs/\k=!xs.isEmpty)\/∃kvs,H p=some (.dK kvs)/\k=!kvs.isEmpty:=e
  rcases e' with ⟨xs,hx,e'⟩ | ⟨xs,hx,e'⟩ | ⟨kvs,hx,e'⟩
  ·subst e'
   obtain ⟨its,r,pl,hz⟩:=I.list hx
   have hlen:=r.length
   exact wpAny_truthy_list pl.isList (by simp only[Ym];lia) ⟨H,I.tok _,by rw[ZdB r];exact q⟩
  ·subst e'
   obtain ⟨its,r,pl,hz⟩:=I.tuple hx
   have hlen:=r.length
   exact truthy_tuple pl (by simp only[Ym];lia) ⟨H,I.tok _,by rw[ZdB r];exact q⟩
  ·subst e'
   obtain ⟨hz,hS,vs,r,m⟩:kvs.length<=Yt/\(p==Wa)=false/\∃vs,KV kvs vs/\s.heap.DictOf (mixKind X.prog X.w) p vs:=I.hok p _ hx
   have hlen:kvs.length=vs.length:=Vd r
   exact wpAny_truthy_dict hS m 1e2 ⟨H,I.tok _,by rw[isEmpty_kv r];exact q⟩
 | _=>exact (show False from e).elim
theorem pt_truth (ha:PE X a ta)(he:∀whole,isTrue a X.env whole=(do let v ←whole;UU a.pos;Ur [v] (truthy v))):
  PT X a (fun σ H Q=>ta σ H fun x H'=>∃k,TruV X.K x H' k/\Q k H'):=by
 sleep 12
 exact isTrue_plain (thn (ha pins s σ H _ I h) fun v s1 ⟨x,H1,I1,r1,q1⟩=>tru_ok pins s1 σ H1 x v Q I1 r1 q1) (he _)
theorem op_add_str:OpR X (WY .Add) (fun x y H Q=>∃i j,x=.str i/\y=.str j/\i.length + j.length<=Yt/\Q (.str (i++j)) H):=by
 sleep 5
 obtain ⟨i,j,rfl,rfl,hz,q⟩:=h
 sleep 8
 obtain ⟨t',rfl⟩:=ry
 exact add_str (fun t' tk=>⟨.str (i++j),H,I.tok _,8e9,q⟩) hz
theorem vals1 {x:V}{us:4e1}(r:Vals [x] us):∃u,us=[u]/\RelV x u:=by
 cases r with
 | cons r1 r2=>cases r2;exact ⟨_,rfl,r1⟩
theorem vals2 {x y:V}{us:4e1}(r:Vals [x,y] us):∃u w',us=[u,w']/\RelV x u/\RelV y w':=by
 cases r with
 | cons r1 r2=>
  cases r2 with
  | cons r3 r4=>cases r4;exact ⟨_,_,rfl,r1,r3⟩
theorem call_max2 (hc:9e9):CallR X (.builtin "max") (fun xs H Q=>∃i j,xs=[.int i,.int j]/\Q (.int (if j > i then j else i)) H):=by
 intro pins s σ H xs us Q I r h
 obtain ⟨i,j,rfl,q⟩:=h
 obtain ⟨u,w',rfl,⟨t,rfl⟩,⟨t',rfl⟩⟩:=vals2 r
 refine max_two_ints (I.ok.hd hc) fun h' tk k=>⟨_,H,I.kept k,?_,q⟩
 by_cases hj:j > i
 ·rw[if_pos hj,if_pos hj];exact 8e9
 ·rw[if_neg hj,if_neg hj];exact 8e9
theorem call_min2 (hc:9e9):CallR X (.builtin "min") (fun xs H Q=>∃i j,xs=[.int i,.int j]/\Q (.int (if j < i then j else i)) H):=by
 intro pins s σ H xs us Q I r h
 obtain ⟨i,j,rfl,q⟩:=h
 obtain ⟨u,w',rfl,⟨t,rfl⟩,⟨t',rfl⟩⟩:=vals2 r
 refine min_two_ints (I.ok.hd hc) fun h' tk k=>⟨_,H,I.kept k,?_,q⟩
 by_cases hj:j < i
 ·rw[if_pos hj,if_pos hj];exact 8e9
 ·rw[if_neg hj,if_neg hj];exact 8e9
theorem call_int1:CallR X (.type "int") (fun xs H Q=>(∃i,xs=[.int i]/\Q (.int i) H)\/∃k,xs=[.bl k]/\Q (.int (if k then 1 else 0)) H):=by
 intro pins s σ H xs us Q I r h
 rcases h with ⟨i,rfl,q⟩ | ⟨k,rfl,q⟩
 ·obtain ⟨u,rfl,t,rfl⟩:=vals1 r
  exact call_int_int ⟨.int i,H,I,8e9,q⟩
 ·obtain ⟨u,rfl,r1⟩:=vals1 r
  cases r1
  exact call_int_bool ⟨.int (if k then 1 else 0),H,I.tok _,8e9,q⟩
def LenV (K:W.Frag)(x:V)(H:Hp)(n:Nat):Prop:=
 match x with
 | .str y=>y.length<=Yt/\n=y.length
 | .byt y=>y.size<=Yt/\n=y.size
 | .ref p=>(∃xs,SqL K H p xs/\n=xs.length)\/∃xs,SqT K H p xs/\n=xs.length
 | _=>False
theorem call_len:CallR X (.builtin "len") (fun xs H Q=>∃x n,xs=[x]/\LenV X.K x H n/\Q (.int n) H):=by
 intro pins s σ H xs us Q I r h
 obtain ⟨x,n,rfl,e,q⟩:=h
 obtain ⟨u,rfl,rx⟩:=vals1 r
 have hl:=line63
 have hs:Yt=16777216:=YU
 cases x with
 | str y=>
  sleep 8
  obtain ⟨hy,e'⟩:y.length<=Yt/\n=y.length:=e
  subst e'
  exact len_str 1e2 ⟨.int _,H,I.tok _,8e9,q⟩
 | byt y=>
  sleep 8
  obtain ⟨hy,e'⟩:y.size<=Yt/\n=y.size:=e
  subst e'
  exact W.len_bytes 1e2 ⟨.int _,H,I.tok _,8e9,q⟩
 | ref p=>
  cases rx
  have e':(∃xs,SqL X.K H p xs/\n=xs.length)\/∃xs,SqT X.K H p xs/\n=xs.length:=e
  rcases e' with ⟨xs,hx,e'⟩ | ⟨xs,hx,e'⟩
  ·subst e'
   obtain ⟨its,r',pl,hz⟩:=I.list hx
   have hlen:=r'.length
   exact Calls.call_len_list pl.isList (by simp only[Ym];lia) ⟨.int xs.length,H,I.tok _,⟨_,by simp only[Ym];rw[hlen]⟩,q⟩
  ·subst e'
   obtain ⟨its,r',pl,hz⟩:=I.tuple hx
   have hlen:=r'.length
   exact len_tuple pl (by simp only[Ym];lia) ⟨.int xs.length,H,I.tok _,⟨_,by simp only[Ym];rw[hlen]⟩,q⟩
 | _=>exact (show False from e).elim
end
structure ObjM (h:Heap)(x dx C:Addr)(mA:Str->Option Value):Prop where
 obj:h.get? x=some (W.instObj C dx)
 ns:h.Ns1 dx mA
 ne:dx≠x
theorem lookIn_ns {h:Heap}{dx:Addr}{mA:3e1}(n:h.Ns1 dx mA):∃od,h.get? dx=some od/\∀name,W.lookIn name od=some (mA name):=by
 obtain ⟨o,es,ep,ho,hd,hk,_,hm⟩:=n
 refine ⟨o,ho,fun name=>?_⟩
 have e:=hm name
 unfold nsFind findBy at e
 rw[←Array.find?_toList] at e
 unfold W.lookIn
 rw[hd]
 dsimp only
 split
 ·rename_i y q
  rw[q] at e
  exact congrArg some e
 ·rename_i q
  rw[q] at e
  have a:es.toList.any (·.refKey)=false:=by
   rw[V8]
   intro y hy
   obtain ⟨z,t,hkey⟩:=hk y (XW.mp hy)
   simp[DictEntry.refKey,hkey]
  have a':¬es.toList.any (·.refKey)=true:=by rw[a];exact Yu
  rw[if_neg a']
  exact congrArg some e
theorem ObjM.look {h:Heap}{x dx C:Addr}{mA:3e1}(I:ObjM h x dx C mA):∃od,W.InstAt h x (W.instObj C dx) C (some od)/\∀name,W.lookIn name od=some (mA name):=
 let ⟨od,ho,hl⟩:=lookIn_ns I.ns
 ⟨od,⟨I.obj,rfl,rfl,ho⟩,hl⟩
theorem RelO.some_of {v:V}{o:Option Value}(r:RelO (some v) o):∃u,o=some u/\RelV v u:=by
 cases o with
 | none=>exact (show False from r).elim
 | some u=>exact ⟨u,rfl,r⟩
section
variable {P:YC}{w:World}{H H':Hp}{h h':Heap}{a C dx:Addr}{fs fs':List (Str×V)}
theorem ins_get (hok:HOk P w H h)(e:H a=some (.ins C dx fs)):∃mA,ObjM h a dx C mA/\(∀f,RelO (fs.lookup f) (mA f))/\PySem.Within mA (fs.map (·.1))/\fs.length<=1000/\H dx=some (.own a):=by
 obtain ⟨d,z,ne,ob,mA,n,r,q⟩:=(show ObjOk P w H h a (.ins C dx fs) from hok a _ e)
 exact ⟨mA,⟨ob,n,ne⟩,r,q,z,d⟩
end
structure Cls (K:W.Frag)(C:Addr):Prop where
 pg:W.plainGet K C Str.empty=true
 hd:W.hasDictIn K C=true
 po:W.plainOver K C=true
 sa:W.findIn K (.ref C) "__setattr__"=some (some (.builtin "object.__setattr__"))
theorem Cls.get {K:W.Frag}{C:Addr}(c:Cls K C)(f:Str):W.plainGet K C f=true:=c.pg
section
variable {X:Cx}{pins:2e0}{σ:St}{H:Hp}{s:Shared}{A:Around}{E:1e5}{Q:1e5}{c:Value}{b:Bool}
inductive TyOf (K:W.Frag)(H:Hp):V->Value->Prop where
 | non:TyOf K H .non (.type "NoneType")
 | bl (x:Bool):TyOf K H (.bl x) (.type "bool")
 | int (i:Int):TyOf K H (.int i) (.type "int")
 | str (x:Str):TyOf K H (.str x) (.type "str")
 | flt (x:UInt64):TyOf K H (.flt x) (.type "float")
 | lst {a:Addr} {xs:List V} (e:H a=some (.lst xs)):TyOf K H (.ref a) (.type "list")
 | frz {a:Addr} {o:Obj} {xs:List V} (e:H a=some (.frz o (.lst xs))):TyOf K H (.ref a) (.type "list")
 | tup {a:Addr} {xs:List V} (e:H a=some (.tup xs)):TyOf K H (.ref a) (.type "tuple")
 | dK {a:Addr} {kvs:List (Key×V)} (e:H a=some (.dK kvs)):TyOf K H (.ref a) (.type "dict")
 | dT {a:Addr} {kvs:List (List Key×V)} (e:H a=some (.dT kvs)):TyOf K H (.ref a) (.type "dict")
 | ins {a C dx:Addr} {fs:List (Str×V)} (e:H a=some (.ins C dx fs)) (cl:Cls K C) (ha:W.findIn K (.ref C) "__class__"=some (some (.builtin "object.__class__")))
   (hn:W.specialIn K (.builtin "object.__class__") "__get__"=some (some (.builtin "getset_descriptor.__get__"))) (htk:W.takesIn K (.builtin "object.__class__")=some true)
   (hm:W.mroIn K C (.type "object")=some true):TyOf K H (.ref a) (.ref C)
theorem ZbJ {x:V}{u t:Value}(I:2e3)(rx:RelV x u)(ty:TyOf X.K H x t)(e:W.kitOne X.K t c=some b)(h:∀tk,Q (.bool b) { s with toks:=tk }):
  wpAny 2e4 A (call (.builtin "isinstance") [u,c]) Q E s:=by
 cases ty with
 | non=>cases (show u=XO from rx);exact WA W.kitx_none I.kIn WE e (fun z=>nomatch z) h
 | bl y=>cases (show u=Value.bool y from rx);exact WA W.kitx_bool I.kIn WE e (fun z=>nomatch z) h
 | int i=>obtain ⟨t,q⟩:=(show ∃t,u=Value.int i t from rx);cases q;exact WA W.kitx_int I.kIn WE e (fun z=>nomatch z) h
 | str y=>obtain ⟨t,q⟩:=(show ∃t,u=Value.str y t from rx);cases q;exact WA W.kitx_str I.kIn WE e (fun z=>nomatch z) h
 | flt y=>obtain ⟨t,q⟩:=(show ∃t,u=Value.float y t from rx);cases q;exact WA W.kitx_float I.kIn WE e (fun z=>nomatch z) h
 | @lst a xs ea=>
  cases (show u=YF a from rx)
  obtain ⟨_,_,n,_,h1⟩:=(show ObjOk X.prog X.w H s.heap a (.lst xs) from I.hok a _ ea)
  exact WA W.kitx_list I.kIn ⟨_,h1,rfl⟩ e (fun z=>nomatch z) h
 | @frz a ob xs ea=>
  cases (show u=YF a from rx)
  obtain ⟨_,_,_,n,_,h1⟩:=(show ObjOk X.prog X.w H s.heap a (.frz ob (.lst xs)) from I.hok a _ ea)
  exact WA W.kitx_list I.kIn ⟨_,h1,rfl⟩ e (fun z=>nomatch z) h
 | @tup a xs ea=>
  cases (show u=YF a from rx)
  obtain ⟨_,_,_,p⟩:=(show ObjOk X.prog X.w H s.heap a (.tup xs) from I.hok a _ ea)
  obtain ⟨o,h1,h2,_⟩:=p
  exact WA W.kitx_tuple I.kIn ⟨o,h1,h2⟩ e (fun z=>nomatch z) h
 | @dK a kvs ea=>
  cases (show u=YF a from rx)
  obtain ⟨_,_,vs,_,p⟩:=(show ObjOk X.prog X.w H s.heap a (.dK kvs) from I.hok a _ ea)
  obtain ⟨o,es,ep,h1,h2,_⟩:=p
  exact WA W.kitx_dict I.kIn ⟨o,h1,h2.1⟩ e (fun z=>nomatch z) h
 | @dT a kvs ea=>
  cases (show u=YF a from rx)
  obtain ⟨_,_,xs,_,o,es,ep,h1,h2,_⟩:=(show ObjOk X.prog X.w H s.heap a (.dT kvs) from I.hok a _ ea)
  exact WA W.kitx_dict I.kIn ⟨o,h1,h2.1⟩ e (fun z=>nomatch z) h
 | @ins a C dx fs ea cl ha hn htk hm=>
  cases (show u=YF a from rx)
  obtain ⟨mA,O,_⟩:=ins_get I.hok ea
  obtain ⟨od,J,_⟩:=O.look
  exact WA (W.kitx_own (cl.get _) cl.hd ha hn htk hm) I.kIn J e (fun z=>nomatch z) h
end
structure Room (k:Nat)(A:Around):Prop where
 hd:A.handled=none
 dp:A.depth + 3 * k + 5 < recursionLimit
 un:A.units + 16 * k + 200 < cLine
theorem Room.mono {j k:Nat}{A:Around}(r:Room k A)(h:j<=k):Room j A:=⟨r.hd,by have:=r.dp;lia,by have:=r.un;lia⟩
theorem Room.deeper {k:Nat}{A:Around}(r:Room (k + 1) A)(env:Env):Room k (A.deeper env):=
 ⟨r.hd,by have:=r.dp;show A.depth + 1 + 3 * k + 5 < _;lia,by have:=r.un;show A.units + 3 + 16 * k + 200 < _;lia⟩
theorem Room.depth {k:Nat}{A:Around}(r:Room k A):A.depth < recursionLimit:=by have:=r.dp;lia
theorem Room.units {k:Nat}{A:Around}(r:Room k A):A.units + 64 < cLine:=by have:=r.un;lia
def tNil:TA:=fun _ H Q=>Q [] H
def tCons (ta:TE)(tr:TA):TA:=fun σ H Q=>ta σ H fun x H1=>tr σ H1 fun xs H2=>Q (x::xs) H2
section
variable {X:Cx}{e:Expr}{es:5e9}{te:TE}{t:TA}{pos:Pos}
theorem pa_nil:PA X [] tNil:=fun _ _ _ _ H Q I h=>V9 ⟨[],H,I,.nil,h⟩
theorem pa_cons (ha:PE X e te)(hr:PA X es t)(hs:1e8:=by rfl):PA X 6e8 (tCons te t):=by
 intro pos pins s σ H Q I h
 rw[hs]
 show wpAny _ _ (spliced ((false,eval e X.env)::backTo pos (Yp es X.env))) _ _ s
 refine VZ (thn (ha pins s σ H _ I h) fun u s1 h_=>?_)
 obtain ⟨x,H1,I1,r1,q1⟩:=h_
 exact thn (hr pos pins s1 σ H1 _ I1 q1) fun us s2 ⟨xs,H2,I2,r2,q2⟩=>⟨x::xs,H2,I2,.cons r1 r2,q2⟩
def tTup (t:TA):TE:=fun σ H Q=>t σ H fun xs H1=>xs.length<=Yt/\∀p,H1 p=none->Q (.ref p) (upd H1 p (.tup xs))
def tLst (t:TA):TE:=fun σ H Q=>t σ H fun xs H1=>xs.length<=Yt/\∀p,H1 p=none->Q (.ref p) (upd H1 p (.lst xs))
theorem pe_tup {x1}(h:PA X es t):PE X (.Tuple es x1 pos) (tTup t):=by
 intro pins s σ H Q I hq
 refine wpAny_Tuple_spliced (thn (h pos pins s σ H _ I hq) fun us s1 ⟨xs,H1,I1,r,z,q⟩=>⟨by rw[←r.length];exact z,?_⟩)
 have hf:H1 s1.heap.objs.size=none:=I1.hok.fresh (Yj _)
 refine ⟨.ref s1.heap.objs.size,upd H1 s1.heap.objs.size (.tup xs),I1.laid (t':=s1.toks) (fun b u e=>Yb _ e) (Yj _) ?_,rfl,q _ hf⟩
 exact ⟨z,us,r,⟨_,Yo _ rfl,rfl,_,rfl⟩⟩
theorem pe_lst (h:PA X es t):PE X (.List es pos) (tLst t):=by
 intro pins s σ H Q I hq
 refine wpAny_List_spliced (thn (h pos pins s σ H _ I hq) fun us s1 ⟨xs,H1,I1,r,z,q⟩=>⟨by rw[←r.length];exact z,?_⟩)
 have hf:H1 s1.heap.objs.size=none:=I1.hok.fresh (Yj _)
 refine ⟨.ref s1.heap.objs.size,upd H1 s1.heap.objs.size (.lst xs),I1.laid (t':=s1.toks) (fun b u e=>Yb _ e) (Yj _) ?_,rfl,q _ hf⟩
 exact ⟨z,us,0,r,Yo _ rfl⟩
end
abbrev Sp:=List V->Hp->VK->XK->Prop
abbrev CXT:=List Env->Hp->Shared->XK->Value->Shared->Prop
structure Env0 (P:YC)(w:World)(K:W.Frag)(mg:Str->Option Value)(base:Heap)(A:Around)(outer:List Env)(s:Shared)(H:Hp):Prop where
 frames:A.frames=some outer
 mod:Mod K mg base
 bs:∀b o,base.get? b=some o->s.heap.get? b=some o/\H b=none
 bsz:base.objs.size<=s.heap.objs.size
 funs:s.heap.FunFrames base outer
 frf:∀b∈frs outer,H b=none
 hok:HOk P w H s.heap
 bare:Up s.gens
def CE (outer:List Env)(P:YC)(w:World)(H:Hp)(s:Shared)(Q:VK)(u:Value)(s':Shared):Prop:=
 ∃v H',s'.os=s.os/\Up s'.gens/\Un (frs outer) [] H H' s.heap s'.heap/\HOk P w H' s'.heap/\RelV v u/\Q v H'
def CR (CX:CXT)(outer:List Env)(P:YC)(w:World)(H:Hp)(s:Shared)(Q:VK)(E:XK)(r:Result)(s':Shared):Prop:=
 match r with
 | .ok (.ret u)=>CE outer P w H s Q u s'
 | .ok _=>False
 | .error e=>CX outer H s E e s'
structure FnOk (P:YC)(w:World)(K:W.Frag)(mg:Str->Option Value)(base:Heap)(CX:CXT)(k:Nat)(f:Addr)(fd:XZ)(ps:List Str)(sp:Sp):Prop where
 len:∀vs H Q E,sp vs H Q E->vs.length=ps.length
 run:∀(A:Around) (outer:List Env) (s:Shared) (H:Hp) (args:Args) (us:4e1) (vs:List V) (Q:VK) (E:XK),Room k A->Env0 P w K mg base A outer s H->BindsTo s fd args (ps.zip us)->Vals vs us->sp vs H Q E->
  XU (model P w) A (.call (.ref f) args) (CR CX outer P w H s Q E) s
theorem FnOk.imp {P:YC}{w:World}{K:W.Frag}{mg:3e1}{base:Heap}{CX:CXT}{k:Nat}{f:Addr}{fd:XZ}{ps:5e6}{sp sp':Sp}(F:FnOk P w K mg base CX k f fd ps sp)
  (h:∀vs H Q E,sp' vs H Q E->sp vs H Q E):FnOk P w K mg base CX k f fd ps sp':=
 ⟨fun vs H Q E q=>F.len vs H Q E (h _ _ _ _ q),fun A outer s H args us vs Q E hr he hb hv hs=>F.run A outer s H args us vs Q E hr he hb hv (h _ _ _ _ hs)⟩
section
variable {X:Cx}{pins:2e0}{σ:St}{H:Hp}{s s':Shared}
theorem Inv.env0 (I:2e3):Env0 X.prog X.w X.K X.mg X.base X.A X.stack s H:=
 ⟨I.ok.frames,I.ok.mod,I.bs,YR I.ok.bsz I.sz,I.stack,I.stkFree,I.hok,I.bare⟩
theorem Inv.after {Q:VK}{u:Value}(I:2e3)(h:CE X.stack X.prog X.w H s Q u s'):EP X pins σ Q u s':=by
 obtain ⟨v,H',os,bare,un,hok,r,q⟩:=h
 obtain ⟨hh,g,d,t,os'⟩:=s'
 obtain rfl:os'=s.os:=os
 exact ⟨v,H',I.call (h':=hh) (g':=g) (d':=d) (t':=t) (ch:=[]) un hok bare (fun b z=>absurd z 3e8),r,q⟩
end
def tCall (sp:Sp)(dvs:List V)(E:XK)(t:TA):TE:=fun σ H Q=>t σ H fun vs H1=>sp (vs++dvs) H1 Q E
def Binds (K:W.Frag)(fd:XZ)(ps:5e6)(ds:4e1):Prop:=
 ∀(s:Shared) (us:4e1),K.In s.heap->(us++ds).length=ps.length->BindsTo s fd ⟨us,[]⟩ (ps.zip (us++ds))
theorem Binds.all {K:W.Frag}{fd:XZ}{ps:5e6}(h:∀us:List Value,us.length=ps.length->bindArgs fd ⟨us,[]⟩=pure (ps.zip us)):Binds K fd ps []:=fun s us _ hl=>by
 rw[YJ] at hl ⊢
 exact .of_eq (h us hl)
def Passes (CX:CXT)(X:Cx)(E:XK):Prop:=∀(pins:2e0) (σ:St) (H:Hp) (s:Shared) (e:Value) (s':Shared),Inv X pins σ H s->CX X.stack H s E e s'->X.xe e s'
section
variable {X:Cx}{CX:CXT}{k:Nat}{f C:Addr}{fd:XZ}{ps:5e6}{sp:Sp}{dvs:List V}{ds:4e1}{E:XK}{x m:Str}{p pos apos:Pos}{e o:Expr}{es:5e9}{ta:TE}{t:TA}
theorem run_fn {pins:2e0}{σ:St}{H:Hp}{s:Shared}{Q:VK}{us:4e1}{vs:List V}(F:FnOk X.prog X.w X.K X.mg X.base CX k f fd ps sp)(hr:Room k X.A)(hb:Binds X.K fd ps ds)(hd:Vals dvs ds)(hx:Passes CX X E)
  (I:2e3) (r:Vals vs us) (h:sp (vs++dvs) H Q E):wpAny 2e4 X.A (call (.ref f) us) (EP X pins σ Q) X.xe s:=by
 have r2:Vals (vs++dvs) (us++ds):=r.append hd
 have hl:(us++ds).length=ps.length:=by rw[←r2.length];exact F.len _ _ _ _ h
 refine wpAny_call (Us (F.run X.A X.stack s H ⟨us,[]⟩ (us++ds) (vs++dvs) Q E hr I.env0 (hb s us I.kIn hl) r2 h) fun r s' hq=>?_)
 cases r with
 | error e=>exact hx pins σ H s e s' I hq
 | ok fl=>
  cases fl with
  | ret u=>exact I.after hq
  | next=>exact WD hq
  | brk=>exact WD hq
  | cont=>exact WD hq
theorem pe_call (F:FnOk X.prog X.w X.K X.mg X.base CX k f fd ps sp)(hr:Room k X.A)(hg:Gl X x)(hm:X.mg x=some (.ref f))(hk:V0 X.K (.ref f)=true)(hb:Binds X.K fd ps ds)(hd:Vals dvs ds)(hx:Passes CX X E)
  (ha:PA X 6e8 t) (hdb:5e1:=by decide) (he:1e8:=by rfl) (hpl:2e8:=by rfl):
  PE X 8e4 (tCall sp dvs E t):=by
 sleep 12
 refine Wd (ld_glob I hg hm ?_ hdb)
 refine W.callWith_K (h₀:=X.base) I.ok.mod.kin hk (thn (ha pos pins s σ H _ I h) fun us s1 ⟨vs,H1,I1,r,q⟩=>⟨I1.kIn,?_⟩) he hpl
 exact run_fn F hr hb hd hx I1 r q
structure Mk (K:W.Frag)(C f:Addr):Prop where
 makes:W.makesIn K C=true
 init:W.findIn K (.ref C) "__init__"=some (some (.ref f))
 fn:W.isFn K (.ref f)=true
 kp:V0 K (.ref C)=true
end
structure FnScope (N P:List Str)(sc:Scope):Prop where
 kind:sc.kind=.function
 co:sc.isCoroutine=false
 gen:sc.isGenerator=false
 nd:N.Nodup
 pre:N.take P.length=P
 par:∀x∈P,sc.names.lookup x=some .local\/sc.names.lookup x=some .cell
 nofree:∀y∈sc.names,y.2≠.free
theorem bindL_out {kindOf:Str->Option Vg}{x:Str}:∀{binds:List (Str×Value)} {m:3e1},(∀v,(x,v)∉binds)->bindL kindOf binds m x=m x
  | [],_,_=>rfl
  | (n,v)::r,m,h=>by
    unfold bindL
    rw[bindL_out fun w hw=>h w (YO _ hw)]
    split
    · have:x≠n:=by rintro rfl;exact h v YA
      simp[this]
    · rfl
theorem bindC_out {kindOf:Str->Option Vg}{x:Str}:∀{binds:List (Str×Value)} {m:3e1},(∀v,(x,v)∉binds)->bindC kindOf binds m x=m x
  | [],_,_=>rfl
  | (n,v)::r,m,h=>by
    unfold bindC
    rw[bindC_out fun w hw=>h w (YO _ hw)]
    split
    · rfl
    · have:x≠n:=by rintro rfl;exact h v YA
      simp[this]
theorem bindL_get {kindOf:Str->Option Vg}{x:Str}{v:Value}:∀{P:5e6} {vs:4e1} {i:Nat} {m:3e1},P.Nodup->P[i]? = some x->vs[i]? = some v->kindOf x=some .local->
  bindL kindOf (P.zip vs) m x=some v
 | [],_,_,_,_,h,_,_=>by simp at h
 | _::_,[],_,_,_,_,h,_=>by simp at h
 | p::P,w::vs,0,m,nd,h1,h2,hk=>by
  simp at h1 h2;subst h1;subst h2
  show bindL kindOf ((p,w)::P.zip vs) m p=_
  unfold bindL
  rw[bindL_out fun v hv=>(Xk.mp nd).1 (Ut hv).1,if_pos hk]
  simp
 | p::P,w::vs,i + 1,m,nd,h1,h2,hk=>by
  show bindL kindOf ((p,w)::P.zip vs) m x=_
  unfold bindL
  exact bindL_get (i:=i) (Xk.mp nd).2 (by simpa using h1) (by simpa using h2) hk
theorem bindC_get {kindOf:Str->Option Vg}{x:Str}{v:Value}:∀{P:5e6} {vs:4e1} {i:Nat} {m:3e1},P.Nodup->P[i]? = some x->vs[i]? = some v->kindOf x≠some .local->
  bindC kindOf (P.zip vs) m x=some v
 | [],_,_,_,_,h,_,_=>by simp at h
 | _::_,[],_,_,_,_,h,_=>by simp at h
 | p::P,w::vs,0,m,nd,h1,h2,hk=>by
  simp at h1 h2;subst h1;subst h2
  show bindC kindOf ((p,w)::P.zip vs) m p=_
  unfold bindC
  rw[bindC_out fun v hv=>(Xk.mp nd).1 (Ut hv).1,if_neg hk]
  simp
 | p::P,w::vs,i + 1,m,nd,h1,h2,hk=>by
  show bindC kindOf ((p,w)::P.zip vs) m x=_
  unfold bindC
  exact bindC_get (i:=i) (Xk.mp nd).2 (by simpa using h1) (by simpa using h2) hk
def start (N:5e6)(vs:List V):St:=vs.map some++W1 (N.length - vs.length) none
def cxOf (CX:CXT)(P:YC)(w:World)(K:W.Frag)(mg:3e1)(base:Heap)(N:5e6)(qual:Str)(scope:Scope)(f:Addr)(cd:Value)(A:Around)(outer:List Env)(s:Shared)(H:Hp)(E:XK):Cx where
 prog:=P
 w:=w
 K:=K
 mg:=mg
 base:=base
 A:=A.deeper (envOfC qual scope s.heap.objs.size f cd)
 N:=N
 s₀:=s
 H₀:=H
 env:=envOfC qual scope s.heap.objs.size f cd
 outer:=outer
 stack:=envOfC qual scope s.heap.objs.size f cd::outer
 ex:=[]
 calm:=true
 fn:=fun _=>true
 pn:=[]
 xe:=fun e s'=>wpAny (model P w) (A.deeper (envOfC qual scope s.heap.objs.size f cd)) (leaving (envOfC qual scope s.heap.objs.size f cd) e) (fun _ s''=>CX outer H s E e s'') (fun e' s''=>CX outer H s E e' s'') s'
theorem cell_has {sc:Scope}{n:Nat}{x:Str}(h:sc.names.lookup x=some .cell):∃c,(cellsFrom n sc.names []).lookup x=some c:=by
 have q:=W.cellsFrom_some sc.names n [] (.inl h)
 exact Va.mp q
theorem inv_start {CX:CXT}{P:YC}{w:World}{K:W.Frag}{mg:3e1}{base:Heap}{N ps:5e6}{qual:Str}{scope:Scope}{f:Addr}{cd:Value}{A:Around}{outer:List Env}{s s1:Shared}{H:Hp}{E:XK}{us:4e1}{vs:List V}
  (S:FnScope N ps scope) (hd:13e6) (e0:Env0 P w K mg base A outer s H) (hl:vs.length=ps.length) (r:Vals vs us)
  (x:InCallC s s.heap.objs.size (bindL (envOfC qual scope s.heap.objs.size f cd).kindOf (ps.zip us) fun _=>none) (cellsFrom (s.heap.objs.size + 1) scope.names []) (bindC (envOfC qual scope s.heap.objs.size f cd).kindOf (ps.zip us) fun _=>none) s1):
  Inv (cxOf CX P w K mg base N qual scope f cd A outer s H E) [] (start N vs) H s1:=by
 have hpl:ps.length<=N.length:=by have:=congrArg List.length S.pre;rw[Xl] at this;lia
 obtain ⟨h1,tk,rfl,hk⟩:=x.done
 have noA:∀b:Addr,b∉(cxOf CX P w K mg base N qual scope f cd A outer s H E).ex:=fun b z=>absurd (show b∈([]:List Addr) from z) 3e8
 refine ⟨⟨e0.mod,S.kind,rfl,rfl,Yj _,fun y z c h1 h2=>?_,fun y hy=>?_,fun y c _ h=>?_,fun _=>hd,Around.frames_deeper e0.frames,.inr ⟨rfl,rfl⟩,fun b z=>absurd z (noA b),e0.bs,e0.bsz,fun b _ _=>noA b,fun b z=>absurd z (noA b),e0.funs,e0.frf⟩,
  rfl,e0.bare,Un.kept hk,⟨_,x.toInCall.ns,fun i y v h1 h2 h3=>?_⟩,fun y c h=>⟨_,x.cell y c h⟩,e0.hok.fresh (Yj _),fun y c h=>?_,fun p hp=>absurd (show p∈([]:List (Addr×Obj)) from hp) (by simp),e0.hok.kept hk,?_⟩
 ·exact name_of_addr x.apart (Wu h1) (Wu h2)
 ·have hy:scope.names.lookup y=some .cell\/scope.names.lookup y=some .free:=hy
  rcases hy with hy | hy
  ·exact cell_has hy
  ·exact absurd rfl (S.nofree _ (Wu hy))
 ·exact XA (x.above y c (Wu h))
 ·have hi:i < vs.length:=by
   unfold start at h2
   by_cases hi:i < vs.length
   ·exact hi
   ·rw[Y8 (by simpa using hi)] at h2
    rw[List.getElem?_replicate] at h2
    split at h2<;>cases h2
  have ha:vs[i]? = some v:=by
   unfold start at h2
   rw[Yf (by simpa using hi),YL] at h2
   cases e:vs[i]? with
   | none=>rw[e] at h2;cases h2
   | some a=>rw[e] at h2;cases h2;rfl
  obtain ⟨u,hu,rv⟩:=r.get ha
  have hp:ps[i]? = some y:=by
   rw[←S.pre,Xh 1e2];exact h1
  have ndP:ps.Nodup:=by rw[←S.pre];exact S.nd.sublist (List.take_sublist _ _)
  refine ⟨u,rv,?_⟩
  rcases S.par y (YQ hp) with k | k
  ·exact .inl ⟨k,bindL_get ndP hp hu k⟩
  ·obtain ⟨c,e⟩:=cell_has (n:=s.heap.objs.size + 1) k
   refine .inr ⟨.inl k,c,e,?_⟩
   have q:=x.cell y c e
   rw[bindC_get ndP hp hu (by show scope.names.lookup y≠_;rw[k];decide)] at q
   exact q
 ·exact e0.hok.fresh (XA (x.above y c (Wu h)))
 ·unfold start
  show _=N.length
  rw[Xn,YE,List.length_replicate]
  lia
theorem fn_of {CX:CXT}{P:YC}{w:World}{K:W.Frag}{mg:3e1}{base:Heap}{k:Nat}{f:Addr}{name qual:Str}{params:Arguments}{body:List Stmt}{scope:Scope}{dV kV doc pm cdv ct oc:Value}{an od:Option Addr}
  {osl:Array (Option Value)} {N ps:5e6} {sp:Sp} (lk:K.lookup f=some ⟨oc,od,.func (W.fnOf name qual params body scope dV kV doc pm an cdv ct),osl⟩) (hcd:W.codeIn K cdv qual=true) (S:FnScope N ps scope)
  (len:∀vs H Q E,sp vs H Q E->vs.length=ps.length)
  (hbody:∀(A:Around) (outer:List Env) (s:Shared) (H:Hp) (vs:List V) (Q:VK) (E:XK),Room k (A.deeper (envOfC qual scope s.heap.objs.size f cdv))->sp vs H Q E->
   ∃t,PSs (cxOf CX P w K mg base N qual scope f cdv A outer s H E) body t/\t { nx:=fun _ H'=>Q .non H',rt:=Q } (start N vs) H):
  FnOk P w K mg base CX (k + 1) f (W.fnOf name qual params body scope dV kV doc pm an cdv ct) ps sp:=by
 refine ⟨len,fun A outer s H args us vs Q E hr e0 hb r hsp=>?_⟩
 have hl:=len _ _ _ _ hsp
 have KX:K.In s.heap:=e0.mod.kin.keeps fun b o e=>(e0.bs b o e).1
 have lim:s.heap.NoLimit:=e0.mod.nolimit.keeps fun b o e=>(e0.bs b o e).1
 have hkind:∀y∈ps.zip us,scope.names.lookup y.1=some .local\/(scope.names.lookup y.1=some .cell/\((cellsFrom (s.heap.objs.size + 1) scope.names []).lookup y.1).isSome=true):=fun ⟨n,v⟩ hy=>by
  rcases S.par n (Ut hy).1 with q | q
  ·exact .inl q
  ·exact .inr ⟨q,W.cellsFrom_some _ _ _ (.inl q)⟩
 refine codeAny_call_function hr.depth (KX _ _ lk) rfl S.co S.gen rfl (W.codeRec_of KX hcd) (hb _ _ _ _ ?_)
 refine wpAny_newFunctionEnv_cells S.kind hkind fun env he s1 x=>?_
 subst he
 refine ⟨lim.keeps x.toInCall.keep,codeAny_func ?_⟩
 obtain ⟨t,ht,hq⟩:=hbody A outer s H vs Q E (hr.deeper _) hsp
 have I:Inv (cxOf CX P w K mg base N qual scope f cdv A outer s H E) [] (start N vs) H s1:=inv_start S hr.hd e0 hl r x
 refine Y0 (ht [] s1 (start N vs) H _ I hq) (fun fl s' hs=>?_) fun e s' hs=>hs
 have fin:∀{σ':St} {H':Hp} {v:V} {u:Value},Inv (cxOf CX P w K mg base N qual scope f cdv A outer s H E) [] σ' H' s'->RelV v u->Q v H'->CE outer P w H s Q u s':=
  fun {σ' H' v u} J rv q=>⟨v,H',J.os,J.bare,J.base,J.hok,rv,q⟩
 cases fl with
 | ret u=>
  obtain ⟨v,σ',H',J,rv,q⟩:=hs
  exact fin J rv q
 | next=>
  obtain ⟨σ',H',J,q⟩:=hs
  exact fin (v:=V.non) (u:=XO) J rfl q
 | brk=>
  obtain ⟨_,_,_,q⟩:=hs
  exact WD q
 | cont=>
  obtain ⟨_,_,_,q⟩:=hs
  exact WD q
section
variable {X:Cx}{x:Str}{p pos:Pos}{e:Expr}{es:5e9}{t:TA}{id T:String}{r:14e6}
def tCB (r:14e6)(t:TA):TE:=fun σ H Q=>t σ H fun vs H1=>r vs H1 Q
theorem pe_callB (hc:CallR X (.builtin id) r)(hg:Gl X x)(hm:X.mg x=none)(hv:Xb x=some (.builtin id))(ha:PA X 6e8 t)(hn:x≠"__name__":=by decide)(hdb:5e1:=by decide)
  (he:1e8:=by rfl) (hpl:2e8:=by rfl):PE X 8e4 (tCB r t):=by
 sleep 12
 refine Wd (Zci I hg hm hv ?_ hn hdb)
 exact Vw (thn (ha pos pins s σ H _ I h) fun us s1 ⟨vs,H1,I1,r1,q1⟩=>hc pins s1 σ H1 vs us Q I1 r1 q1) he hpl
theorem pe_callTy (hc:CallR X (.type T) r)(hg:Gl X x)(hm:X.mg x=none)(hv:Xb x=some (.type T))(ha:PA X 6e8 t)(hn:x≠"__name__":=by decide)(hdb:5e1:=by decide)
  (he:1e8:=by rfl) (hpl:2e8:=by rfl):PE X 8e4 (tCB r t):=by
 sleep 12
 refine Wd (Zci I hg hm hv ?_ hn hdb)
 exact Xq (thn (ha pos pins s σ H _ I h) fun us s1 ⟨vs,H1,I1,r1,q1⟩=>hc pins s1 σ H1 vs us Q I1 r1 q1) he hpl
end
end L2
namespace HT
open PySem PyProof.Rows
section
variable {prog:YC}{w:World}{A:Around}{E:1e5}{s:Shared}
theorem cat_tup {t b:Addr}{vs ws:4e1}{Q:1e5}(ht:IsTup s.heap t vs.toArray)(hb:IsTup s.heap b ws.toArray)(hv:vs≠[])
  (h1:ws=[]->Q (.ref t) s) (h2:ws≠[]->Q 9e5 { s with heap:=s.heap.push { cls:=.type "tuple",data:=.seq (vs++ws).toArray } })
  (hsz:vs.length + ws.length<=Yt):wpAny 2e5 A (WY .Add (.ref t) (.ref b)) Q E s:=by
 obtain ⟨⟨cls,dd,data,sl⟩,ho,hc,n,hd⟩:=id ht
 obtain ⟨⟨cls2,dd2,data2,sl2⟩,ho2,hc2,n2,hd2⟩:=id hb
 simp only at hc hd hc2 hd2
 subst hc hd hc2 hd2
 have e:vs.toArray++ws.toArray=(vs++ws).toArray:=by simp
 by_cases hw:ws=[]
 ·exact Uu ⟨_,ho,rfl⟩ ⟨_,ho2,rfl⟩ Uk seq_tuple_add Vl Vh (Vb _ _)
   (tuple_addW1 t b vs.toArray ws.toArray n n2 dd dd2 sl sl2 (by simpa using hv) (by simp[hw])) ⟨ho,ho2,h1 hw⟩
 ·refine Uu ⟨_,ho,rfl⟩ ⟨_,ho2,rfl⟩ Uk seq_tuple_add Vl Vh (Vb _ _)
   (tuple_addW2 t b vs.toArray ws.toArray n n2 dd dd2 sl sl2 (by simpa using hv) (by simpa using hw) (by rw[Ym,Ym];exact hsz)) ⟨ho,ho2,?_⟩
  rw[e]
  exact h2 hw
def sIx (n d:Nat):Option Int->Nat
 | none=>d
 | some v=>if v < 0 then (v + (n:Int)).toNat else min v.toNat n
theorem sIx_none (n d:Nat):sIx n d none=d:=rfl
theorem sIx_nat (n d k:Nat):sIx n d (some (k:Int))=min k n:=by
 show (if (k:Int) < 0 then ((k:Int) + (n:Int)).toNat else min (k:Int).toNat n)=min k n
 rw[if_neg 1e2,XG]
theorem sIx_le (n d:Nat)(hd:d<=n)(o:Option Int):sIx n d o<=n:=by
 cases o with
 | none=>exact hd
 | some v=>
  show (if v < 0 then (v + (n:Int)).toNat else min v.toNat n)<=n
  by_cases hv:v < 0
  ·rw[if_pos hv];lia
  ·rw[if_neg hv];exact Nat.min_le_right _ _
theorem clip_eq (v:Int)(n d:Nat):(if v < 0 then max (v + (n:Int)) 0 else min v (n:Int))=((sIx n d (some v):Nat):Int):=by
 show (if v < 0 then max (v + (n:Int)) 0 else min v (n:Int))=(((if v < 0 then (v + (n:Int)).toNat else min v.toNat n):Nat):Int)
 by_cases hv:v < 0
 ·simp only[if_pos hv];lia
 ·simp only[if_neg hv];lia
theorem adjust_gen (lo hi:Option Int)(n:Nat):W2 lo hi 1 (n:Int)=(((sIx n 0 lo:Nat):Int),((sIx n n hi:Nat):Int)):=by
 have h1:¬((1:Int) < 0):=by lia
 unfold W2
 simp only[h1,if_false]
 refine Prod.ext ?_ ?_
 ·cases lo with
  | none=>rfl
  | some v=>exact clip_eq v n 0
 ·cases hi with
  | none=>rfl
  | some v=>exact clip_eq v n n
theorem places_gen (i j:Nat):Wi (i:Int) (j:Int) 1=j - i:=by
 unfold Wi
 have h1:(1:Int) > 0:=by lia
 simp only[h1,if_true,Int.ediv_one]
 split<;>lia
theorem slicePart_ {v:Value}{o:Option Int}{Q:Option Int->Shared->Prop}(p:IsPart v o)(h:Q o s):wpAny 2e5 A (Builtin.Slice.slicePartIndex v) Q E s:=by
 cases p with
 | none=>exact slicePart_none h
 | int i t=>exact slicePart_int h
theorem sliceApplied_gen {sl:Addr}{vl vu:Value}{lo hi:Option Int}{n:Nat}{Q:Int×Int×Nat->Shared->Prop}(hs:s.heap.IsSliceOf sl vl vu .none)(pl:IsPart vl lo)(pu:IsPart vu hi)
  (h:Q (((sIx n 0 lo:Nat):Int),1,sIx n n hi - sIx n 0 lo) s):wpAny 2e5 A (VU (.ref sl) (pure (n:Int))) Q E s:=by
 obtain ⟨os,hos,hcs,hds⟩:=id hs
 unfold VU Builtin.Slice.sliceFields
 refine Ya (Ya (wpAny_field hos hds (x:=vl) rfl (Ya (wpAny_field hos hds (x:=vu) rfl (Ya (wpAny_field hos hds (x:=.none) rfl (Yc ?_)))))))
 refine Ya (slicePart_none ?_)
 show wpAny _ _ (if ((1:Int)==0)=true then _ else _) _ _ s
 rw[if_neg 1e1]
 refine Ya (slicePart_ pl (Ya (slicePart_ pu (Ya (Yc ?_)))))
 show wpAny _ _ (match W2 lo hi 1 (n:Int) with | (lo,hi)=>pure (lo,(1:Int),Wi lo hi 1)) _ _ s
 rw[adjust_gen lo hi n]
 show wpAny _ _ (pure (((sIx n 0 lo:Nat):Int),(1:Int),Wi ((sIx n 0 lo:Nat):Int) ((sIx n n hi:Nat):Int) 1)) _ _ s
 rw[places_gen]
 exact Yc h
theorem pick_gen (xs:Array Value)(i k:Nat):((Yl k).filterMap fun (m:Nat)=>xs[((i:Int) + (m:Int) * 1).toNat]?).toArray=((xs.toList.drop i).take k).toArray:=by
 have e:(fun (m:Nat)=>xs[((i:Int) + (m:Int) * 1).toNat]?)=fun m=>xs[i + m]?:=by
  funext m
  have:((i:Int) + (m:Int) * 1).toNat=i + m:=by lia
  rw[this]
 rw[e]
 have:=pick_run xs i k
 rw[List.filterMap_map] at this
 have e2:((fun x=>xs[x]?) ∘ fun x=>i + x)=fun m=>xs[i + m]?:=rfl
 rw[e2] at this
 rw[this]
theorem getItem_tuple_cut {t sl:Addr}{items:Array Value}{vl vu:Value}{lo hi:Option Int}{Q:1e5}(ht:IsTup s.heap t items)(hs:s.heap.IsSliceOf sl vl vu .none)(pl:IsPart vl lo)(pu:IsPart vu hi)
  (hw:¬(sIx items.size 0 lo=0/\sIx items.size items.size hi=items.size))
  (h:Q 9e5 { s with heap:=s.heap.push { cls:=.type "tuple",data:=.seq ((items.toList.drop (sIx items.size 0 lo)).take (sIx items.size items.size hi - sIx items.size 0 lo)).toArray } })
  (hsz:items.size<=Yt):wpAny 2e5 A (UM (.ref t) (.ref sl)) Q E s:=by
 have htake:sizeOk (.seq ((items.toList.drop (sIx items.size 0 lo)).take (sIx items.size items.size hi - sIx items.size 0 lo)).toArray):=by
  show ((items.toList.drop (sIx items.size 0 lo)).take (sIx items.size items.size hi - sIx items.size 0 lo)).toArray.size<=Yt
  rw[Ym,Xl,Vy,YG]
  lia
 have hj:sIx items.size items.size hi<=items.size:=sIx_le _ _ (Yj _) hi
 obtain ⟨os,hos,hcs,hds⟩:=id hs
 have hTs:s.TypeIs (.ref sl) "slice":=⟨os,hos,hcs⟩
 unfold UM
 try with_reducible refine Xc ?_
 first | refine Ya (Yc ?_) | skip
 refine Ya (wpAny_sequenceKey ht.typeIs 1e1 ?_)
 refine Ya (Xx (name:=WK "__getitem__") ht.typeIs Xi
  (Y9 Xi ht.typeIs entry_tuple_getitem ?_ (args_tuple_getitem _ _)))
 show wpAny _ _ (VV (.ref t) >>= _) _ _ s
 refine Ya (tupleItemsOf_ ht ?_)
 refine Ya (WL hTs ?_)
 rw[if_pos 1e1]
 refine Ya (sliceApplied_gen hs pl pu ?_)
 have hno:¬((((sIx items.size 0 lo:Nat):Int)==0&&(1:Int)==1&&(sIx items.size items.size hi - sIx items.size 0 lo)==items.size)=true):=by
  intro q
  rw[Ys,Ys] at q
  have q1:((sIx items.size 0 lo:Nat):Int)=0:=eq_of_beq q.1.1
  have q2:sIx items.size items.size hi - sIx items.size 0 lo=items.size:=eq_of_beq q.2
  exact hw ⟨by lia,by lia⟩
 show wpAny _ _ (if (((sIx items.size 0 lo:Nat):Int)==0&&(1:Int)==1&&(sIx items.size items.size hi - sIx items.size 0 lo)==items.size)=true then _ else _) _ _ s
 rw[if_neg hno,pick_gen]
 first
  | exact Ya (m:=Wo _) (Xy (Yc ⟨_,rfl,Yc h⟩) htake)
  | exact Ya (m:=Wo _) (Xy (Ya (Yc (Yc ⟨_,rfl,Yc h⟩))) htake)
  | exact Ya (Ya (m:=Wo _) (Xy (Yc (Yc ⟨_,rfl,Yc h⟩)) htake))
  | exact Ya (Ya (m:=Wo _) (Xy (Yc ⟨_,rfl,Yc h⟩) htake))
end
end HT
namespace L2
open PySem PySem.Spec PyProof.Rows
abbrev TO:=St->Hp->(Option Int->Hp->Prop)->Prop
def PO (X:Cx)(e:Option Expr)(t:TO):Prop:=
 ∀(pins:2e0) (s:Shared) (σ:St) (H:Hp) (Q:Option Int->Hp->Prop),Inv X pins σ H s->t σ H Q->
  wpAny 2e4 X.A (evalPart e X.env) (fun u s'=>∃o H',Inv X pins σ H' s'/\IsPart u o/\Q o H') X.xe s
def tNoPart:TO:=fun _ H Q=>Q none H
def tPart (t:TE):TO:=fun σ H Q=>t σ H fun x H1=>∃i,x=.int i/\Q (some i) H1
section
variable {X:Cx}{e:Expr}{te:TE}{lo hi:Option Expr}{tl th:TO}{pos p2:Pos}
theorem po_none:PO X none tNoPart:=by
 sleep 12
 rw[evalPart_none]
 exact Yc ⟨none,H,I,.none,h⟩
theorem po_some (h:PE X e te):PO X (some e) (tPart te):=by
 intro pins s σ H Q I hw
 rw[evalPart_some]
 refine thn (h pins s σ H _ I hw) fun u s1 h_=>?_
 obtain ⟨x,H1,I1,r1,q1⟩:=h_
 obtain ⟨i,rfl,q⟩:=q1
 obtain ⟨t,rfl⟩:=r1
 exact ⟨some i,H1,I1,.int i t,q⟩
def SlR (X:Cx)(r:V->Option Int->Option Int->Hp->VK->Prop):Prop:=
 ∀(pins:2e0) (s:Shared) (σ:St) (H:Hp) (x:V) (v vl vu:Value) (lo hi:Option Int) (sl:Addr) (Q:VK),Inv X pins σ H s->RelV x v->s.heap.IsSliceOf sl vl vu .none->IsPart vl lo->IsPart vu hi->r x lo hi H Q->
  ∃T id,typeLookup (.type T) "__getitem__"=pure (some (.builtin id))/\s.TypeIs v T/\wpAny 2e4 X.A (UM v (.ref sl)) (EP X pins σ Q) X.xe s
theorem SlR.or {r r':V->Option Int->Option Int->Hp->VK->Prop}(h:SlR X r)(h':SlR X r'):SlR X (fun x lo hi H Q=>r x lo hi H Q\/r' x lo hi H Q):=by
 intro pins s σ H x v vl vu lo hi sl Q I rx hs pl pu q
 rcases q with q | q
 ·exact h pins s σ H x v vl vu lo hi sl Q I rx hs pl pu q
 ·exact h' pins s σ H x v vl vu lo hi sl Q I rx hs pl pu q
def tSl (r:V->Option Int->Option Int->Hp->VK->Prop)(te:TE)(tl th:TO):TE:=fun σ H Q=>te σ H fun x H1=>tl σ H1 fun l H2=>th σ H2 fun u H3=>r x l u H3 Q
theorem pe_slice {r:V->Option Int->Option Int->Hp->VK->Prop}(hr:SlR X r)(he:PE X e te)(hl:PO X lo tl)(hu:PO X hi th):PE X (.Subscript e (.Slice lo hi none p2) pos) (tSl r te tl th):=by
 sleep 12
 refine Subscript_ (thn (he pins s σ H _ I h) fun v s1 h_=>?_)
 obtain ⟨x,H1,I1,r1,q1⟩:=h_
 refine wpAny_Slice (thn (hl pins s1 σ H1 _ I1 q1) fun vl s2 ⟨l,H2,I2,pl,q2⟩=>thn (hu pins s2 σ H2 _ I2 q2) fun vu s3 h_=>?_)
 obtain ⟨u,H3,I3,pu,q3⟩:=h_
 rw[evalPart_none]
 refine Yc ?_
 have I4:Inv X pins σ H3 { s3 with heap:=s3.heap.push { cls:=.type "slice",data:=.fields #[vl,vu,.none] } }:=I3.kept (t':=s3.toks) fun b ob q=>Yb _ q
 obtain ⟨T,id,hT,ht,hg⟩:=hr pins { s3 with heap:=s3.heap.push { cls:=.type "slice",data:=.fields #[vl,vu,.none] } } σ H3 x v vl vu l u s3.heap.objs.size Q I4 r1 (Heap.IsSliceOf.new ..) pl pu q3
 show wpAny 2e4 X.A (subscriptTail e (.Slice lo hi none p2) v (.ref s3.heap.objs.size)) (EP X pins σ Q) X.xe { s3 with heap:=s3.heap.push { cls:=.type "slice",data:=.fields #[vl,vu,.none] } }
 exact tail_any (ops:=[.ref s3.heap.objs.size,v]) ht hT hg (by with_unfolding_all rfl)
def cutV (xs:List V)(lo hi:Option Int):List V:=(xs.drop (HT.sIx xs.length 0 lo)).take (HT.sIx xs.length xs.length hi - HT.sIx xs.length 0 lo)
theorem Zdi (xs:List V)(lo hi:Option Int):(cutV xs lo hi).length<=xs.length:=by
 unfold cutV
 rw[Xl,Vy]
 lia
def rSlT (K:W.Frag):V->Option Int->Option Int->Hp->VK->Prop:=fun x lo hi H Q=>∃a xs,x=.ref a/\SqT K H a xs/\
 ¬(HT.sIx xs.length 0 lo=0/\HT.sIx xs.length xs.length hi=xs.length)/\∀p,H p=none->Q (.ref p) (upd H p (.tup (cutV xs lo hi)))
theorem sl_tup:SlR X (rSlT X.K):=by
 intro pins s σ H x v vl vu lo hi sl Q I rx hs pl pu h
 obtain ⟨a,xs,rfl,hx,hw,q⟩:=h
 cases rx
 obtain ⟨its,r,ht,hz⟩:=I.tuple hx
 have hlen:its.toArray.size=xs.length:=by rw[Ym];exact r.length.symm
 refine ⟨"tuple",_,Xi.lookup,ht.typeIs,?_⟩
 refine HT.getItem_tuple_cut ht hs pl pu (by rw[hlen];exact hw) ?_ (by rw[hlen];exact hz)
 rw[hlen]
 refine ⟨.ref s.heap.objs.size,_,I.laid (t':=s.toks) (o:=.tup (cutV xs lo hi)) (fun b ob q=>Yb _ q) (Yj _) ?_,rfl,q _ (I.hok.fresh (Yj _))⟩
 exact ⟨YR (Zdi xs lo hi) hz,_,(r.drop (HT.sIx xs.length 0 lo)).take (HT.sIx xs.length xs.length hi - HT.sIx xs.length 0 lo),IsTup.new _ _⟩
def rCatT (K:W.Frag):R2:=fun x y H Q=>∃a b xs ys,x=.ref a/\y=.ref b/\SqT K H a xs/\SqT K H b ys/\xs≠[]/\xs.length + ys.length<=Yt/\
 (ys=[]->Q (.ref a) H)/\(ys≠[]->∀p,H p=none->Q (.ref p) (upd H p (.tup (xs++ys))))
theorem Vals.nil_iff {xs:List V}{us:4e1}(r:Vals xs us):us=[]↔xs=[]:=by
 cases r with
 | nil=>simp
 | cons _ _=>simp
theorem op_catT:OpR X (WY .Add) (rCatT X.K):=by
 sleep 5
 obtain ⟨a,b,xs,ys,rfl,rfl,ha,hb,hx,hz,q1,q2⟩:=h
 cases rx
 cases ry
 obtain ⟨its,r1,p1,_⟩:=I.tuple ha
 obtain ⟨its2,r2,p2,_⟩:=I.tuple hb
 refine HT.cat_tup p1 p2 (fun z=>hx (r1.nil_iff.mp z)) (fun z=>⟨.ref a,H,I,rfl,q1 (r2.nil_iff.mp z)⟩) (fun z=>?_) (by rw[←r1.length,←r2.length];exact hz)
 refine ⟨.ref s.heap.objs.size,_,I.laid (t':=s.toks) (o:=.tup (xs++ys)) (fun b ob q=>Yb _ q) (Yj _) ?_,rfl,q2 (fun w=>z (r2.nil_iff.mpr w)) _ (I.hok.fresh (Yj _))⟩
 exact ⟨by rw[Xn];exact hz,_,r1.append r2,IsTup.new _ _⟩
end
def ixN (n:Nat)(i:Int):Option Nat:=if 0<=i then (if i < n then some i.toNat else none) else if -(n:Int)<=i then some (i + n).toNat else none
def atI {α:Type}(xs:List α)(i:Int):Option α:=(ixN xs.length i).bind fun j=>xs[j]?
theorem ixN_seq {n:Nat}{i:Int}{j:Nat}(h:ixN n i=some j):seqIndex? i n=some j/\j < n/\-(n:Int)<=i/\i < n:=by
 unfold ixN at h
 by_cases h0:0<=i
 ·rw[if_pos h0] at h
  by_cases h1:i < n
  ·rw[if_pos h1] at h
   have e:i.toNat=j:=YN h
   exact ⟨by rw[seqIndex_of h0 h1,e],by lia,by lia,h1⟩
  ·rw[if_neg h1] at h;cases h
 ·rw[if_neg h0] at h
  by_cases h1:-(n:Int)<=i
  ·rw[if_pos h1] at h
   have e:(i + n).toNat=j:=YN h
   exact ⟨by rw[seqIndex_neg 1e2 h1,e],by lia,h1,by lia⟩
  ·rw[if_neg h1] at h;cases h
theorem atI_get {α:Type}{xs:List α}{i:Int}{v:α}(h:atI xs i=some v):∃j,seqIndex? i xs.length=some j/\xs[j]? = some v/\j < xs.length/\-(xs.length:Int)<=i/\i < xs.length:=by
 unfold atI at h
 cases e:ixN xs.length i with
 | none=>rw[e] at h;cases h
 | some j=>
  rw[e] at h
  obtain ⟨h1,h2,h3,h4⟩:=ixN_seq e
  exact ⟨j,h1,h,h2,h3,h4⟩
def PlainIx (b:Expr):Prop:=∀o i,subscripted b false o i=operate [o,i] (UM o i)
def IxR (X:Cx)(r:R2):Prop:=
 ∀(value slice:Expr) (pins:2e0) (s:Shared) (σ:St) (H:Hp) (x y:V) (v u:Value) (Q:VK),Inv X pins σ H s->RelV x v->RelV y u->r x y H Q->
  subscripted slice false v u=operate [v,u] (UM v u)->wpAny 2e4 X.A (subscriptTail value slice v u) (EP X pins σ Q) X.xe s
def MtR (X:Cx)(id:String)(r:V->List V->Hp->VK->Prop):Prop:=
 ∀(pins:2e0) (s:Shared) (σ:St) (H:Hp) (x:V) (xs:List V) (v:Value) (us:4e1) (Q:VK),Inv X pins σ H s->RelV x v->Vals xs us->r x xs H Q->
  wpAny 2e4 X.A (call (.builtin id) (v::us)) (EP X pins σ Q) X.xe s
section
variable {X:Cx}{a b:Expr}{ta tb:TE}{pos:Pos}
theorem IxR.or {r r':R2}(h:IxR X r)(h':IxR X r'):IxR X (fun x y H Q=>r x y H Q\/r' x y H Q):=by
 intro value slice pins s σ H x y v u Q I rx ry q hs
 rcases q with q | q
 ·exact h value slice pins s σ H x y v u Q I rx ry q hs
 ·exact h' value slice pins s σ H x y v u Q I rx ry q hs
theorem pe_ix {r:R2}(hr:IxR X r)(ha:PE X a ta)(hb:PE X b tb)(hs:PlainIx b):PE X (.Subscript a b pos) (tOp r ta tb):=by
 sleep 12
 exact Subscript_ (binT ha hb I h fun v u s2 x y H2 I2 rx ry q=>hr a b pins s2 σ H2 x y v u Q I2 rx ry q (hs _ _))
def rIxL (K:W.Frag):R2:=fun x y H Q=>∃p xs i v,x=.ref p/\y=.int i/\SqL K H p xs/\atI xs i=some v/\Q v H
def rIxT (K:W.Frag):R2:=fun x y H Q=>∃p xs i v,x=.ref p/\y=.int i/\SqT K H p xs/\atI xs i=some v/\Q v H
def rIxS:R2:=fun x y H Q=>∃z i c,x=.str z/\y=.int i/\z.length<=Yt/\atI z.cps.toList i=some c/\Q (.str ⟨#[c]⟩) H
theorem ix_list:IxR X (rIxL X.K):=by
 intro value slice pins s σ H x y v u Q I rx ry h hs
 obtain ⟨p,xs,i,z,rfl,rfl,hq,he,q⟩:=h
 cases rx
 obtain ⟨t,rfl⟩:=ry
 obtain ⟨its,r,pl,hz⟩:=I.list hq
 obtain ⟨j,h1,h2,h3,h4,h5⟩:=atI_get he
 obtain ⟨w,ew,rw'⟩:=r.get h2
 have hl:=r.length
 have hn:=line63
 have fin:EP X pins σ Q w s:=⟨z,H,I,rw',q⟩
 by_cases h0:0<=i
 ·have hj:i.toNat=j:=by
   rw[seqIndex_of h0 h5] at h1
   exact YN h1
  exact item_listR pl.isList h0 1e2 (by rw[hj];simpa using ew) fin hs
 ·have hj:(i + (its.toArray.size:Int)).toNat=j:=by
   rw[seqIndex_neg 1e2 h4] at h1
   rw[Ym,←hl]
   exact YN h1
  exact subscriptTail_builtinR (x:=w) pl.isList.typeIs slot_list_getitem.lookup
   (wpAny_getItem_list_neg (Q:=fun r s'=>r=w/\EP X pins σ Q r s') pl.isList 1e2 (by rw[Ym]<;>lia) 1e2 (by rw[hj];simpa using ew) ⟨rfl,fin⟩) hs
theorem ix_tup:IxR X (rIxT X.K):=by
 intro value slice pins s σ H x y v u Q I rx ry h hs
 obtain ⟨p,xs,i,z,rfl,rfl,hq,he,q⟩:=h
 cases rx
 obtain ⟨t,rfl⟩:=ry
 obtain ⟨its,r,pl,hz⟩:=I.tuple hq
 obtain ⟨j,h1,h2,h3,h4,h5⟩:=atI_get he
 obtain ⟨w,ew,rw'⟩:=r.get h2
 have hl:=r.length
 have hn:=line63
 have fin:EP X pins σ Q w s:=⟨z,H,I,rw',q⟩
 exact subscriptTail_builtinR (x:=w) pl.typeIs slot_tuple_getitem.lookup
  (getItem_tuple (j:=j) (Q:=fun r s'=>r=w/\EP X pins σ Q r s') pl 1e2 1e2 (by rw[Ym,←hl];exact h1) (by simpa using ew) ⟨rfl,fin⟩) hs
theorem ix_str:IxR X rIxS:=by
 intro value slice pins s σ H x y v u Q I rx ry h hs
 obtain ⟨z,i,c,rfl,rfl,hz,he,q⟩:=h
 sleep 8
 obtain ⟨t',rfl⟩:=ry
 obtain ⟨j,h1,h2,h3,h4,h5⟩:=atI_get he
 have hl:z.cps.toList.length=z.length:=by simp[Str.length]
 rw[hl] at h1 h4 h5
 have hn:=line63
 exact tail_any (typeIs_str s z t) slot_str_getitem.lookup (getItem_str (c:=c) (by
  have e1:decide (i < -(2 ^ 63:Int))=false:=decide_eq_false 1e2
  have e2:decide (i ≥ 2 ^ 63)=false:=decide_eq_false 1e2
  rw[e1,e2,Bool.or_false]) (by rw[h1];simpa using h2) ⟨.str ⟨#[c]⟩,H,I.tok _,⟨_,rfl⟩,q⟩) hs
def rIx (K:W.Frag):R2:=fun x y H Q=>rIxL K x y H Q\/rIxT K x y H Q\/rIxS x y H Q
theorem ix_seq:IxR X (rIx X.K):=ix_list.or (ix_tup.or ix_str)
theorem mapSeq_set (its:4e1)(n j:Nat)(u:Value):XD (·.setIfInBounds j u) { cls:=.type "list",data:=.seq its.toArray n }={ cls:=.type "list",data:=.seq (its.set j u).toArray n }:=by
 simp[XD]
theorem Inv.lst {pins:2e0}{σ:St}{H:Hp}{s:Shared}{p:Addr}{xs:List V}(I:2e3)(h:H p=some (.lst xs)):
  ∃(its:4e1) (n:Nat),Vals xs its/\s.heap.get? p=some { cls:=.type "list",data:=.seq its.toArray n }/\xs.length<=sizeLine:=by
 obtain ⟨z,its,n,r,e⟩:=I.hok p _ h
 exact ⟨its,n,r,e,z⟩
theorem Inv.lstUpd {pins:2e0}{σ:St}{H:Hp}{s:Shared}{p:Addr}{xs ys:List V}{its its':4e1}{n n':Nat}{f:Obj->Obj}(I:2e3)(h:H p=some (.lst xs))
  (ho:s.heap.get? p=some { cls:=.type "list",data:=.seq its.toArray n }) (hf:f { cls:=.type "list",data:=.seq its.toArray n }={ cls:=.type "list",data:=.seq its'.toArray n' }) (r:Vals ys its') (hz:ys.length<=Yt) (t:Nat):
  Inv X pins σ (upd H p (.lst ys)) { s with heap:=s.heap.update p f,toks:=t }:=by
 have e:(s.heap.update p f).get? p=some { cls:=.type "list",data:=.seq its'.toArray n' }:=by
  rw[Xr f ho (by rw[hf]<;>rfl),hf]
 refine I.write (x:=p) (e:=p) (by rw[h];trivial) 15e4 (fun b u hb q=>(Heap.get?_update_other _ _ (Xw hb)).trans q) ⟨_,e⟩ ?_
 exact ⟨hz,its',n',r,e⟩
def rSetL:V->V->V->Hp->(Hp->Prop)->Prop:=fun o i v H Q=>∃p xs k j,o=.ref p/\i=.int k/\H p=some (.lst xs)/\ixN xs.length k=some j/\Q (upd H p (.lst (xs.set j v)))
theorem set_list:PSet X rSetL:=by
 intro pins s σ H o i v ov iv u Q I ro ri rv h
 obtain ⟨p,xs,k,j,rfl,rfl,hp,hj,q⟩:=h
 cases ro
 obtain ⟨t,rfl⟩:=ri
 obtain ⟨its,n,r,ho,hz⟩:=I.lst hp
 obtain ⟨h1,h2,h3,h4⟩:=ixN_seq hj
 have hl:=r.length
 have hn:=line63
 have I':Inv X pins σ (upd H p (.lst (xs.set j v))) { s with heap:=s.heap.update p (XD (·.setIfInBounds j u)) }:=
  I.lstUpd hp ho (mapSeq_set its n j u) (r.set rv j) (by rw[XI];exact hz) s.toks
 by_cases h0:0<=k
 ·have hk:k.toNat=j:=by
   rw[seqIndex_of h0 h4] at h1
   exact YN h1
  exact W.ki_setAt ho h0 1e2 (by rw[Ym,←hl];exact h4) (by rw[hk];exact ⟨_,I',q⟩)
 ·have hk:(k + (its.toArray.size:Int)).toNat=j:=by
   rw[seqIndex_neg 1e2 h3] at h1
   rw[Ym,←hl]
   exact YN h1
  exact W.ki_setBack ho 1e2 (by rw[Ym,←hl];exact h3) 1e2 (by rw[hk];exact ⟨_,I',q⟩)
theorem slice_bounds (lo hi:Option Int)(n:Nat):(Vn lo hi none n).1=((HT.sIx n 0 lo:Nat):Int)/\(Vn lo hi none n).2.1=((HT.sIx n n hi:Nat):Int)/\(Vn lo hi none n).2.2=1:=by
 refine ⟨?_,?_,rfl⟩
 ·cases lo with
  | none=>simp[Vn,HT.sIx]
  | some i=>
   simp only[Vn,HT.sIx,Option.getD_none,show (1:Int) > 0 by decide,if_true]
   by_cases h:i < 0
   ·simp only[h,if_true]<;>lia
   ·simp only[h,if_false]<;>lia
 ·cases hi with
  | none=>simp[Vn,HT.sIx]
  | some i=>
   simp only[Vn,HT.sIx,Option.getD_none,show (1:Int) > 0 by decide,if_true]
   by_cases h:i < 0
   ·simp only[h,if_true]<;>lia
   ·simp only[h,if_false]<;>lia
theorem slicePick_cut (its:4e1)(lo hi:Option Int):slicePick its.toArray lo hi none=((its.drop (HT.sIx its.length 0 lo)).take (HT.sIx its.length its.length hi - HT.sIx its.length 0 lo)).toArray:=by
 obtain ⟨h1,h2,h3⟩:=slice_bounds lo hi its.toArray.size
 unfold slicePick
 rw[h1,h2,h3]
 simp only[sliceRange_one,pick_run,Ym]<;>rfl
def rSlL (K:W.Frag):V->Option Int->Option Int->Hp->VK->Prop:=fun x lo hi H Q=>∃a xs,x=.ref a/\SqL K H a xs/\∀p,H p=none->Q (.ref p) (upd H p (.lst (cutV xs lo hi)))
theorem sl_list:SlR X (rSlL X.K):=by
 intro pins s σ H x v vl vu lo hi sl Q I rx hs pl pu h
 obtain ⟨a,xs,rfl,hx,q⟩:=h
 cases rx
 obtain ⟨its,r,ht,hz⟩:=I.list hx
 have hlen:=r.length
 refine ⟨"list",_,slot_list_getitem.lookup,ht.isList.typeIs,?_⟩
 refine wpAny_getItem_list_slice ht.isList hs pl pu .none 3e8 ?_ (by rw[Ym]<;>lia)
 rw[slicePick_cut,←hlen]
 refine ⟨.ref s.heap.objs.size,_,I.laid (t':=s.toks) (o:=.lst (cutV xs lo hi)) (fun b ob q=>Yb _ q) (Yj _) ?_,rfl,q _ (I.hok.fresh (Yj _))⟩
 exact ⟨YR (Zdi xs lo hi) hz,_,0,(r.drop (HT.sIx xs.length 0 lo)).take (HT.sIx xs.length xs.length hi - HT.sIx xs.length 0 lo),Yo _ rfl⟩
theorem CallR.or {f:Value}{r r':14e6}(h:CallR X f r)(h':CallR X f r'):CallR X f (fun xs H Q=>r xs H Q\/r' xs H Q):=by
 intro pins s σ H xs us Q I rs q
 rcases q with q | q
 ·exact h pins s σ H xs us Q I rs q
 ·exact h' pins s σ H xs us Q I rs q
theorem call_list_of:CallR X (.type "list") (fun xs H Q=>∃p ys,xs=[.ref p]/\(SqL X.K H p ys\/SqT X.K H p ys)/\∀l,H l=none->Q (.ref l) (upd H l (.lst ys))):=by
 intro pins s σ H xs us Q I r h
 obtain ⟨p,ys,rfl,hq,q⟩:=h
 obtain ⟨u,rfl,rx⟩:=vals1 r
 cases rx
 have fin:∀(its:4e1),Vals ys its->ys.length<=Yt->∀(h':Heap) (c':Nat),(∀b o',s.heap.get? b=some o'->h'.get? b=some o')->
   h'.get? s.heap.objs.size=some { cls:=.type "list",dict:=none,data:=.seq its.toArray c',slots:=#[] }->EP X pins σ Q 9e5 { s with heap:=h' }:=fun its r' hz h' c' kp e=>
  ⟨.ref s.heap.objs.size,_,I.laid (t':=s.toks) kp (Yj _) (show ObjOk X.prog X.w _ h' _ (.lst ys) from ⟨hz,its,c',r',e⟩),rfl,q _ (I.hok.fresh (Yj _))⟩
 rcases hq with hq | hq
 ·obtain ⟨its,r',pl,hz⟩:=I.list hq
  have hlen:=r'.length
  obtain ⟨o,ho,hc,n,hd⟩:=pl.isList
  exact call_list_seq p 15e4 ho hc hd (fun h' c' kp e=>fin its r' hz h' c' kp e) (by simp only[Ym]<;>lia)
 ·obtain ⟨its,r',pl,hz⟩:=I.tuple hq
  have hlen:=r'.length
  obtain ⟨o,ho,hc,n,hd⟩:=pl
  exact call_list_seq p (.inr rfl) ho hc hd (fun h' c' kp e=>fin its r' hz h' c' kp e) (by simp only[Ym]<;>lia)
theorem call_tuple_of:CallR X (.type "tuple") (fun xs H Q=>∃p ys,xs=[.ref p]/\((SqL X.K H p ys/\∀l,H l=none->Q (.ref l) (upd H l (.tup ys)))\/(SqT X.K H p ys/\Q (.ref p) H))):=by
 intro pins s σ H xs us Q I r h
 obtain ⟨p,ys,rfl,h⟩:=h
 obtain ⟨u,rfl,rx⟩:=vals1 r
 cases rx
 rcases h with ⟨hq,q⟩ | ⟨hq,q⟩
 ·obtain ⟨its,r',pl,hz⟩:=I.list hq
  have hlen:=r'.length
  refine call_tuple_list pl.isList (fun h' kp=>?_) (by simp only[Ym]<;>lia)
  have I1:Inv X pins σ H { s with heap:=h' }:=I.kept (t':=s.toks) kp
  have I2:Inv X pins σ (upd H h'.objs.size (.tup ys)) { s with heap:=h'.push { cls:=.type "tuple",data:=.seq its.toArray } }:=
   I1.laid (t':=s.toks) (fun b o e=>Yb _ e) (Yj _) (show ObjOk X.prog X.w _ _ _ (.tup ys) from ⟨hz,its,r',IsTup.new _ _⟩)
  exact ⟨.ref h'.objs.size,_,I2,rfl,q _ (I1.hok.fresh (Yj _))⟩
 ·obtain ⟨its,r',pl,hz⟩:=I.tuple hq
  exact call_tuple_same pl ⟨.ref p,H,I,rfl,q⟩
def tyV (K:W.Frag)(T:String)(x:V)(H:Hp):Prop:=match x with
 | .str _=>T="str"
 | .int _=>T="int"
 | .ref p=>(T="list"/\∃xs,SqL K H p xs)\/(T="tuple"/\∃o,K.lookup p=some o/\o.cls=.type "tuple"/\o.dict=none)\/
   (T="dict"/\((∃kvs,H p=some (.dK kvs))\/∃kvs,H p=some (.dT kvs)))\/(T="set"/\∃S n,H p=some (.set S n))
 | _=>False
theorem tyV_is {pins:2e0}{σ:St}{H:Hp}{s:Shared}{T:String}{x:V}{v:Value}(I:2e3)(r:RelV x v)(ty:tyV X.K T x H):
  s.TypeIs v T/\∀a,v=.ref a->∃ob,s.heap.get? a=some ob/\ob.dict=none:=by
 cases x with
 | str z=>
  obtain ⟨t,rfl⟩:=r
  cases (show T="str" from ty)
  exact ⟨typeIs_str s z t,fun _ e=>nomatch e⟩
 | int i=>
  obtain ⟨t,rfl⟩:=r
  cases (show T="int" from ty)
  exact ⟨typeIs_int s i t,fun _ e=>nomatch e⟩
 | ref p=>
  cases r
  rcases ty with ⟨rfl,xs,hq⟩ | ⟨rfl,o,hk,hc,hd⟩ | ⟨rfl,hk⟩ | ⟨rfl,S,n,hk⟩
  ·obtain ⟨its,_,pl,_⟩:=I.list hq
   refine ⟨pl.isList.typeIs,fun a e=>?_⟩
   cases e
   obtain ⟨o,n,e,c,hd,_⟩:=pl
   exact ⟨o,e,hd⟩
  ·refine ⟨⟨o,I.kIn p o hk,hc⟩,fun a e=>?_⟩
   cases e
   exact ⟨o,I.kIn _ o hk,hd⟩
  ·have z:∃o,s.heap.get? p=some o/\o.ExactDict:=by
    rcases hk with ⟨kvs,hk⟩ | ⟨kvs,hk⟩
    ·obtain ⟨_,_,_,_,o,_,_,e,ex,_⟩:=I.hok p _ hk
     exact ⟨o,e,ex⟩
    ·obtain ⟨_,_,_,_,o,_,_,e,ex,_⟩:=I.hok p _ hk
     exact ⟨o,e,ex⟩
   obtain ⟨o,e,ex⟩:=z
   refine ⟨⟨o,e,ex.1⟩,fun a e2=>?_⟩
   cases e2
   exact ⟨o,e,ex.2.1⟩
  ·obtain ⟨o,_,_,_,e,ex,_⟩:=I.hok p _ hk
   refine ⟨⟨o,e,ex.1⟩,fun a e2=>?_⟩
   cases e2
   exact ⟨o,e,ex.2.1⟩
 | _=>exact WD ty
def tBM (K:W.Frag)(T:String)(r:V->List V->Hp->VK->Prop)(to:TE)(t:TA):TE:=fun σ H Q=>to σ H fun x H1=>tyV K T x H1/\t σ H1 fun xs H2=>r x xs H2 Q
variable {o e:Expr}{es:5e9}{to:TE}{t:TA}{name:Str}{apos cpos:Pos}{T id:String}{r:V->List V->Hp->VK->Prop}
theorem pe_bm (pa:PlainAttrs T)(slot:Slot T name id)(hty:typeOf (.builtin id)=pure (.type "method_descriptor"))(hm:MtR X id r)(ho:PE X o to)(ha:PA X 6e8 t)
  (hbase:attributeBase o name X.env (eval o X.env)=eval o X.env:=by rfl)
  (hfew:((backTo cpos (Yp 6e8 X.env)).all (fun x=>!x.1)&&(backToKw cpos (keywordEach [] X.env)).all (fun x=>x.1.isSome)
   &&decide ((e::es).length + ([]:List Keyword).length + (if ([]:List Keyword).isEmpty then 0 else 1) < 30))=true:=by rfl)
  (hline:(apos.endLine==cpos.line)=true:=by rfl) (hs:1e8:=by rfl) (hplain:(backTo cpos (Yp es X.env)).any (·.1)=false:=by rfl):
  PE X (.Call (.Attribute o name apos) 6e8 [] cpos) (tBM X.K T r to t):=by
 sleep 12
 refine wpAny_Call_method_late hbase hfew hline rfl (thn (ho pins s σ H _ I h) fun v s1 h_=>?_)
 obtain ⟨x,H1,I1,r1,ty,q1⟩:=h_
 obtain ⟨h1,h2⟩:=tyV_is I1 r1 ty
 refine ⟨T,id,pa,slot,hty,h1,h2,?_⟩
 have hA:=ha cpos pins s1 σ H1 _ I1 q1
 rw[hs] at hA ⊢
 refine Calls.callWith_builtin (by show (false||(backTo cpos (Yp es X.env)).any (·.1))=false;rw[hplain]<;>rfl) (Calls.evalArgs_plain ?_)
 exact thn hA fun us s2 ⟨vs,H2,I2,r2,q2⟩=>hm pins s2 σ H2 x vs v us Q I2 r1 r2 q2
end
def MtM (X:Cx)(id:String)(r:V->List V->Hp->VK->Prop):Prop:=
 ∀(pins:2e0) (s:Shared) (σ:St) (H:Hp) (x:V) (xs:List V) (v:Value) (us:4e1) (Q:VK),Inv X pins σ H s->RelV x v->Vals xs us->r x xs H Q->
  wpAny 2e4 X.A (call (.builtin id) (v::us)) (EP X pins σ Q) X.xe s
theorem Vals.one:∀{x:V} {us:4e1},Vals [x] us->∃u,us=[u]/\RelV x u:=by
 intro x us r
 cases r with
 | cons r t=>cases t;exact ⟨_,rfl,r⟩
theorem Vals.two:∀{x y:V} {us:4e1},Vals [x,y] us->∃u v,us=[u,v]/\RelV x u/\RelV y v:=by
 intro x y us r
 cases r with
 | cons r t=>cases t with
  | cons q t=>cases t;exact ⟨_,_,rfl,r,q⟩
section
variable {X:Cx}{pins:2e0}{σ:St}{H:Hp}{s:Shared}{l b:Addr}{xs ys zs:List V}
theorem Inv.lset {its its':4e1}{n:Nat}{f:Array Value->Array Value}{t':Nat}(I:2e3)(hH:H l=some (.lst xs))
  (e:s.heap.get? l=some { cls:=.type "list",data:=.seq its.toArray n }) (hf:f its.toArray=its'.toArray) (hv:Vals ys its') (hz:ys.length<=Yt):
  Inv X pins σ (upd H l (.lst ys)) { s with heap:=s.heap.update l (XD f),toks:=t' }:=by
 have q:=PySem.IsL.update e f
 rw[hf] at q
 refine I.write (x:=l) (e:=l) (by rw[hH];exact trivial) 15e4 (fun b' u hb hu=>(Heap.get?_update_other s.heap (XD f) (Xw hb)).trans hu) ⟨_,q⟩ ?_
 exact ⟨hz,its',_,hv,q⟩
theorem Inv.lnew {its:4e1}{t':Nat}(I:2e3)(hv:Vals ys its)(hz:ys.length<=Yt):
  Inv X pins σ (upd H s.heap.objs.size (.lst ys)) { s with heap:=s.heap.push { cls:=.type "list",data:=.seq its.toArray },toks:=t' }:=
 I.laid (fun _ _ q=>Yb _ q) (Yj _) ⟨hz,its,0,hv,Yo _ rfl⟩
theorem Inv.fresh (I:2e3):H s.heap.objs.size=none:=I.hok.fresh (Yj _)
theorem Inv.lstM (I:2e3)(hH:H l=some (.lst xs)):xs.length<=Yt/\∃(its:4e1) (n:Nat),Vals xs its/\xs.length=its.length/\s.heap.get? l=some { cls:=.type "list",data:=.seq its.toArray n }:=by
 obtain ⟨z,its,n,r,e⟩:=I.hok l _ hH
 exact ⟨z,its,n,r,r.length,e⟩
end
section
variable {X:Cx}
def rAppend:V->List V->Hp->VK->Prop:=fun x vs H Q=>∃l xs y,x=.ref l/\vs=[y]/\H l=some (.lst xs)/\xs.length < Yt/\Q .non (upd H l (.lst (xs++[y])))
theorem mt_append:MtM X "list.append" rAppend:=by
 intro pins s σ H x vs v us Q I rx rv h
 obtain ⟨l,xs,y,rfl,rfl,hH,hz,q⟩:=h
 cases rx
 obtain ⟨u,rfl,ru⟩:=rv.one
 obtain ⟨z,its,n,r,hl,e⟩:=I.lstM hH
 refine call_meets F.slot_list_append ⟨_,e,rfl⟩ F.entry_list_append (F.args_list_append_2 _ _) (PySem.list_append l its.toArray n u (by rw[Ym];lia)) ⟨e,?_⟩
 refine ⟨.non,_,I.lset (its':=its++[u]) hH e 3e8 (r.append (.cons ru .nil)) ?_,rfl,q⟩
 rw[Xn,List.length_singleton]
 lia
end
end L2
namespace Att
open PySem PySem.W PySem.Calls PyProof.Rows
theorem Zdb {P:Params}{h:Heap}:∀(ns:List Int) (vs:4e1),WellAll P h vs (ns.map WData.int)->IntsAre vs ns:=by
 intro ns
 induction ns with
 | nil=>
  intro vs w
  rw[Vc] at w
  cases w
  exact .nil
 | cons n ns ih=>
  intro vs w
  rw[Yw] at w
  cases w with
  | cons a b=>
   cases a
   exact .cons _ _ (ih _ b)
theorem script_of {l:OpenLaw}{n:Nat}(hn:l.most=some n){P:Params}{h:Heap}{args:List WData}{vals:4e1}
    (hpre:l.row.toRowW.claim.pre args=true) (hwl:WellAll P h vals args):
    ∃a vs ns,vals=[YF a]/\args=[WData.list (ns.map WData.int)]/\h.get? a=some { cls:=.type "list",data:=.seq vs.toArray }/\IntsAre vs ns/\ns.length<=n:=by
  have hsh:WShape.hasAll [] args [.list .int]=true:=(pre_splitW hpre).1
  have hc:l.pre.holds [] { args:=args }=true:=(pre_splitW hpre).2
  obtain ⟨d,r,rfl,h1,h2⟩:=hasAllW_cons hsh
  obtain rfl:=hasAllW_nil h2
  obtain ⟨xs,rfl,h3⟩:=hasW_list h1
  obtain ⟨ns,rfl⟩:=items_int h3
  have hlen:ns.length<=n:=by
    unfold OpenLaw.pre at hc
    have h4:(WTm.not (.lt (.lit (.int (n:Int))) (.len (.arg 0)))).holds [] { args:=[.list (ns.map .int)] }=true:=by
      have h4:=(holds_andW hc).1
      rw[hn] at h4
      exact h4
    have h5:=condW_of h4 (w_not (w_lt w_lit (w_len_list (w_arg rfl))))
    rw[YE] at h5
    refine Ul fun q=>?_
    have q':(n:Int) < ((ns.length:Nat):Int):=by lia
    first
      | (rw[decide_eq_true q'] at h5;exact absurd h5 (by decide))
      | (simp at h5;lia)
  cases hwl with
  | cons w1 w2=>
    cases w2
    cases w1 with
    | list ho hall=>exact ⟨_,_,ns,rfl,rfl,ho,Zdb ns _ hall,hlen⟩
theorem post_true (l:OpenLaw)(args:List WData):l.row.toRowW.claim.post args (.bool true) args=true:=
 postW_of (r:=l.row.toRowW) (X:=(true==true))
  (show WShape.has [] (.bool true) .bool=true by first | rfl | decide | simp[WShape.has,WShape.arms,WShape.armsAll])
  (show (WTm.eq .res (.lit (.bool true))).value [] { args:=args,res:=some (.bool true),after:=args }=some (.bool (true==true)) from w_eq_bool (w_res rfl) w_lit) rfl
theorem attach_call {l:OpenLaw}{n:Nat}{q:YC}{loose:5e6}{XP:(Str->Option Value)->Heap->Prop}{YP:World->Heap->Prop}{d:DefRec}
  (hn:l.most=some n) (hdf:d.params.defaults=[])
  (call:∀(w:World) (s₀ s₁:Shared) (mg mb:3e1) (fa:Addr) (o:Obj) (pm cd doc:Value) (a:Addr) (vs:4e1) (ns:List Int),
   Ground q loose [] XP w s₀ mg mb s₁.heap->YP w s₁.heap->
   s₁.heap.get? fa=some o->o.data=.func (docDef d.name d.params d.body d.scope pm cd doc)->s₁.heap.CodeRec cd d.name->mg d.name=some (.ref fa)->
   s₁.heap.get? a=some { cls:=.type "list",data:=.seq vs.toArray }->IntsAre vs ns->ns.length<=n->s₁.gens=#[]->
   XU (model l.prog w) UV (.call (.ref fa) ⟨[.ref a],[]⟩) (fun r s'=>r=.ok (.ret (.bool true))/\OldK s₁.heap s'.heap/\s'.os=s₁.os/\Up s'.gens) s₁):
  WalkO q loose XP YP l.row.toRowW d [] (fun f vs=>PySem.call f vs):=by
 intro w s₀ s₁ mg mb G Y fa o pm cd doc dV kV ho hd hcd hD hmg hg args vals as hpre hlay hrd hwl hlo
 obtain rfl:dV=.none:=Dflts.none hD hdf
 obtain rfl:kV=.none:=Dflts.noKw hD
 obtain ⟨a,vs,ns,rfl,rfl,hobj,hints,hlen⟩:=script_of hn hpre hwl
 refine enter_call (Us (call w s₀ s₁ mg mb fa o pm cd doc a vs ns G Y ho (fd_plain hd) hcd hmg hobj hints hlen hg) fun r s' hq=>?_)
 obtain ⟨rfl,h2,h3,h4⟩:=hq
 exact ⟨.inl ⟨.bool true,.bool true,[],rfl,fun _=>rfl,.bool true,post_true l _,fun _=>⟨List.Pairwise.nil,fun _ hm=>(nomatch hm)⟩⟩,h2,h3,h4⟩
end Att
namespace L2
open PySem PySem.Spec PyProof.Rows
theorem vals_ints:∀{vs:4e1} {ns:List Int},IntsAre vs ns->Vals (ns.map V.int) vs
 | _,_,.nil=>.nil
 | _,_,.cons n t h=>.cons ⟨t,rfl⟩ (vals_ints h)
def Only (H:Hp):Prop:=∀b,H b=none\/∃o xs,H b=some (.frz o (.lst xs))
theorem law_call {P:YC}{w:World}{K:W.Frag}{mg mb:3e1}{CX:CXT}{k:Nat}{fa a:Addr}{fd:XZ}{x:Str}{sp:Sp}{s₁:Shared}{vs:4e1}{ns:List Int}
  (KX:K.In s₁.heap) (hns:s₁.heap.Ns Uf mg) (hb:s₁.heap.Ns builtinsNs mb) (hbb:∀x:Str,x≠"__name__"->mb x=Xb x) (hlim:s₁.heap.NoLimit) (hg:s₁.gens=#[])
  (ha:s₁.heap.get? a=some { cls:=.type "list",data:=.seq vs.toArray }) (hi:IntsAre vs ns) (hl:ns.length<=Yt) (hr:Room k UV)
  (F:∀base:Heap,K.In base->base.Ns Uf mg->FnOk P w K mg base CX k fa fd [x] sp) (hbind:∀(s:Shared) (u:Value),BindsTo s fd ⟨[u],[]⟩ [(x,u)])
  (hsp:∀H:Hp,Only H->SqL K H a (ns.map V.int)->sp [.ref a] H (fun v _=>v=.bl true) fun _ _ _=>False)
  (hCX:∀H e s',CX [] H s₁ (fun _ _ _=>False) e s'->False):
  XU (model P w) UV (.call (.ref fa) ⟨[.ref a],[]⟩) (fun r s'=>r=.ok (.ret (.bool true))/\OldK s₁.heap s'.heap/\s'.os=s₁.os/\Up s'.gens) s₁:=by
 have rv:=vals_ints hi
 have lenV:=hi.length
 have core:∀H:Hp,Only H->SqL K H a (ns.map V.int)->HOk P w H s₁.heap->(∀b,H b≠none->b=a)->(H a≠none->K.lookup a=none)->
   XU (model P w) UV (.call (.ref fa) ⟨[.ref a],[]⟩) (fun r s'=>r=.ok (.ret (.bool true))/\OldK s₁.heap s'.heap/\s'.os=s₁.os/\Up s'.gens) s₁:=by
  intro H hO hS hok hA hK
  have base_of:∀{b:Addr} {o:Obj},s₁.heap.get? b=some o->H b=none->(hidT s₁.heap H).get? b=some o:=fun e n=>hidT_get e n
  have noA:∀{b:Addr} {o:Obj} {es:Array Ua} {ep:Nat},s₁.heap.get? b=some o->o.data=.dict es ep->H b=none:=fun {b o es ep} e d=>by
   cases q:H b with
   | none=>rfl
   | some u=>
    have e':b=a:=hA b (by rw[q];simp)
    subst e'
    rw[ha] at e;cases e
    have d':Data.seq vs.toArray _=Data.dict es ep:=d
    cases d'
  have nsK:∀{b:Addr} {m:3e1},s₁.heap.Ns b m->(hidT s₁.heap H).Ns b m:=fun {b m} ⟨o,es,ep,e,d,r⟩=>⟨o,es,ep,base_of e (noA e d),d,r⟩
  have hKb:K.In (hidT s₁.heap H):=fun b o e=>base_of (KX b o e) (by
   cases q:H b with
   | none=>rfl
   | some u=>
    have e':b=a:=hA b (by rw[q];simp)
    subst e'
    rw[hK (by rw[q];simp)] at e;cases e)
  have hM:Mod K mg (hidT s₁.heap H):=⟨hKb,nsK hns,⟨mb,nsK hb,hbb⟩,let ⟨mc,h1,h2⟩:=hlim;⟨mc,nsK h1,h2⟩⟩
  have e0:Env0 P w K mg (hidT s₁.heap H) UV [] s₁ H:=⟨rfl,hM,fun b o e=>of_hidT e,Nat.le_of_eq (hidT_size _ _),trivial,fun b hb=>absurd (show b∈([]:List Addr) from hb) 3e8,hok,.of_eq hg⟩
  refine Us ((F _ hKb (nsK hns)).run UV [] s₁ H ⟨[.ref a],[]⟩ [.ref a] [.ref a] _ _ hr e0 (hbind s₁ (.ref a)) (.cons rfl .nil) (hsp H hO hS)) fun r s' h=>?_
  cases r with
  | error e=>exact (hCX H e s' h).elim
  | ok fl=>
   cases fl with
   | next=>exact WD h
   | brk=>exact WD h
   | cont=>exact WD h
   | ret u=>
    obtain ⟨v,H',os,bare,un,hok',r',q⟩:=h
    have q':v=.bl true:=q
    subst q'
    obtain rfl:u=Value.bool true:=r'
    refine ⟨rfl,OldK.of_keep fun b o e=>?_,os,bare⟩
    cases q:H b with
    | none=>exact un.keep b o e q (by intro z;exact absurd (show b∈([]:List Addr) from z) 3e8) 3e8
    | some u=>
     rcases hO b with z | ⟨ob,xs,z⟩
     ·rw[q] at z;cases z
     ·have z2:=un.frzs b ob _ z
      obtain ⟨e1,_⟩:=hok b _ z
      obtain ⟨e2,_⟩:=hok' b _ z2
      rw[e] at e1;cases e1
      exact e2
 cases hk:K.lookup a with
 | some o=>
  have e:=KX a o hk
  rw[ha] at e
  cases e
  refine core (fun _=>none) (fun _=>.inl rfl) (.inr ⟨_,vs.toArray,_,hk,rfl,rfl,rfl,by rw[Ym,lenV];exact hl,by simpa using rv⟩) (fun b u z=>by have z':(none:Option HO)=some u:=z;cases z') (fun b z=>absurd rfl z) fun z=>absurd rfl z
 | none=>
  refine core (fun b=>if b=a then some (.frz { cls:=.type "list",data:=.seq vs.toArray } (.lst (ns.map V.int))) else none) (fun b=>?_) (.inl (.inr ⟨{ cls:=.type "list",data:=.seq vs.toArray },if_pos rfl⟩)) (fun b u z=>?_) (fun b z=>?_) fun _=>hk
  ·by_cases hb:b=a
   ·exact .inr ⟨_,_,if_pos hb⟩
   ·exact .inl (if_neg hb)
  ·by_cases hb:b=a
   ·have z':=(if_pos hb).symm.trans z
    cases z'
    subst hb
    exact ⟨ha,by rw[YE];exact hl,vs,_,rv,ha⟩
   ·have z':=(if_neg hb).symm.trans z
    cases z'
  ·by_cases hb:b=a
   ·exact hb
   ·exact absurd (if_neg hb) z
def defArgs (s:Stmt):Arguments:=match s with
 | .FunctionDef _ a _ _ _ _ _ _ _ _=>a
 | _=>{ posonlyargs:=[],args:=[],vararg:=none,kwonlyargs:=[],kw_defaults:=[],kwarg:=none,defaults:=[] }
def defBody (s:Stmt):List Stmt:=match s with
 | .FunctionDef _ _ b _ _ _ _ _ _ _=>b
 | _=>[]
def defScope (s:Stmt):Scope:=match s with
 | .FunctionDef _ _ _ _ _ _ sc _ _ _=>sc
 | _=>{ kind:=.function,names:=[],isGenerator:=false,isCoroutine:=false }
abbrev CX0:CXT:=fun _ _ _ _ _ _=>False
abbrev E0:XK:=fun _ _ _=>False
theorem pass0 {X:Cx}:Passes CX0 X E0:=fun _ _ _ _ _ _ _ h=>h.elim
structure Fun (K:W.Frag)(x qual:Str)(st:Stmt)(f:Addr)(fd:XZ):Prop where
 ex:∃(oc:Value) (od:Option Addr) (kV doc pm:Value) (an:Option Addr) (cdv ct:Value) (osl:Array (Option Value)),
  fd=W.fnOf x qual (defArgs st) (defBody st) 15e2 .none kV doc pm an cdv ct/\K.lookup f=some ⟨oc,od,.func fd,osl⟩/\W.codeIn K cdv qual=true
 kp:V0 K (.ref f)=true
section
variable {P:YC}{w:World}{K:W.Frag}{mg:3e1}{base:Heap}
theorem Fun.ok {x qual:Str}{st:Stmt}{f:Addr}{fd:XZ}{N ps:5e6}{k:Nat}{sp:Sp}(F:Fun K x qual st f fd)(S:FnScope N ps 15e2)(len:∀vs H Q E,sp vs H Q E->vs.length=ps.length)
  (hbody:∀(cdv:Value) (A:Around) (outer:List Env) (s:Shared) (H:Hp) (vs:List V) (Q:VK) (E:XK),Room k (A.deeper (envOfC qual 15e2 s.heap.objs.size f cdv))->sp vs H Q E->
   ∃t,PSs (cxOf CX0 P w K mg base N qual (defScope st) f cdv A outer s H E).nox (defBody st) t/\t { nx:=fun _ H'=>Q .non H',rt:=Q } (start N vs) H):FnOk P w K mg base CX0 (k + 1) f fd ps sp:=by
 obtain ⟨oc,od,kV,doc,pm,an,cdv,ct,osl,rfl,lk,hcd⟩:=F.ex
 refine fn_of lk hcd S len fun A outer s H vs Q E hr hsp=>?_
 obtain ⟨t,h,q⟩:=hbody cdv A outer s H vs Q E hr hsp
 exact ⟨t,h.nox,q⟩
theorem Fun.binds {x qual:Str}{st:Stmt}{f:Addr}{fd:XZ}{ps:5e6}(F:Fun K x qual st f fd)
  (h:∀(kV doc pm:Value) (an:Option Addr) (cdv ct:Value) (us:4e1),us.length=ps.length->bindArgs (W.fnOf x qual (defArgs st) (defBody st) 15e2 .none kV doc pm an cdv ct) ⟨us,[]⟩=pure (ps.zip us)):Binds K fd ps []:=by
 obtain ⟨oc,od,kV,doc,pm,an,cdv,ct,osl,rfl,lk,hcd⟩:=F.ex
 exact .all (h kV doc pm an cdv ct)
theorem fun_mk {x qual:Str}{st:Stmt}{f:Addr}{oc:Value}{od an:Option Addr}{osl:Array (Option Value)}{kV doc pm cdv ct:Value}(l:K.lookup f=some ⟨oc,od,.func (W.fnOf x qual (defArgs st) (defBody st) 15e2 .none kV doc pm an cdv ct),osl⟩)
  (c:W.codeIn K cdv qual=true) (k:V0 K (.ref f)=true):Fun K x qual st f (W.fnOf x qual (defArgs st) (defBody st) 15e2 .none kV doc pm an cdv ct):=⟨⟨oc,od,kV,doc,pm,an,cdv,ct,osl,rfl,l,c⟩,k⟩
end
theorem ZaA {A:Around}{k:Nat}(hr:Room k A):A.units + 1 < cLine:=V1 (Nat.add_le_add_left (by decide:1<=64) _) hr.units
section
variable {X:Cx}
theorem pv (i:Nat){x:Str}{pos:Pos}(hN:X.N[i]? = some x:=by rfl)(hv:Vis X.env.scope x:=by first | exact Or.inl rfl | exact Or.inr 2e2 | exact Or.inr (Or.inr rfl))(hd:5e1:=by decide)
  (hcd:(x==("__classdict__":Str))=false:=by decide):PE X (.Name x pos) (tVar i):=pe_var hN hv hd hcd
end
end L2
set_option maxHeartbeats 4000000
namespace L2
open PySem PySem.Spec PyProof.Rows
section
variable {κ:Type} [DecidableEq κ]
def valV (kvs:List (κ×V))(k:κ):Option V:=(kvs.find? fun kv=>decide (kv.1=k)).map (·.2)
def putK (kvs:List (κ×V))(k:κ)(v:V):List (κ×V):=
 if (kvs.any fun kv=>decide (kv.1=k))=true then kvs.map (fun kv=>if kv.1=k then (kv.1,v) else kv) else kvs++[(k,v)]
theorem Zb6 {p:κ×V}{r:List (κ×V)}{k:κ}(e:p.1=k):valV (p::r) k=some p.2:=by simp[valV,WN,e]
theorem Zb7 {p:κ×V}{r:List (κ×V)}{k:κ}(e:¬p.1=k):valV (p::r) k=valV r k:=by simp[valV,WN,e]
theorem valV_any (k:κ):∀kvs:List (κ×V),(kvs.any fun kv=>decide (kv.1=k))=(valV kvs k).isSome
 | []=>rfl
 | p::r=>by
  rw[Xz]
  by_cases e:p.1=k
  ·simp only[Zb6 e,decide_eq_true e,Uv,Option.isSome_some]
  ·rw[Zb7 e,decide_eq_false e,VE];exact valV_any k r
theorem Zbx (kvs:List (κ×V))(k:κ)(v:V):(putK kvs k v).length<=kvs.length + 1:=by
 unfold putK
 split
 ·rw[YE];lia
 ·rw[Xn,YX,WO];lia
theorem RelO.isSome_eq {o:Option V}{u:Option Value}(r:RelO o u):o.isSome=u.isSome:=by
 cases o with
 | none=>cases u with
  | none=>rfl
  | some _=>exact (show False from r).elim
 | some _=>cases u with
  | none=>exact (show False from r).elim
  | some _=>rfl
theorem KV.val {kvs:List (κ×V)}{vs:List (κ×Value)}(r:KV kvs vs)(k:κ):RelO (valV kvs k) (UW vs k):=by
 unfold KV at r
 induction r with
 | nil=>exact WE
 | @cons p q ps qs h t ih=>
  obtain ⟨h1,h2⟩:=h
  by_cases e:p.1=k
  ·have e':q.1=k:=h1.symm.trans e
   have b:UW (q::qs) k=some q.2:=by simp[UW,WN,e']
   rw[Zb6 e,b];exact h2
  ·have e':¬q.1=k:=fun z=>e (h1.trans z)
   have b:UW (q::qs) k=UW qs k:=by simp[UW,WN,e']
   rw[Zb7 e,b];exact ih
theorem KV.any {kvs:List (κ×V)}{vs:List (κ×Value)}(r:KV kvs vs)(k:κ):(kvs.any fun kv=>decide (kv.1=k))=vs.any fun kv=>decide (kv.1=k):=by
 unfold KV at r
 induction r with
 | nil=>rfl
 | cons h t ih=>rw[Xz,Xz,ih,h.1]
theorem KV.repl {kvs:List (κ×V)}{vs:List (κ×Value)}(r:KV kvs vs)(k:κ){y:V}{u:Value}(ry:RelV y u):
  KV (kvs.map fun kv=>if kv.1=k then (kv.1,y) else kv) (vs.map fun kv=>if kv.1=k then (kv.1,u) else kv):=by
 unfold KV at r ⊢
 induction r with
 | nil=>exact .nil
 | @cons p q ps qs h t ih=>
  rw[Yw,Yw]
  refine .cons ?_ ih
  obtain ⟨h1,h2⟩:=h
  by_cases e:p.1=k
  ·rw[if_pos e,if_pos (h1.symm.trans e)];exact ⟨h1,ry⟩
  ·rw[if_neg e,if_neg (fun z=>e (h1.trans z))];exact ⟨h1,h2⟩
theorem KV.put {kvs:List (κ×V)}{vs:List (κ×Value)}(r:KV kvs vs)(k:κ){y:V}{u:Value}(ry:RelV y u):KV (putK kvs k y) (stored vs k u):=by
 unfold putK stored
 rw[r.any k]
 by_cases e:(vs.any fun kv=>decide (kv.1=k))=true
 ·rw[if_pos e,if_pos e];exact r.repl k ry
 ·rw[if_neg e,if_neg e];exact Paired.snoc r ⟨rfl,ry⟩
theorem KV.keys {kvs:List (κ×V)}{vs:List (κ×Value)}(r:KV kvs vs):kvs.map (·.1)=vs.map (·.1):=by
 unfold KV at r
 induction r with
 | nil=>rfl
 | cons h t ih=>rw[Yw,Yw,ih,h.1]
theorem KV.length {kvs:List (κ×V)}{vs:List (κ×Value)}(r:KV kvs vs):kvs.length=vs.length:=Vd r
end
theorem kV_is {P:YC}{w:World}{k:Key}{u:Value}(r:RelV (kV k) u):(mixKind P w).is k u=true:=by
 cases k with
 | inl i=>obtain ⟨t,e⟩:=(show ∃t,u=Value.int i t from r);subst e;exact mixKind_int P w i t
 | inr x=>obtain ⟨t,e⟩:=(show ∃t,u=Value.str x t from r);subst e;exact mixKind_str P w x t
theorem items_are {P:YC}{w:World}:∀{ks:9e7} {us:4e1},Vals (ks.map kV) us->ItemsAre (mixKind P w) ks us
 | [],_,r=>by rw[Vc] at r;cases r;exact .nil
 | k::ks,_,r=>by
  rw[Yw] at r
  cases r with
  | cons h t=>exact .cons (kV_is h) (items_are t)
abbrev KT (H:Hp):List (List Key×V)->List 13e8->Prop:=Paired fun p q=>p.1=q.1/\H q.2.1=some (.tup (p.1.map kV))/\RelV p.2 q.2.2
theorem KT.val {H:Hp}{kvs:List (List Key×V)}{xs:List 13e8}(r:KT H kvs xs)(k:9e7):RelO (valV kvs k) ((atKey xs k).map (·.2)):=by
 induction r with
 | nil=>exact WE
 | @cons p q ps qs h t ih=>
  obtain ⟨h1,_,h2⟩:=h
  by_cases e:p.1=k
  ·have e':q.1=k:=h1.symm.trans e
   have b:atKey (q::qs) k=some q.2:=by simp[atKey,WN,e']
   rw[Zb6 e,b];exact h2
  ·have e':¬q.1=k:=fun z=>e (h1.trans z)
   have b:atKey (q::qs) k=atKey qs k:=by simp[atKey,WN,e']
   rw[Zb7 e,b];exact ih
theorem KT.repl {H:Hp}{kvs:List (List Key×V)}{xs:List 13e8}(r:KT H kvs xs)(k:9e7){y:V}{u:Value}(ry:RelV y u):
  KT H (kvs.map fun kv=>if kv.1=k then (kv.1,y) else kv) (xs.map (putAt k u)):=by
 induction r with
 | nil=>exact .nil
 | @cons p q ps qs h t ih=>
  rw[Yw,Yw]
  refine .cons ?_ ih
  obtain ⟨h1,h2,h3⟩:=h
  unfold putAt
  by_cases e:p.1=k
  ·rw[if_pos e,if_pos (h1.symm.trans e)];exact ⟨h1,h2,ry⟩
  ·rw[if_neg e,if_neg (fun z=>e (h1.trans z))];exact ⟨h1,h2,h3⟩
theorem KT.put {H:Hp}{kvs:List (List Key×V)}{xs:List 13e8}(r:KT H kvs xs)(k:9e7){b:Addr}{y:V}{u:Value}(hb:H b=some (.tup (k.map kV)))(ry:RelV y u):
  KT H (putK kvs k y) (storedH xs k b u):=by
 have e:(kvs.any fun kv=>decide (kv.1=k))=(atKey xs k).isSome:=by
  rw[valV_any,(r.val k).isSome_eq,Ub]
 unfold putK storedH
 rw[e]
 by_cases q:(atKey xs k).isSome=true
 ·rw[if_pos q,if_pos q];exact r.repl k ry
 ·rw[if_neg q,if_neg q];exact Paired.snoc r ⟨rfl,hb,ry⟩
theorem KT.keeps {H H':Hp}{kvs:List (List Key×V)}{xs:List 13e8}(r:KT H kvs xs)(ht:∀b ys,H b=some (.tup ys)->H' b=some (.tup ys)):KT H' kvs xs:=
 Paired.mapP r fun _ _ z=>⟨z.1,ht _ _ z.2.1,z.2.2⟩
section
variable {P:YC}{w:World}{H:Hp}{h:Heap}{a:Addr}
theorem rd_of {u:HO}(ok:HOk P w H h)(e:Rd H a u):ObjOk P w H h a u:=e.ok ok
theorem dk_rd {kvs:List (Key×V)}(ok:HOk P w H h)(e:Rd H a (.dK kvs)):kvs.length<=Yt/\(a==Wa)=false/\∃vs,KV kvs vs/\h.DictOf (mixKind P w) a vs:=
 show ObjOk P w H h a (.dK kvs) from rd_of ok e
theorem dk_of {kvs:List (Key×V)}(ok:HOk P w H h)(e:H a=some (.dK kvs)):kvs.length<=Yt/\(a==Wa)=false/\∃vs,KV kvs vs/\h.DictOf (mixKind P w) a vs:=dk_rd ok (.inl e)
theorem ZcA {ks:9e7}(ok:HOk P w H h)(e:H a=some (.tup (ks.map kV))):(WI (mixKind P w)).is h ks a:=by
 obtain ⟨_,its,r,o,h1,h2,n,h3⟩:=(show ObjOk P w H h a (.tup (ks.map kV)) from ok a _ e)
 exact ⟨o,its.toArray,n,h1,h2,h3,by simpa using items_are r⟩
theorem dt_rd {kvs:List (List Key×V)}(ok:HOk P w H h)(e:Rd H a (.dT kvs)):kvs.length<=Yt/\(a==Wa)=false/\
  ∃xs,KT H kvs xs/\h.DictOfH (WI (mixKind P w)) a xs:=by
 obtain ⟨z,y,xs,r,o,es,ep,h1,h2,h3,h4,h5⟩:=(show ObjOk P w H h a (.dT kvs) from rd_of ok e)
 refine ⟨z,y,xs,r,o,es,ep,h1,h2,h3,h4,fun x hx=>?_,h5⟩
 have all:∀{l:List (List Key×V)} {m:List 13e8},KT H l m->∀x∈m,(WI (mixKind P w)).is h x.1 x.2.1:=by
  intro l m q
  induction q with
  | nil=>intro x hx;exact nomatch hx
  | @cons p q ps qs hq t ih=>
   intro x hx
   rcases Yn.mp hx with e | hx
   ·subst e
    exact ZcA ok (by rw[←hq.1];exact hq.2.1)
   ·exact ih x hx
 exact all r x hx
theorem dt_of {kvs:List (List Key×V)}(ok:HOk P w H h)(e:H a=some (.dT kvs)):kvs.length<=Yt/\(a==Wa)=false/\
  ∃xs,KT H kvs xs/\h.DictOfH (WI (mixKind P w)) a xs:=dt_rd ok (.inl e)
end
def DGet (H:Hp)(a:Addr)(y:V)(r:Option V):Prop:=
 (∃kvs k,Rd H a (.dK kvs)/\y=kV k/\r=valV kvs k)\/∃kvs k b,Rd H a (.dT kvs)/\y=.ref b/\H b=some (.tup (k.map kV))/\r=valV kvs k
def DPut (H:Hp)(a:Addr)(y v:V)(H':Hp):Prop:=
 (∃kvs k,H a=some (.dK kvs)/\y=kV k/\kvs.length < Yt/\H'=upd H a (.dK (putK kvs k v)))\/
 ∃kvs k b,H a=some (.dT kvs)/\y=.ref b/\H b=some (.tup (k.map kV))/\kvs.length < Yt/\H'=upd H a (.dT (putK kvs k v))
theorem DGet.k {H:Hp}{a:Addr}{kvs:List (Key×V)}{k:Key}(e:H a=some (.dK kvs)):DGet H a (kV k) (valV kvs k):=.inl ⟨kvs,k,.inl e,rfl,rfl⟩
theorem DPut.k {H:Hp}{a:Addr}{kvs:List (Key×V)}{k:Key}{v:V}(e:H a=some (.dK kvs))(hl:kvs.length < Yt):DPut H a (kV k) v (upd H a (.dK (putK kvs k v))):=.inl ⟨kvs,k,e,rfl,hl,rfl⟩
theorem DPut.t {H:Hp}{a b:Addr}{kvs:List (List Key×V)}{k:9e7}{v:V}(e:H a=some (.dT kvs))(eb:H b=some (.tup (k.map kV)))(hl:kvs.length < Yt):
  DPut H a (.ref b) v (upd H a (.dT (putK kvs k v))):=.inr ⟨kvs,k,b,e,rfl,eb,hl,rfl⟩
section
variable {X:Cx}{pins:2e0}{σ:St}{H:Hp}{s:Shared}{a:Addr}{y v:V}{u r:Value}{o:Option V}{A:Around}{E:1e5}
theorem Inv.big (I:2e3):Wa < s.heap.objs.size:=by
 have h:Uf < s.heap.objs.size:=(I.mod.glob.keeps I.bk).lt
 exact Uw 1e1 h
theorem d_getItem {Q:1e5}(hu:A.units + 1 < cLine)(I:2e3)(g:DGet H a y (some v))(ry:RelV y u)(h:∀w' s',Inv X pins σ H s'->RelV v w'->Q w' s'):
  wpAny 2e4 A (UM (.ref a) u) Q E s:=by
 rcases g with ⟨kvs,k,e,ey,l⟩ | ⟨kvs,k,b,e,ey,eb,l⟩
 ·subst ey
  obtain ⟨z,hd,vs,rel,dd⟩:=dk_rd I.hok e
  obtain ⟨w',hw,rw'⟩:=RelO.some_of (v:=v) (o:=UW vs k) (by rw[l];exact rel.val k)
  exact wpAny_getItem_of (kV_is ry) dd.mapOf hw (h w' _ (I.tok _) rw')
 ·subst ey
  cases (show u=YF b from ry)
  obtain ⟨z,hd,xs,rel,dd⟩:=dt_rd I.hok e
  obtain ⟨w',hw,rw'⟩:=RelO.some_of (v:=v) (o:=(atKey xs k).map (·.2)) (by rw[l];exact rel.val k)
  obtain ⟨p,hp,hp2⟩:=XN.mp hw
  refine wpAny_getItem_heap (Vi hu) (ZcA I.hok eb) dd hp ?_
  rw[hp2]
  exact h w' _ (I.tok _) rw'
theorem d_in {Q:1e5}(hu:A.units + 1 < cLine)(I:2e3)(g:DGet H a y o)(ry:RelV y u)(h:∀s',Inv X pins σ H s'->Q (.bool o.isSome) s'):
  wpAny 2e4 A (XT .In u (.ref a)) Q E s:=by
 rcases g with ⟨kvs,k,e,ey,l⟩ | ⟨kvs,k,b,e,ey,eb,l⟩
 ·subst ey
  obtain ⟨z,hd,vs,rel,dd⟩:=dk_rd I.hok e
  refine wpAny_in_of (kV_is ry) hd dd.mapOf ?_
  rw[←(rel.val k).isSome_eq,←l]
  exact h _ (I.tok _)
 ·subst ey
  cases (show u=YF b from ry)
  obtain ⟨z,hd,xs,rel,dd⟩:=dt_rd I.hok e
  refine wpAny_in_heap (Vi hu) (ZcA I.hok eb) hd dd ?_
  have q:=(rel.val k).isSome_eq
  rw[Ub] at q
  rw[←q,←l]
  exact h _ (I.tok _)
theorem d_notIn {Q:1e5}(hu:A.units + 1 < cLine)(I:2e3)(g:DGet H a y o)(ry:RelV y u)(h:∀s',Inv X pins σ H s'->Q (.bool (!o.isSome)) s'):
  wpAny 2e4 A (XT .NotIn u (.ref a)) Q E s:=by
 rcases g with ⟨kvs,k,e,ey,l⟩ | ⟨kvs,k,b,e,ey,eb,l⟩
 ·subst ey
  obtain ⟨z,hd,vs,rel,dd⟩:=dk_rd I.hok e
  refine wpAny_notIn_of (kV_is ry) hd dd.mapOf ?_
  rw[←(rel.val k).isSome_eq,←l]
  exact h _ (I.tok _)
 ·subst ey
  cases (show u=YF b from ry)
  obtain ⟨z,hd,xs,rel,dd⟩:=dt_rd I.hok e
  refine wpAny_notIn_heap (Vi hu) (ZcA I.hok eb) hd dd ?_
  have q:=(rel.val k).isSome_eq
  rw[Ub] at q
  rw[←q,←l]
  exact h _ (I.tok _)
theorem d_write {h':Heap}{t':Nat}{ob:HO}(I:2e3)(mu:Mut (H a))(hs:Wc a s.heap h')(he:∃q,h'.get? a=some q)(new:ObjOk X.prog X.w (upd H a ob) h' a ob):
  Inv X pins σ (upd H a ob) { s with heap:=h',toks:=t' }:=
 I.write (x:=a) (e:=a) mu 15e4 (fun b q hb z=>(hs.2 b hb).trans z) he new
theorem dk_new {P:YC}{w:World}{H':Hp}{h':Heap}{kvs:List (Key×V)}{vs:List (Key×Value)}(z:kvs.length<=Yt)(hd:(a==Wa)=false)(rel:KV kvs vs)(dd:h'.DictOf (mixKind P w) a vs):
  ObjOk P w H' h' a (.dK kvs):=⟨z,hd,vs,rel,dd⟩
theorem d_setItem {H':Hp}{Q:Unit->Shared->Prop}(hu:A.units + 1 < cLine)(I:2e3)(g:DPut H a y v H')(ry:RelV y u)(rv:RelV v r)(h:∀s',Inv X pins σ H' s'->Q () s'):
  wpAny 2e4 A (setItem (.ref a) u r) Q E s:=by
 rcases g with ⟨kvs,k,e,ey,l,eH⟩ | ⟨kvs,k,b,e,ey,eb,l,eH⟩
 ·subst ey eH
  obtain ⟨z,hd,vs,rel,dd⟩:=dk_of I.hok e
  have hz:vs.length<=sizeLine:=by rw[←rel.length];exact z
  have hl:(putK kvs k v).length<=sizeLine:=by have:=Zbx kvs k v;lia
  refine wpAny_setItem_pairs (hsz:=hz) (kV_is ry) dd fun h' dd' hs=>h _ ?_
  have he:∃q,h'.get? a=some q:=let ⟨q,_,_,hq,_⟩:=dd';⟨q,hq⟩
  exact d_write I (by rw[e];exact WE) hs he (dk_new hl hd (rel.put k rv) dd')
 ·subst ey eH
  cases (show u=YF b from ry)
  obtain ⟨z,hd,xs,rel,dd⟩:=dt_of I.hok e
  have hz:xs.length<=sizeLine:=by rw[←Vd rel];exact z
  have hl:(putK kvs k v).length<=sizeLine:=by have:=Zbx kvs k v;lia
  refine wpAny_setItem_heap (hsz:=hz) (Vi hu) (ZcA I.hok eb) dd fun h' dd' hs=>h _ ?_
  obtain ⟨q,es,ep,hq,h2,h3,h4,_,h5⟩:=dd'
  refine d_write I (by rw[e];exact WE) hs ⟨q,hq⟩ ⟨hl,hd,_,(rel.put k eb rv).keeps fun c ys ec=>?_,q,es,ep,hq,h2,h3,h4,h5⟩
  rw[Zax (ne_of ec e (fun z=>nomatch z))]
  exact ec
end
theorem dict_typeIs {X:Cx}{pins:2e0}{σ:St}{H:Hp}{s:Shared}{a:Addr}{y:V}{o:Option V}(I:2e3)(g:DGet H a y o):s.TypeIs (.ref a) "dict":=by
 rcases g with ⟨kvs,k,e,_,_⟩ | ⟨kvs,k,b,e,_,_,_⟩
 ·obtain ⟨_,_,vs,_,dd⟩:=dk_rd I.hok e
  exact dd.typeIs
 ·obtain ⟨_,_,xs,_,dd⟩:=dt_rd I.hok e
  exact dd.typeIs
def sDPut (td ty tv:TE):TS:=fun D σ H=>tv σ H fun v H1=>td σ H1 fun x H2=>ty σ H2 fun y H3=>∃a H4,x=.ref a/\DPut H3 a y v H4/\D.nx σ H4
section
variable {X:Cx}{o i e value:Expr}{pos pos' tpos:Pos}{td ty tv:TE}
theorem ps_dput (hu:X.A.units + 1 < cLine)(ho:PE X o td)(hi:PE X i ty)(hv:PE X value tv)(hs:WJ value (some (.Subscript o i pos')) pos.line X.env=pure false):
  PS X (.Assign [.Subscript o i pos'] value pos) (sDPut td ty tv):=by
 intro pins s σ H D I h
 refine wpAny_Assign_Subscript (thn (hv pins s σ H _ I h) fun r s1 ⟨v,H1,I1,rv,q1⟩=>thn (ho pins s1 σ H1 _ I1 q1) fun u s2 ⟨x,H2,I2,rx,q2⟩=>thn (hi pins s2 σ H2 _ I2 q2) fun iv s3 ⟨y,H3,I3,ry,a,H4,ex,g,q3⟩=>?_) hs
 subst ex
 obtain rfl:u=YF a:=rx
 exact d_setItem hu I3 g ry rv fun s4 I4=>⟨σ,H4,I4,q3⟩
end
theorem dk_empty {P:YC}{w:World}{H:Hp}(h:Heap)(hb:Wa < h.objs.size):ObjOk P w H (h.push { cls:=.type "dict",data:=.dict #[] }) h.objs.size (.dK []):=
 ⟨YV _,beq_eq_false_iff_ne.mpr (Xw (Yq hb)),[],.nil,Heap.DictOf.new h⟩
theorem dt_empty {P:YC}{w:World}{H:Hp}(h:Heap)(hb:Wa < h.objs.size):ObjOk P w H (h.push { cls:=.type "dict",data:=.dict #[] }) h.objs.size (.dT []):=
 ⟨YV _,beq_eq_false_iff_ne.mpr (Xw (Yq hb)),[],.nil,_,#[],0,Yo _ rfl,⟨rfl,rfl,rfl⟩,rfl,rfl,List.nodup_nil⟩
def tDNewK:TE:=fun _ H Q=>∀p,H p=none->Q (.ref p) (upd H p (.dK []))
def tDNewT:TE:=fun _ H Q=>∀p,H p=none->Q (.ref p) (upd H p (.dT []))
section
variable {X:Cx}{pos:Pos}
theorem pe_dnewK:PE X (.Dict [] [] pos) tDNewK:=fun pins s σ H Q I h=>
 wpAny_Dict_empty ⟨.ref s.heap.objs.size,_,I.laid (a:=s.heap.objs.size) (o:=.dK []) (t':=s.toks) (fun _ _ q=>Yb _ q) (Yj _) (dk_empty s.heap I.big),rfl,h _ (I.hok.fresh (Yj _))⟩
theorem pe_dnewT:PE X (.Dict [] [] pos) tDNewT:=fun pins s σ H Q I h=>
 wpAny_Dict_empty ⟨.ref s.heap.objs.size,_,I.laid (a:=s.heap.objs.size) (o:=.dT []) (t':=s.toks) (fun _ _ q=>Yb _ q) (Yj _) (dt_empty s.heap I.big),rfl,h _ (I.hok.fresh (Yj _))⟩
end
structure M1 (X:Cx)(o:Expr)(m:Str)(apos:Pos)(e:Expr)(cpos:Pos):Prop where
 base:attributeBase o m X.env (eval o X.env)=eval o X.env
 few:((backTo cpos (Yp [e] X.env)).all (fun x=>!x.1)&&(backToKw cpos (keywordEach [] X.env)).all (fun x=>x.1.isSome)
  &&decide (([e]:List Expr).length + ([]:List Keyword).length + (if ([]:List Keyword).isEmpty then 0 else 1) < 30))=true
 line:(apos.endLine==cpos.line)=true
 trees:backTo cpos (Yp [e] X.env)=[(false,eval e X.env)]
def clFrom (cells:List (Str×Addr)):List (Str×Vg)->List (Str×Addr)->List (Str×Addr)
  | [],cs=>cs
  | (n,k)::r,cs=>clFrom cells r (if k=.free then (n,(cells.lookup n).getD 0)::cs else cs)
theorem Zdl {cells:List (Str×Addr)}:∀{names:List (Str×Vg)} {cs:List (Str×Addr)},(∀y∈names,y.2=.free->∃c,cells.lookup y.1=some c)->(∀x c,cs.lookup x=some c->cells.lookup x=some c)->
    ∀x c,(clFrom cells names cs).lookup x=some c->cells.lookup x=some c
  | [],_,_,h,x,c,e=>h x c e
  | (n,k)::r,cs,hn,h,x,c,e=>by
    unfold clFrom at e
    refine Zdl (fun y hy=>hn y (YO _ hy)) (fun y d q=>?_) x c e
    by_cases hk:k=.free
    · rw[if_pos hk] at q
      obtain ⟨c',hc'⟩:=hn (n,k) YA hk
      rw[Y6] at q
      by_cases hy:y==n
      · rw[hy] at q
        have:y=n:=by simpa using hy
        subst this
        rw[show cells.lookup y=some c' from hc'] at q ⊢
        simpa using q
      · have hy':(y==n)=false:=by simpa using hy
        rw[hy'] at q
        exact h y d q
    · rw[if_neg hk] at q
      exact h y d q
theorem ZcC {cells:List (Str×Addr)}{x:Str}:∀{names:List (Str×Vg)} {cs:List (Str×Addr)},(∃c,cs.lookup x=some c)->∃c,(clFrom cells names cs).lookup x=some c
  | [],_,h=>h
  | (n,k)::r,cs,h=>by
    unfold clFrom
    refine ZcC ?_
    by_cases hk:k=.free
    · rw[if_pos hk,Y6]
      by_cases hy:x==n
      · rw[hy];exact 8e9
      · have hy':(x==n)=false:=by simpa using hy
        rw[hy'];exact h
    · rw[if_neg hk];exact h
theorem Zcw {cells:List (Str×Addr)}{x:Str}:∀{names:List (Str×Vg)} {cs:List (Str×Addr)},(x,Xo)∈names->∃c,(clFrom cells names cs).lookup x=some c
  | [],_,h=>nomatch h
  | (n,k)::r,cs,h=>by
    unfold clFrom
    rcases Yn.mp h with e | h
    · cases e
      refine ZcC ?_
      rw[if_pos rfl,Y6]
      simp
    · exact Zcw h
theorem ZbX {env:Env}{scope:Scope}(h:∀y∈scope.names,y.2=.free->∃c,env.cells.lookup y.1=some c):closureFor scope env=pure (clFrom env.cells scope.names []):=by
 simp only[closureFor]
 have key:∀(names:List (Str×Vg)) (cs:List (Str×Addr)),(∀y∈names,y.2=.free->∃c,env.cells.lookup y.1=some c)->
   (forIn names cs fun x r=>if (x.2==Xo)=true then do let a ←cellOf env x.1;pure (WP ((x.1,a)::r)) else pure (WP r):Sem (List (Str×Addr)))=pure (clFrom env.cells names cs):=by
  intro names
  induction names with
  | nil=>intro cs _;rfl
  | cons y r ih=>
   intro cs hn
   obtain ⟨n,k⟩:=y
   rw[List.forIn_cons]
   by_cases hk:k=.free
   ·obtain ⟨c,hc⟩:=hn (n,k) YA hk
    have hc':env.cells.lookup n=some c:=hc
    subst hk
    have e1:cellOf env n=pure c:=by unfold cellOf;rw[hc']
    show (_ >>= _)=_
    simp only[beq_self_eq_true,if_true,e1]
    unfold clFrom
    rw[if_pos rfl,hc']
    exact ih _ fun y hy=>hn y (YO _ hy)
   ·have e2:(k==Xo)=false:=by simpa using hk
    show (_ >>= _)=_
    simp only[e2,YM,if_false]
    unfold clFrom
    rw[if_neg hk]
    exact ih _ fun y hy=>hn y (YO _ hy)
 rw[key scope.names [] h]
 rfl
section
variable {prog:YC}{w:World}{A:Around}{R:12e3}{s:Shared}
abbrev Out (prog:YC)(w:World)(A:Around)(env:Env)(R:12e3):Value->Shared->Prop:=notedBy 2e5 A env fun e s'=>R (.error e) s'
abbrev testsOf (env:Env)(ifs:5e9):Sem Bool:=forIn ifs true fun c r=>if r=true then do let ok ←isTrue c env (eval c env);pure (WP ok) else pure (WP r)
theorem compLoop_any {elt target iter:Expr}{ifs:5e9}{scope:Scope}{pos:Pos}{it acc:Value}{env:Env}(I:Nat->Shared->Prop)
  (turn:∀k z,I k z->wpAny 2e5 A (pyNext it) (fun r z1=>match r with
   | none=>R (.ok .next) z1
   | some v=>wpAny 2e5 A (X4 target it v) (fun _ z2=>wpAny 2e5 A (assign target env v) (fun _ z3=>wpAny 2e5 A (testsOf env ifs) (fun yes z4=>
     if yes=true then wpAny 2e5 A (eval elt env) (fun x z5=>wpAny 2e5 A (call (.builtin "list.append") [acc,x]) (fun _ z6=>∃m,m < k/\I m z6) (Out prog w A env R) z5) (Out prog w A env R) z4
     else ∃m,m < k/\I m z4) (Out prog w A env R) z3) (Out prog w A env R) z2) (Out prog w A env R) z1) (Out prog w A env R) z)
  (n:Nat) (h:I n s):XU 2e5 A (.compLoop (.ListComp elt [⟨target,iter,ifs,0⟩] scope pos) 0 it acc env) R s:=by
 refine Ux rfl I ?_ n h
 intro k z hz
 refine UN ?_
 rw[compTurn_list]
 apply Ya
 apply XY
 apply Ya
 refine Y0 (turn k z hz) ?_ fun _ _ e=>e
 rintro (_ | v) z1 y1
 ·exact Yc y1
 apply Ya
 refine Y0 y1 (fun _ z2 y2=>?_) fun _ _ e=>e
 apply Ya
 refine Y0 y2 (fun _ z3 y3=>?_) fun _ _ e=>e
 apply Ya
 refine Y0 y3 (fun yes z4 y4=>?_) fun _ _ e=>e
 by_cases b:yes=true
 ·subst b
  apply Ya
  apply Ya
  refine Y0 y4 (fun x z5 y5=>?_) fun _ _ e=>e
  apply Ya
  exact Y0 y5 (fun _ z6 y6=>Yc (Yc ⟨rfl,y6⟩)) fun _ _ e=>e
 ·have nb:yes=false:=by simpa using b
  subst nb
  exact Yc ⟨rfl,y4⟩
end
def CompCx (X:Cx)(N':5e6)(scope:Scope)(C:Addr)(s₀:Shared)(H₀:Hp)(ex:3e7)(pn:2e0):Cx:=
 { X with N:=N',s₀:=s₀,H₀:=H₀,env:=UI scope (clFrom X.env.cells scope.names []) C X.env,outer:=X.stack,ex:=ex,fn:=fun _=>false,pn:=pn,xe:=fun _ _=>False }
structure CSc (X:Cx)(scope:Scope)(vs fs:List Str)(fr:List Nat):Prop where
 kind:scope.kind=.function
 cell:(scope.names.all fun y=>y.2 != .cell)=true
 free:(scope.names.all fun y=>y.2 != .free||(X.env.kindOf y.1==some .cell||X.env.kindOf y.1==some .free))=true
 loc:(scope.names.all fun y=>y.2 != .local||scope.names.lookup y.1==some .local)=true
 fre:(scope.names.all fun y=>y.2 != .free||scope.names.lookup y.1==some .free)=true
 fsf:(fs.all fun x=>scope.names.lookup x==some .free)=true
 at':fr.map (fun i=>X.N[i]?)=fs.map some
def PTs (X:Cx)(ifs:5e9)(t:TT):Prop:=
 ∀(pins:2e0) (s:Shared) (σ:St) (H:Hp) (Q:Bool->Hp->Prop),Inv X pins σ H s->t σ H Q->
  wpAny 2e4 X.A (forIn ifs true fun c r=>if r=true then do let ok ←isTrue c X.env (eval c X.env);pure (WP ok) else pure (WP r)) (TP X pins σ Q) X.xe s
def tYes:TT:=fun _ H Q=>Q true H
theorem pts_nil {X:Cx}:PTs X [] tYes:=fun _ _ _ H _ I h=>wpAny_tests_nil ⟨H,I,h⟩
theorem pts_one {X:Cx}{c:Expr}{t:TT}(h:PT X c t):PTs X [c] t:=fun pins s σ H Q I q=>wpAny_tests_one (h pins s σ H Q I q)
def stIn (vs:5e6)(fr:11e8)(σ:St):St:=vs.map (fun _=>none)++fr.map fun i=>(σ[i]?).join
def CompW (J:It)(vs:5e6)(fr:11e8)(g:TG)(tt:TT)(te:TE)(σ:St)(H1:Hp)(Q:VK):Prop:=
 ∃W:Nat->Nat->St->List V->Hp->Prop,(∃m,W 0 m (stIn vs fr σ) [] H1)/\∀i m σ' ys H,W i m σ' ys H->
  (J.stop i H/\ys.length<=Yt/\∀D,H D=none->Q (.ref D) (upd H D (.lst ys)))\/
  (J.go i H/\ys.length<=Yt/\∃N:St->List V->Hp->Prop,(∀σ2 ys2 H2,N σ2 ys2 H2->∃m',m' < m/\W (i + 1) m' σ2 ys2 H2)/\∀x H',J.yld i H x H'->g x σ' H' fun σ2 H2=>tt σ2 H2 fun b H3=>
   if b=true then te σ2 H3 fun y H4=>N σ2 (ys++[y]) H4 else N σ2 ys H3)
def tComp (wi:TI)(vs:5e6)(fr:11e8)(g:TG)(tt:TT)(te:TE):TE:=fun σ H Q=>wi σ H fun J H1=>CompW J vs fr g tt te σ H1 Q
section
variable {X:Cx}{tg elt iter:Expr}{ifs:5e9}{scope:Scope}{pos:Pos}{vs fs:5e6}{fr:11e8}
theorem mem_all {α:Type}{p:α->Bool}{l:List α}(h:l.all p=true){x:α}(hx:x∈l):p x=true:=YW.mp h x hx
theorem CSc.cell' (S:9e6):∀y∈scope.names,y.2≠.cell:=fun y hy e=>by have:=mem_all S.cell hy;rw[e] at this;simp at this
theorem CSc.free' (S:9e6):∀y∈scope.names,y.2=.free->X.env.kindOf y.1=some .cell\/X.env.kindOf y.1=some .free:=fun y hy e=>by
 have:=mem_all S.free hy;rw[e] at this;simpa using this
theorem CSc.loc' (S:9e6):∀y∈scope.names,y.2=.local->scope.names.lookup y.1=some .local:=fun y hy e=>by
 have:=mem_all S.loc hy;rw[e] at this;simpa using this
theorem Zbs {α β:Type} [BEq α] [LawfulBEq α]:∀{l:List (α×β)} {x:α} {k:β},l.lookup x=some k->(x,k)∈l
  | [],_,_,h=>by simp at h
  | (n,k')::r,x,k,h=>by
    rw[Y6] at h
    cases e:x==n with
    | true=>rw[e] at h;cases h;rw[eq_of_beq e];exact YA
    | false=>rw[e] at h;exact YO _ (Zbs h)
theorem ZbE {env:Env}{x:Str}:∀{names:List (Str×Vg)} {k:Vg},
    (names.map fun (n,k)=>if (k==Xo&&env.scope.kind==.function&&env.kindOf n==some .cell) then (n,Wv) else (n,k)).lookup x=some k->
    names.lookup x=some k\/(k=.cell/\names.lookup x=some .free)
  | [],_,h=>by simp at h
  | (n,k')::r,k,h=>by
    have ih:=@ZbE env x r k
    have h':List.lookup x ((if 9e0=true then (n,Wv) else (n,k'))::(r.map fun (n,k)=>if (k==Xo&&env.scope.kind==.function&&env.kindOf n==some .cell) then (n,Wv) else (n,k)))=some k:=h
    cases hx:x==n with
    | true=>
      by_cases hc:9e0=true
      · rw[if_pos hc] at h'
        simp only[Y6,hx] at h' ⊢
        cases h'
        have:k'=.free:=by simp at hc;exact hc.1.1
        exact .inr ⟨rfl,by rw[this]⟩
      · rw[if_neg hc] at h'
        simp only[Y6,hx] at h' ⊢
        exact .inl h'
    | false=>
      by_cases hc:9e0=true
      · rw[if_pos hc] at h'
        simp only[Y6,hx] at h' ⊢
        exact ih h'
      · rw[if_neg hc] at h'
        simp only[Y6,hx] at h' ⊢
        exact ih h'
theorem Zcz {env:Env}{x:Str}:∀{names:List (Str×Vg)},names.lookup x=some .free->
    let l:=(names.map fun (n,k)=>if (k==Xo&&env.scope.kind==.function&&env.kindOf n==some .cell) then (n,Wv) else (n,k)).lookup x
    l=some .cell\/l=some .free
  | [],h=>by simp at h
  | (n,k')::r,h=>by
    have ih:=@Zcz env x r
    show List.lookup x ((if 9e0=true then (n,Wv) else (n,k'))::(r.map fun (n,k)=>if (k==Xo&&env.scope.kind==.function&&env.kindOf n==some .cell) then (n,Wv) else (n,k)))=some .cell\/
      List.lookup x ((if 9e0=true then (n,Wv) else (n,k'))::(r.map fun (n,k)=>if (k==Xo&&env.scope.kind==.function&&env.kindOf n==some .cell) then (n,Wv) else (n,k)))=some .free
    cases hx:x==n with
    | true=>
      simp only[Y6,hx] at h
      have h:k'=.free:=YN h
      by_cases hc:9e0=true
      · rw[if_pos hc,Y6,hx];exact .inl rfl
      · rw[if_neg hc,Y6,hx,h];exact .inr rfl
    | false=>
      simp only[Y6,hx] at h
      by_cases hc:9e0=true
      · rw[if_pos hc];simp only[Y6,hx];exact ih h
      · rw[if_neg hc];simp only[Y6,hx];exact ih h
end
section
variable {X:Cx}{tg elt iter:Expr}{ifs:5e9}{scope:Scope}{pos:Pos}{vs fs:5e6}{fr:11e8}
theorem CSc.clos (S:9e6)(ok:X.Ok):∀y∈scope.names,y.2=.free->∃c,X.env.cells.lookup y.1=some c:=fun y hy e=>ok.has y.1 (S.free' y hy e)
theorem CSc.cl (S:9e6)(ok:X.Ok){x:Str}{c:Addr}(e:(clFrom X.env.cells scope.names []).lookup x=some c):X.env.cells.lookup x=some c:=
 Zdl (S.clos ok) (fun _ _ q=>by simp at q) x c e
theorem ZaO {h:Heap}{b:Addr}{o:Obj}{n:Nat}(e:h.get? b=some o)(hn:h.objs.size<=n):b≠n:=Yq (Yk (Yv e) hn)
theorem Zcv {pins:2e0}{σ:St}{H:Hp}{s:Shared}{fp:3e7}{C:Addr}{h1:Heap}{tk:Nat}{m1:3e1}(S:9e6)(I:2e3)
  (hf:∀b∈fp,FpOk X pins H b) (hfo:∀b∈fp,∃o,s.heap.get? b=some o) (hC:s.heap.objs.size<=C) (hn:h1.Ns C m1) (old:∀b o,s.heap.get? b=some o->h1.get? b=some o):
  Inv (CompCx X (vs++fs) scope C s H fp (X.pn++pins)) [] (stIn vs fr σ) H { s with heap:=h1,toks:=tk }:=by
 have cl:=fun x c e=>S.cl I.ok (x:=x) (c:=c) e
 have hsub:=I.stkSub
 have cellLt:∀x c,X.env.cells.lookup x=some c->c < s.heap.objs.size:=fun x c e=>by obtain ⟨v,q⟩:=I.cell x c e;exact q.lt
 refine ⟨⟨I.ok.mod,S.kind,I.ok.glob,I.ok.blt,hC,fun x y c e1 e2=>I.ok.inj x y c (cl x c e1) (cl y c e2),fun x hx=>?_,fun _ _ z _=>(nomatch z),I.ok.hd,I.ok.frames,.inl rfl,fun b hb=>?_,I.bs,YR I.ok.bsz I.sz,fun b o e hb=>?_,fun b hb z=>?_,I.stack,I.stkFree⟩,
  rfl,I.bare,Un.kept old,⟨m1,hn,fun i x v e1 e2 e3=>?_⟩,fun x c e=>?_,I.hok.fresh hC,fun x c e=>I.freeC x c (cl x c e),fun p hp=>?_,I.hok.kept old,?_⟩
 ·-- has
  have hx':(relabel scope X.env).names.lookup x=some .cell\/(relabel scope X.env).names.lookup x=some .free:=hx
  have:scope.names.lookup x=some .free:=by
   rcases hx' with q | q
   ·rcases ZbE q with q | ⟨_,q⟩
    ·exact absurd rfl (S.cell' _ (Zbs q))
    ·exact q
   ·rcases ZbE q with q | ⟨q,_⟩
    ·exact q
    ·cases q
  exact Zcw (Zbs this)
 ·-- exf
  obtain ⟨o,ho⟩:=hfo b hb
  obtain ⟨f0,f1,f2,f3,f4,f5⟩:=hf b hb
  exact ⟨ZaO ho hC,fun x c e=>f4 x c (cl x c e)⟩
 ·-- noex
  have e':=(I.ok.bs b o e).1
  obtain ⟨_,_,_,f3,_,_⟩:=hf b hb
  rcases f3 with z | z
  ·exact I.ok.noex b o e z
  ·exact absurd (Yk (Yv e') z) (XX _)
 ·-- exfs
  obtain ⟨_,f1,f2,_⟩:=hf b hb
  rcases Yn.mp (hsub b z) with q | q
  ·exact f1 q
  ·exact f2 q
 ·-- loc
  have e1:(vs++fs)[i]? = some x:=e1
  unfold stIn at e2
  by_cases hi:i < vs.length
  ·rw[Yf (by simpa using hi)] at e2
   simp[hi] at e2
  ·rw[Y8 (by simpa using hi),YE,YL] at e2
   rw[Y8 (by simpa using hi)] at e1
   obtain ⟨j,hj⟩:∃j,fr[i - vs.length]? = some j:=by
    cases q:fr[i - vs.length]? with
    | none=>rw[q] at e2;cases e2
    | some j=>exact ⟨j,rfl⟩
   rw[hj] at e2
   have e2':(σ[j]?).join=some v:=YN e2
   have hσ:σ[j]? = some (some v):=by
    cases q:σ[j]? with
    | none=>rw[q] at e2';cases e2'
    | some r=>rw[q] at e2';exact congrArg some e2'
   have hN:X.N[j]? = some x:=by
    have:=congrArg (fun l=>l[i - vs.length]?) S.at'
    simp only[YL,hj,e1,Uy] at this
    exact YN this
   have hxf:scope.names.lookup x=some .free:=by
    have:=mem_all S.fsf (YQ e1)
    simpa using this
   have hk:=S.free' _ (Zbs hxf) rfl
   obtain ⟨m,hm,hl⟩:=I.loc
   have hvis:Vis X.env.scope x:=by
    rcases hk with k | k
    ·exact .inr (.inl k)
    ·exact .inr (.inr k)
   obtain ⟨u,ru,lk⟩:=hl j x v hN hσ hvis
   refine ⟨u,ru,?_⟩
   rcases lk with ⟨k,_⟩ | ⟨_,c,hc,hv⟩
   ·have k':X.env.kindOf x=some .local:=k
    rcases hk with z | z
    ·have z':X.env.kindOf x=some .cell:=z
     rw[k'] at z';cases z'
    ·have z':X.env.kindOf x=some .free:=z
     rw[k'] at z';cases z'
   ·obtain ⟨c',hc'⟩:=Zcw (cells:=X.env.cells) (cs:=[]) (Zbs hxf)
    have:=cl x c' hc'
    rw[hc] at this
    cases this
    refine .inr ⟨Zcz hxf,c,hc',?_⟩
    obtain ⟨o,ho,hd⟩:=hv
    exact ⟨o,old c o ho,hd⟩
 ·-- cell
  obtain ⟨v,o,ho,hd⟩:=I.cell x c (cl x c e)
  exact ⟨v,o,old c o ho,hd⟩
 ·-- pin
  have hp':p∈X.pn++pins:=by simpa[CompCx] using hp
  obtain ⟨e,n,ne,nf,d⟩:=I.pin p hp'
  refine ⟨old _ _ e,n,ZaO e hC,fun z=>?_,d⟩
  rcases Yn.mp (hsub _ z) with q | q
  ·exact ne q
  ·exact nf q
 ·show (stIn vs fr σ).length=(vs++fs).length
  have:=congrArg List.length S.at'
  simp only[YE] at this
  unfold stIn
  simp[this]
theorem comp_back {pins:2e0}{σ σ':St}{H H':Hp}{s s':Shared}{fp:3e7}{C D:Addr}{ys:List V}{its:4e1}{n:Nat}{pl:2e0}(I:2e3)
  (hf:∀b∈fp,FpOk X pins H b) (J:Inv (CompCx X (vs++fs) scope C s H fp (X.pn++pins)) pl σ' H' s')
  (hD:s.heap.objs.size<=D) (hDn:H' D=none) (hl:ys.length<=Yt) (r:Vals ys its) (ho:s'.heap.get? D=some { cls:=.type "list",data:=.seq its.toArray n }):Inv X pins σ (upd H' D (.lst ys)) s':=by
 have ne:∀b o,s.heap.get? b=some o->b≠D:=fun b o e=>ZaO e hD
 have u:Un (frs X.stack) fp H H' s.heap s'.heap:=J.base
 refine I.call' (ch:=fp) J.os ⟨u.keep,u.slot,fun b o e q hx=>?_,u.there,fun b xs e=>?_,fun b o xs e=>?_,fun b ps e=>?_⟩ (fun b o e=>?_) J.bare fun b hb=>?_
 ·rw[Zax (ne b o e)];exact u.free b o e q hx
 ·rw[Zax (Zas (u.tups b xs e) hDn)];exact u.tups b xs e
 ·rw[Zax (Zas (u.frzs b o xs e) hDn)];exact u.frzs b o xs e
 ·obtain ⟨more,q⟩:=u.tbls b ps e
  exact ⟨more,by rw[Zax (Zas q hDn)];exact q⟩
 ·by_cases hb:b=D
  ·subst hb
   rw[ZaQ] at e;cases e
   exact ⟨hl,its,n,r,ho⟩
  ·rw[Zax hb] at e
   exact (J.hok b o e).stay (fun _ _ _ q=>q) (fun c q=>by rw[Zax (Zas q hDn)];exact q) fun c xs q=>by rw[Zax (Zas q hDn)];exact q
 ·obtain ⟨f0,f1,f2,f3,f4,f5⟩:=hf b hb
  exact ⟨f3,f1,f4,f5⟩
end
section
variable {X:Cx}{tg elt iter:Expr}{ifs:5e9}{scope:Scope}{pos:Pos}{vs fs:5e6}{fr:11e8}{g:TG}{tt:TT}{te:TE}
theorem Za7 {α:Type}{M:Model}{A:Around}{t:Sem α}{Q Q':α->Shared->Prop}{E:1e5}{s:Shared}(h:wpAny M A t Q (fun _ _=>False) s)(hQ:∀a s,Q a s->Q' a s):wpAny M A t Q' E s:=
 Y0 h hQ fun _ _ f=>WD f
theorem ZdD {pins:2e0}{σ:St}{H:Hp}{s:Shared}{Q:VK}{it:Addr}{fp:3e7}{tn:Nat->Heap->Prop}{J:It}{RR:Value->Addr->Result->Shared->Prop}
  (S:9e6) (hc:9e9)
  (bG:∀C s₀ H₀ ex pn,PG 1e3 tg g) (bT:∀C s₀ H₀ ex pn,PTs 1e3 ifs tt) (bE:∀C s₀ H₀ ex pn,PE 1e3 elt te)
  (I:2e3) (T:Turn X.prog X.w X.K tg J fp it tn) (st:tn 0 s.heap) (hf:∀b∈fp,FpOk X pins H b)
  (q:CompW J vs fr g tt te σ H Q)
  (hRR:∀D C H' s' m',Inv X pins σ H' s'->Q (.ref D) H'->s'.heap.Ns C m'->H' C=none->s.heap.objs.size<=C->RR (.ref D) C (.ok .next) s'):
  wpAny 2e4 X.A (newList []) (fun acc s₃=>wpAny 2e4 X.A (newFunctionEnv scope X.env.globals 12e1 [] X.env.qual none .none (some X.env)) (fun cenv s₄=>
   XU (model X.prog X.w) X.A (.compStart (.ListComp elt [⟨tg,iter,ifs,0⟩] scope pos) 0 (.ref it) acc { cenv with scope:=relabel scope X.env }) (RR acc cenv.locals) s₄) X.xe s₃) X.xe s:=by
 obtain ⟨W,⟨m0,w0⟩,turn⟩:=q
 refine Xy (VC S.cell' (by intro y hy;simp at hy) (fun h₁ hns₁ hsb₁=>?_) S.kind)
 dsimp only at hns₁ hsb₁ ⊢
 generalize hH2:s.heap.push { cls:=.type "list",dict:=none,data:=.seq ([]:List Value).toArray }=H2 at hns₁ hsb₁ ⊢
 have hCs:H2.objs.size=s.heap.objs.size + 1:=by rw[←hH2,Vs]
 have hDC:s.heap.objs.size≠H2.objs.size:=by rw[hCs];exact Yq (W5 _)
 have hCle:s.heap.objs.size<=H2.objs.size:=by rw[hCs];exact Ug _
 have old:∀b o,s.heap.get? b=some o->h₁.get? b=some o:=fun b o e=>hsb₁.extBut b o (ZaO e hCle) (Yb _ (hH2 ▸ Yb _ e))
 have hacc:h₁.get? s.heap.objs.size=some { cls:=.type "list",data:=.seq ([]:List Value).toArray 0 }:=hsb₁.extBut _ _ hDC (Yb _ (hH2 ▸ Yo _ rfl))
 have hfo:∀b∈fp,∃o,s.heap.get? b=some o:=fun b hb=>by obtain ⟨o,e,_⟩:=T.obj 0 _ st b hb;exact ⟨o,e⟩
 generalize hY:CompCx X (vs++fs) scope H2.objs.size s H fp (X.pn++pins)=Y
 have J0:Inv Y [] (stIn vs fr σ) H { s with heap:=h₁,toks:=s.toks + ([]:List (Str×Value)).length }:=by
  rw[←hY];exact Zcv S I hf hfo hCle hns₁ old
 have hG:PG Y tg g:=by rw[←hY];exact bG _ _ _ _ _
 have hT:PTs Y ifs tt:=by rw[←hY];exact bT _ _ _ _ _
 have hE:PE Y elt te:=by rw[←hY];exact bE _ _ _ _ _
 have ePr:Y.prog=X.prog:=by rw[←hY];rfl
 have eW:Y.w=X.w:=by rw[←hY];rfl
 have eK:Y.K=X.K:=by rw[←hY];rfl
 have eA:Y.A=X.A:=by rw[←hY];rfl
 have eC:Y.calm=true:=by rw[←hY];exact hc
 have eEnv:Y.env=UI scope 12e1 H2.objs.size X.env:=by rw[←hY];rfl
 have eL:Y.env.locals=H2.objs.size:=by rw[eEnv];rfl
 have eX:Y.xe=fun _ _=>False:=by rw[←hY];rfl
 have eS:Y.s₀=s:=by rw[←hY];rfl
 have eEx:Y.ex=fp:=by rw[←hY];rfl
 have eFs:Y.fs=frs X.stack:=by rw[←hY];rfl
 have ePn:Y.pn=X.pn++pins:=by rw[←hY];rfl
 have eCl:∀x c,Y.env.cells.lookup x=some c->X.env.cells.lookup x=some c:=fun x c e=>by
  rw[eEnv] at e;exact S.cl I.ok e
 have cellLt:∀x c,Y.env.cells.lookup x=some c->c≠s.heap.objs.size:=fun x c e=>by
  obtain ⟨v,z⟩:=I.cell x c (eCl x c e);exact Yq z.lt
 have pnLt:∀p∈Y.pn,p.1≠s.heap.objs.size:=fun p hp=>by
  rw[ePn] at hp;exact ZaO (I.pin p hp).1 (Yj _)
 have fpD:∀b∈fp,b≠s.heap.objs.size:=fun b hb=>by obtain ⟨o,e⟩:=hfo b hb;exact ZaO e (Yj _)
 have hDfs:s.heap.objs.size∉Y.fs:=fun z=>by
  rw[eFs] at z
  rcases Yn.mp (I.stkSub _ z) with z | z
  ·exact absurd I.lt (by rw[←z];exact XX _)
  ·exact I.nofs (Yj _) z
 have stat:∀{H':Hp} {o:Obj},12e0->∀b∈fp,FpOk Y [(s.heap.objs.size,o)] H' b:=fun {H' o} hn b hb=>by
  obtain ⟨f0,f1,f2,f3,f4,f5⟩:=hf b hb
  obtain ⟨ob,e⟩:=hfo b hb
  refine ⟨hn b hb,by rw[eL];exact ZaO e hCle,fun z=>?_,.inl (by rw[eEx];exact hb),fun x c e=>f4 x c (eCl x c e),fun p hp=>?_⟩
  ·rw[eFs] at z
   rcases Yn.mp (I.stkSub _ z) with z | z
   ·exact f1 z
   ·exact f2 z
  ·rcases Yz.mp hp with hp | hp
   ·rw[ePn] at hp;exact f5 p hp
   ·have:p=(s.heap.objs.size,o):=by simpa using hp
    rw[this];exact Xw (fpD b hb)
 have pinD:∀{σ':St} {H':Hp} {s':Shared} {its:4e1} {k:Nat},Inv Y [] σ' H' s'->H' s.heap.objs.size=none->s'.heap.get? s.heap.objs.size=some { cls:=.type "list",data:=.seq its.toArray k }->
   Inv Y [(s.heap.objs.size,{ cls:=.type "list",data:=.seq its.toArray k })] σ' H' s':=fun {σ' H' s' its k} i hn e=>i.pins_of fun p hp=>by
  have:p=(s.heap.objs.size,{ cls:=.type "list",data:=.seq its.toArray k }):=by simpa using hp
  subst this
  exact ⟨e,hn,by rw[eL];exact hDC,hDfs,fun v z=>by cases z⟩
 have loop:∀s₃:Shared,s₃={ s with heap:=h₁,toks:=s.toks + ([]:List (Str×Value)).length }->
   XU 2e4 X.A (.compLoop 10e6 0 (.ref it) 9e5 (UI scope 12e1 H2.objs.size X.env))
    (RR 9e5 H2.objs.size) s₃:=by
  rintro s₃ rfl
  rw[←eEnv,←ePr,←eW,←eA]
  refine compLoop_any (fun n s'=>∃i σ' ys its k H',Inv Y [(s.heap.objs.size,{ cls:=.type "list",data:=.seq its.toArray k })] σ' H' s'/\Vals ys its/\tn i s'.heap/\12e0/\W i n σ' ys H') ?_ m0
   ⟨0,_,[],[],0,H,pinD J0 (I.hok.fresh (Yj _)) hacc,.nil,T.keep _ _ _ st fun b _ o e=>old b o e,fun b hb=>(hf b hb).1,w0⟩
  rintro n s3 ⟨i,σ3,ys,its,k,H3,J3,rv,st3,fr3,w3⟩
  have pD:=J3.pin (s.heap.objs.size,_) (Ye _ (Yh.mpr rfl))
  have eI:=rv.length
  rcases turn i n σ3 ys H3 w3 with ⟨stop,hlen,qn⟩ | ⟨go,hlen,N,hN,step⟩
  ·have dn:=T.done Y ePr eW eK eC i _ s3 σ3 H3 (fun _ _=>False) J3 (stat fr3) st3 stop
   rw[←ePr,←eW] at dn
   refine Za7 dn fun r s4 h_=>?_
   obtain ⟨hr,J4⟩:=h_
   subst hr
   have pD4:=J4.pin (s.heap.objs.size,_) (Ye _ (Yh.mpr rfl))
   obtain ⟨m4,hm4,_⟩:=id J4.loc
   rw[eL] at hm4
   have nC:H3 H2.objs.size=none:=by rw[←eL];exact J4.free
   refine hRR _ _ _ s4 m4 (comp_back I hf (by rw[hY];exact J4) (Yj _) pD4.2.1 hlen rv pD4.1) (qn _ pD4.2.1) hm4 ?_ hCle
   rw[Zax (Xw hDC)];exact nC
  ·have im:=T.item Y ePr eW eK eC i _ s3 σ3 H3 (fun _ _=>False) J3 (stat fr3) st3 go
   rw[←ePr,←eW] at im
   refine Za7 im fun r s4 h_=>?_
   obtain ⟨u,hr,h4⟩:=h_
   subst hr
   refine Za7 h4 fun _ s5 h_=>?_
   obtain ⟨x,H5,J5,r5,y5,st5,fr5⟩:=h_
   have J5':=J5.pinned (stat fr5) (T.obj _ _ st5)
   have go1:=hG _ s5 σ3 H5 x u _ J5' r5 (step x H5 y5)
   rw[eX] at go1
   refine Za7 go1 fun _ s6 h_=>?_
   obtain ⟨σ6,H6,J6,q6⟩:=h_
   have go2:=hT _ s6 σ6 H6 _ J6 q6
   rw[eX] at go2
   refine Za7 go2 fun ok s7 h_=>?_
   obtain ⟨H7,J7,q7⟩:=h_
   have fin:∀{σ8:St} {H8:Hp} {s8:Shared},Inv Y ([(s.heap.objs.size,{ cls:=.type "list",data:=.seq its.toArray k })]++pinsAt fp s5.heap) σ8 H8 s8->
     tn (i + 1) s8.heap/\(∀b∈fp,H8 b=none):=fun {σ8 H8 s8} J8=>by
    refine ⟨T.keep _ _ _ st5 fun b hb o e=>(J8.pin (b,o) (Ye _ (Ye _ (ZaW hb e)))).1,fun b hb=>?_⟩
    obtain ⟨o,e,d⟩:=T.obj _ _ st5 b hb
    exact (J8.pin (b,o) (Ye _ (Ye _ (ZaW hb e)))).2.1
   cases ok with
   | false=>
    rw[if_neg Yu] at q7 ⊢
    obtain ⟨m',hm,w7⟩:=hN _ _ _ q7
    exact ⟨m',hm,i + 1,σ6,ys,its,k,H7,J7.unpinned,rv,(fin J7).1,(fin J7).2,w7⟩
   | true=>
    rw[if_pos rfl] at q7 ⊢
    have go3:=hE _ s7 σ6 H7 _ J7 q7
    rw[eX] at go3
    refine Za7 go3 fun yv s8 h_=>?_
    obtain ⟨y,H8,J8,r8,n8⟩:=h_
    obtain ⟨m',hm,w8⟩:=hN _ _ _ n8
    have pD8:=J8.pin (s.heap.objs.size,_) (Ye _ (Yx _ (Yh.mpr rfl)))
    refine append_at (hsz:=by rw[Ym,←eI];exact hlen) pD8.1 fun h9 hs9 hD9=>?_
    have J9:Inv Y [] σ6 H8 { s8 with heap:=h9 }:=(J8.pins_of (pins':=[]) fun p hp=>absurd hp (by simp)).turned (t':=s8.toks) (fun b o hb e=>(hs9.2 b hb).trans e) pD8.2.1 (by rw[eL];exact hDC)
     (.inr (by rw[eS];exact Yj _)) cellLt fun p hp=>pnLt p (by simpa using hp)
    refine ⟨m',hm,i + 1,σ6,ys++[y],its++[yv],k + 1,H8,pinD J9 pD8.2.1 (by rw[hD9,List.push_toArray]),Vals.append rv (.cons r8 .nil),?_,(fin J8).2,w8⟩
    exact T.keep _ _ _ (fin J8).1 fun b hb o e=>(hs9.2 b (fpD b hb)).trans e
 exact codeAny_compStart_list (loop _ rfl) (T.self _ 0 _ _ _ (T.keep _ _ _ st fun b _ o e=>old b o e) (loop _ rfl))
theorem pe_comp {wi:TI}(S:9e6)(hc:9e9)(hi:PI X tg iter wi)
  (bG:∀C s₀ H₀ ex pn,PG 1e3 tg g) (bT:∀C s₀ H₀ ex pn,PTs 1e3 ifs tt) (bE:∀C s₀ H₀ ex pn,PE 1e3 elt te)
  (hs:∀x,Y4 iter X.env x=pure x:=by intro _;rfl):
  PE X 10e6 (tComp wi vs fr g tt te):=by
 sleep 12
 rw[eval_ListComp]
 refine Wp (use:=none) rfl hs (ZbX (S.clos I.ok)) S.kind S.loc' (thn (hi pins s σ H _ I h) fun v s1 h1=>thn h1 fun itv s2 h2=>?_)
 obtain ⟨it,fp,tn,J,H2,e,I2,T,st2,f2,q2⟩:=h2
 subst e
 refine ZdD (RR:=fun acc C=>compPost 2e4 X.A X.xe none (EP X pins σ Q) acc C) S hc bG bT bE I2 T st2 f2 q2 ?_
 intro D C H' s' m' I' hq hn hC hle
 refine ⟨m',hn,fun h' hs'=>⟨.ref D,H',?_,rfl,hq⟩⟩
 refine I'.turned (t':=s'.toks) (fun b o hb e=>(hs'.2 b hb).trans e) hC ?_ (.inr (YR I2.sz hle)) ?_ ?_
 ·exact X0 (Yk I2.lt hle)
 ·intro x c e
  obtain ⟨v,z⟩:=I2.cell x c e
  exact Yq (Yk z.lt hle)
 ·intro p hp
  exact ZaO (I2.pin p hp).1 hle
theorem ps_comp {wi:TI}{i:Nat}{x:Str}{px spos:Pos}(hN:X.N.Nodup)(hx:X.N[i]? = some x)(hl:X.env.scope.names.lookup x=some .local)
  (S:9e6) (hc:9e9) (hi:PI X tg iter wi)
  (bG:∀C s₀ H₀ ex pn,PG 1e3 tg g) (bT:∀C s₀ H₀ ex pn,PTs 1e3 ifs tt) (bE:∀C s₀ H₀ ex pn,PE 1e3 elt te)
  (hsw:WJ 10e6 (some (.Name x px)) spos.line X.env=pure true:=by rfl)
  (hs:∀x,Y4 iter X.env x=pure x:=by intro _;rfl):
  PS X (.Assign [.Name x px] 10e6 spos) (fun D σ H=>tComp wi vs fr g tt te σ H fun v H1=>D.nx (σ.set i (some v)) H1):=by
 intro pins s σ H D I h
 rw[exec_Assign_Name_used _ _ _ _ hsw]
 refine Ya (XY (Ya ?_))
 show wpAny _ X.A (do let _ ←comprehension 10e6 scope X.env _ (newList []) false (eval iter X.env) (some (assign (.Name x px) X.env))) _ _ s
 refine Ya (Y0 (Wp (use:=some (assign (.Name x px) X.env)) (Q:=fun _ s'=>SP X pins D .next s') rfl hs (ZbX (S.clos I.ok)) S.kind S.loc'
  (thn (hi pins s σ H _ I h) fun v s1 h1=>thn h1 fun itv s2 h2=>?_)) (fun _ s' hq=>Yc (Yc hq)) fun _ _ e=>e)
 obtain ⟨it,fp,tn,J,H2,e,I2,T,st2,f2,q2⟩:=h2
 subst e
 refine ZdD (RR:=fun acc C=>compPost 2e4 X.A X.xe (some (assign (.Name x px) X.env)) (fun _ s'=>SP X pins D .next s') acc C) (Q:=fun v H1=>D.nx (σ.set i (some v)) H1) S hc bG bT bE I2 T st2 f2 q2 ?_
 intro Dd C H' s' m' I' hq hn hC hle
 show wpAny _ X.A (assign (.Name x px) X.env (.ref Dd)) _ _ _
 have hCL:C≠X.env.locals:=X0 (Yk I2.lt hle)
 have hCc:∀x c,X.env.cells.lookup x=some c->c≠C:=fun x c e=>by
  obtain ⟨v,z⟩:=I2.cell x c e
  exact Yq (Yk z.lt hle)
 refine wpAny_assign_Name (store_ok2 I' hN hx (.inl hl) (v:=.ref Dd) rfl (fun s'' I'' hch=>?_) (.inr hl))
 obtain ⟨a,hs'',ha⟩:=hch
 have hCa:C≠a:=by
  rcases ha with rfl | ha
  ·exact hCL
  ·exact Xw (hCc x a ha)
 refine ⟨m',hn.sameBut hs'' hCa,fun h' hs'=>⟨σ.set i (some (.ref Dd)),H',?_,hq⟩⟩
 refine I''.turned (t':=s''.toks) (fun b o hb e=>(hs'.2 b hb).trans e) hC hCL (.inr (YR I2.sz hle)) hCc ?_
 intro p hp
 exact ZaO (I2.pin p hp).1 hle
end
section
variable {prog:YC}{w:World}{A:Around}{R:12e3}{s:Shared}
theorem compLoop_anyD {kx vx target iter:Expr}{ifs:5e9}{scope:Scope}{pos:Pos}{it:Value}{D:Addr}{env:Env}(I:Nat->Shared->Prop)
  (turn:∀k z,I k z->wpAny 2e5 A (pyNext it) (fun r z1=>match r with
   | none=>R (.ok .next) z1
   | some v=>wpAny 2e5 A (X4 target it v) (fun _ z2=>wpAny 2e5 A (assign target env v) (fun _ z3=>wpAny 2e5 A (testsOf env ifs) (fun yes z4=>
     if yes=true then wpAny 2e5 A (eval kx env) (fun x z5=>wpAny 2e5 A (eval vx env) (fun y z6=>wpAny 2e5 A (dictSet D x y) (fun _ z7=>∃m,m < k/\I m z7) (Out prog w A env R) z6) (Out prog w A env R) z5) (Out prog w A env R) z4
     else ∃m,m < k/\I m z4) (Out prog w A env R) z3) (Out prog w A env R) z2) (Out prog w A env R) z1) (Out prog w A env R) z)
  (n:Nat) (h:I n s):XU 2e5 A (.compLoop (.DictComp kx vx [⟨target,iter,ifs,0⟩] scope pos) 0 it (.ref D) env) R s:=by
 refine Ux rfl I ?_ n h
 intro k z hz
 refine UN ?_
 rw[compTurn_dict]
 apply Ya
 apply XY
 apply Ya
 refine Y0 (turn k z hz) ?_ fun _ _ e=>e
 rintro (_ | v) z1 y1
 ·exact Yc y1
 apply Ya
 refine Y0 y1 (fun _ z2 y2=>?_) fun _ _ e=>e
 apply Ya
 refine Y0 y2 (fun _ z3 y3=>?_) fun _ _ e=>e
 apply Ya
 refine Y0 y3 (fun yes z4 y4=>?_) fun _ _ e=>e
 by_cases b:yes=true
 ·subst b
  apply Ya
  apply Ya
  refine Y0 y4 (fun x z5 y5=>?_) fun _ _ e=>e
  apply Ya
  apply Xc
  refine Y0 y5 (fun y z6 y6=>?_) fun _ _ e=>e
  apply Ya
  apply XY
  apply Xc
  exact Y0 y6 (fun _ z7 y7=>Yc ⟨rfl,y7⟩) fun _ _ e=>e
 ·have nb:yes=false:=by simpa using b
  subst nb
  exact Yc ⟨rfl,y4⟩
end
section
variable {X:Cx}{pins:2e0}{σ:St}{H:Hp}{s:Shared}{a:Addr}{y v:V}{u r:Value}{A:Around}{E:1e5}
theorem d_dictSet {H':Hp}{Q:Unit->Shared->Prop}(hu:A.units + 1 < cLine)(I:2e3)(g:DPut H a y v H')(ry:RelV y u)(rv:RelV v r)(h:∀s',Inv X pins σ H' s'->Q () s'):
  wpAny 2e4 A (dictSet a u r) Q E s:=by
 rcases g with ⟨kvs,k,e,ey,l,eH⟩ | ⟨kvs,k,b,e,ey,eb,l,eH⟩
 ·subst ey eH
  obtain ⟨z,hd,vs,rel,dd⟩:=dk_of I.hok e
  have hz:vs.length<=sizeLine:=by rw[←rel.length];exact z
  have hl:(putK kvs k v).length<=sizeLine:=by have:=Zbx kvs k v;lia
  refine wpAny_dictSet_pairs (hsz:=hz) (kV_is ry) dd fun h' dd' hs=>h _ ?_
  have he:∃q,h'.get? a=some q:=let ⟨q,_,_,hq,_⟩:=dd';⟨q,hq⟩
  exact d_write I (by rw[e];exact WE) hs he (dk_new hl hd (rel.put k rv) dd')
 ·subst ey eH
  cases (show u=YF b from ry)
  obtain ⟨z,hd,xs,rel,dd⟩:=dt_of I.hok e
  have hz:xs.length<=sizeLine:=by rw[←Vd rel];exact z
  have hl:(putK kvs k v).length<=sizeLine:=by have:=Zbx kvs k v;lia
  refine wpAny_dictSet_heap (hsz:=hz) (show (WI (mixKind X.prog X.w)).room A from by show A.units < cLine;lia) (ZcA I.hok eb) dd fun h' dd' hs=>h _ ?_
  obtain ⟨q,es,ep,hq,h2,h3,h4,_,h5⟩:=dd'
  refine d_write I (by rw[e];exact WE) hs ⟨q,hq⟩ ⟨hl,hd,_,(rel.put k eb rv).keeps fun c ys ec=>?_,q,es,ep,hq,h2,h3,h4,h5⟩
  rw[Zax (ne_of ec e (fun z=>nomatch z))]
  exact ec
end
def CompWD (J:It)(vs:5e6)(fr:11e8)(g:TG)(tt:TT)(tk te:TE)(σ:St)(H1:Hp)(Q:VK):Prop:=
 ∀D,H1 D=none->∃W:Nat->Nat->St->Hp->Prop,(∃m,W 0 m (stIn vs fr σ) (upd H1 D (.dT [])))/\∀i m σ' H,W i m σ' H->
  (J.stop i H/\Q (.ref D) H)\/
  (J.go i H/\∃N:St->Hp->Prop,(∀σ2 H2,N σ2 H2->∃m',m' < m/\W (i + 1) m' σ2 H2)/\∀x H',J.yld i H x H'->g x σ' H' fun σ2 H2=>tt σ2 H2 fun b H3=>
   if b=true then tk σ2 H3 fun y H4=>te σ2 H4 fun v H5=>∃H6,DPut H5 D y v H6/\N σ2 H6 else N σ2 H3)
def tCompD (wi:TI)(vs:5e6)(fr:11e8)(g:TG)(tt:TT)(tk te:TE):TE:=fun σ H Q=>wi σ H fun J H1=>CompWD J vs fr g tt tk te σ H1 Q
section
variable {X:Cx}{tg kx vx iter:Expr}{ifs:5e9}{scope:Scope}{pos:Pos}{vs fs:5e6}{fr:11e8}{g:TG}{tt:TT}{tk te:TE}
theorem ZdE {pins:2e0}{σ σ':St}{H H':Hp}{s s':Shared}{fp:3e7}{C:Addr}{pl:2e0}(I:2e3)
  (hf:∀b∈fp,FpOk X pins H b) (J:Inv (CompCx X (vs++fs) scope C s H fp (X.pn++pins)) pl σ' H' s'):Inv X pins σ H' s':=by
 have u:Un (frs X.stack) fp H H' s.heap s'.heap:=J.base
 refine I.call' (ch:=fp) J.os u J.hok J.bare fun b hb=>?_
 obtain ⟨f0,f1,f2,f3,f4,f5⟩:=hf b hb
 exact ⟨f3,f1,f4,f5⟩
theorem comp_blockD {pins:2e0}{σ:St}{H:Hp}{s:Shared}{Q:VK}{it:Addr}{fp:3e7}{tn:Nat->Heap->Prop}{J:It}{RR:Value->Addr->Result->Shared->Prop}
  (S:9e6) (hc:9e9) (hu:X.A.units + 1 < cLine)
  (bG:∀C s₀ H₀ ex pn,PG 1e3 tg g) (bT:∀C s₀ H₀ ex pn,PTs 1e3 ifs tt) (bK:∀C s₀ H₀ ex pn,PE 1e3 kx tk) (bE:∀C s₀ H₀ ex pn,PE 1e3 vx te)
  (I:2e3) (T:Turn X.prog X.w X.K tg J fp it tn) (st:tn 0 s.heap) (hf:∀b∈fp,FpOk X pins H b)
  (q:CompWD J vs fr g tt tk te σ H Q)
  (hRR:∀D C H' s' m',Inv X pins σ H' s'->Q (.ref D) H'->s'.heap.Ns C m'->H' C=none->s.heap.objs.size<=C->RR (.ref D) C (.ok .next) s'):
  wpAny 2e4 X.A newDict (fun acc s₃=>wpAny 2e4 X.A (newFunctionEnv scope X.env.globals 12e1 [] X.env.qual none .none (some X.env)) (fun cenv s₄=>
   XU (model X.prog X.w) X.A (.compStart (.DictComp kx vx [⟨tg,iter,ifs,0⟩] scope pos) 0 (.ref it) acc { cenv with scope:=relabel scope X.env }) (RR acc cenv.locals) s₄) X.xe s₃) X.xe s:=by
 have hDn:H s.heap.objs.size=none:=I.hok.fresh (Yj _)
 obtain ⟨W,⟨m0,w0⟩,turn⟩:=q s.heap.objs.size hDn
 have I':=I.laid (a:=s.heap.objs.size) (o:=.dT []) (t':=s.toks) (fun _ _ q=>Yb _ q) (Yj _) (dt_empty s.heap I.big)
 have hfo0:∀b∈fp,∃o,s.heap.get? b=some o:=fun b hb=>by obtain ⟨o,e,_⟩:=T.obj 0 _ st b hb;exact ⟨o,e⟩
 have fpD:∀b∈fp,b≠s.heap.objs.size:=fun b hb=>by obtain ⟨o,e⟩:=hfo0 b hb;exact ZaO e (Yj _)
 have hf':∀b∈fp,FpOk X pins (upd H s.heap.objs.size (.dT [])) b:=fun b hb=>by
  obtain ⟨f0,f1,f2,f3,f4,f5⟩:=hf b hb
  exact ⟨by rw[Zax (fpD b hb)];exact f0,f1,f2,f3,f4,f5⟩
 refine Xy (VC S.cell' (by intro y hy;simp at hy) (fun h₁ hns₁ hsb₁=>?_) S.kind)
 dsimp only at hns₁ hsb₁ ⊢
 generalize hH2:s.heap.push { cls:=.type "dict",data:=.dict #[] }=H2 at hns₁ hsb₁ I' ⊢
 have hCs:H2.objs.size=s.heap.objs.size + 1:=by rw[←hH2,Vs]
 have old:∀b o,H2.get? b=some o->h₁.get? b=some o:=fun b o e=>hsb₁.extBut b o (ZaO e (Yj _)) (Yb _ e)
 have old0:∀b o,s.heap.get? b=some o->H2.get? b=some o:=fun b o e=>by rw[←hH2];exact Yb _ e
 have hfo:∀b∈fp,∃o,H2.get? b=some o:=fun b hb=>by obtain ⟨o,e⟩:=hfo0 b hb;exact ⟨o,old0 b o e⟩
 generalize hs2:({ s with heap:=H2,toks:=s.toks }:Shared)=s2 at I'
 have es2:s2.heap=H2:=by rw[←hs2]
 generalize hY:CompCx X (vs++fs) scope H2.objs.size s2 (upd H s.heap.objs.size (.dT [])) fp (X.pn++pins)=Y
 have J0:Inv Y [] (stIn vs fr σ) (upd H s.heap.objs.size (.dT [])) { s with heap:=h₁,toks:=s.toks + ([]:List (Str×Value)).length }:=by
  rw[←hY]
  have:=Zcv (tk:=s.toks + ([]:List (Str×Value)).length) S I' hf' (by rw[es2];exact hfo) (by rw[es2];exact Yj _) hns₁ (by rw[es2];exact old)
  rw[←hs2] at this ⊢;exact this
 have hG:PG Y tg g:=by rw[←hY];exact bG _ _ _ _ _
 have hT:PTs Y ifs tt:=by rw[←hY];exact bT _ _ _ _ _
 have hK:PE Y kx tk:=by rw[←hY];exact bK _ _ _ _ _
 have hE:PE Y vx te:=by rw[←hY];exact bE _ _ _ _ _
 have ePr:Y.prog=X.prog:=by rw[←hY];rfl
 have eW:Y.w=X.w:=by rw[←hY];rfl
 have eK:Y.K=X.K:=by rw[←hY];rfl
 have eA:Y.A=X.A:=by rw[←hY];rfl
 have eC:Y.calm=true:=by rw[←hY];exact hc
 have eEnv:Y.env=UI scope 12e1 H2.objs.size X.env:=by rw[←hY];rfl
 have eL:Y.env.locals=H2.objs.size:=by rw[eEnv];rfl
 have eX:Y.xe=fun _ _=>False:=by rw[←hY];rfl
 have eEx:Y.ex=fp:=by rw[←hY];rfl
 have eFs:Y.fs=frs X.stack:=by rw[←hY];rfl
 have ePn:Y.pn=X.pn++pins:=by rw[←hY];rfl
 have eCl:∀x c,Y.env.cells.lookup x=some c->X.env.cells.lookup x=some c:=fun x c e=>by
  rw[eEnv] at e;exact S.cl I.ok e
 have stat:∀{H':Hp},12e0->∀b∈fp,FpOk Y [] H' b:=fun {H'} hn b hb=>by
  obtain ⟨f0,f1,f2,f3,f4,f5⟩:=hf b hb
  obtain ⟨ob,e⟩:=hfo b hb
  refine ⟨hn b hb,by rw[eL];exact ZaO e (Yj _),fun z=>?_,.inl (by rw[eEx];exact hb),fun x c e=>f4 x c (eCl x c e),fun p hp=>?_⟩
  ·rw[eFs] at z
   rcases Yn.mp (I.stkSub _ z) with z | z
   ·exact f1 z
   ·exact f2 z
  ·rw[YJ,ePn] at hp;exact f5 p hp
 have loop:∀s₃:Shared,s₃={ s with heap:=h₁,toks:=s.toks + ([]:List (Str×Value)).length }->
   XU 2e4 X.A (.compLoop (.DictComp kx vx [⟨tg,iter,ifs,0⟩] scope pos) 0 (.ref it) 9e5 (UI scope 12e1 H2.objs.size X.env))
    (RR 9e5 H2.objs.size) s₃:=by
  rintro s₃ rfl
  rw[←eEnv,←ePr,←eW,←eA]
  refine compLoop_anyD (fun n s'=>∃i σ' H',Inv Y [] σ' H' s'/\tn i s'.heap/\12e0/\W i n σ' H') ?_ m0
   ⟨0,_,_,J0,T.keep _ _ _ st fun b _ o e=>old b o (old0 b o e),fun b hb=>(hf' b hb).1,w0⟩
  rintro n s3 ⟨i,σ3,H3,J3,st3,fr3,w3⟩
  rcases turn i n σ3 H3 w3 with ⟨stop,qn⟩ | ⟨go,N,hN,step⟩
  ·have dn:=T.done Y ePr eW eK eC i _ s3 σ3 H3 (fun _ _=>False) J3 (stat fr3) st3 stop
   rw[←ePr,←eW] at dn
   refine Za7 dn fun r s4 h_=>?_
   obtain ⟨hr,J4⟩:=h_
   subst hr
   obtain ⟨m4,hm4,_⟩:=id J4.loc
   rw[eL] at hm4
   have nC:H3 H2.objs.size=none:=by rw[←eL];exact J4.free
   exact hRR _ _ _ s4 m4 (ZdE I' hf' (by rw[hY];exact J4)) qn hm4 nC (by rw[hCs];exact Ug _)
  ·have im:=T.item Y ePr eW eK eC i _ s3 σ3 H3 (fun _ _=>False) J3 (stat fr3) st3 go
   rw[←ePr,←eW] at im
   refine Za7 im fun r s4 h_=>?_
   obtain ⟨u,hr,h4⟩:=h_
   subst hr
   refine Za7 h4 fun _ s5 h_=>?_
   obtain ⟨x,H5,J5,r5,y5,st5,fr5⟩:=h_
   have J5':=J5.pinned (stat fr5) (T.obj _ _ st5)
   have go1:=hG _ s5 σ3 H5 x u _ J5' r5 (step x H5 y5)
   rw[eX] at go1
   refine Za7 go1 fun _ s6 h_=>?_
   obtain ⟨σ6,H6,J6,q6⟩:=h_
   have go2:=hT _ s6 σ6 H6 _ J6 q6
   rw[eX] at go2
   refine Za7 go2 fun ok s7 h_=>?_
   obtain ⟨H7,J7,q7⟩:=h_
   have fin:∀{σ8:St} {H8:Hp} {s8:Shared},Inv Y ([]++pinsAt fp s5.heap) σ8 H8 s8->
     tn (i + 1) s8.heap/\(∀b∈fp,H8 b=none):=fun {σ8 H8 s8} J8=>by
    refine ⟨T.keep _ _ _ st5 fun b hb o e=>(J8.pin (b,o) (Ye _ (Ye _ (ZaW hb e)))).1,fun b hb=>?_⟩
    obtain ⟨o,e,d⟩:=T.obj _ _ st5 b hb
    exact (J8.pin (b,o) (Ye _ (Ye _ (ZaW hb e)))).2.1
   cases ok with
   | false=>
    rw[if_neg Yu] at q7 ⊢
    obtain ⟨m',hm,w7⟩:=hN _ _ q7
    exact ⟨m',hm,i + 1,σ6,H7,J7.unpinned,(fin J7).1,(fin J7).2,w7⟩
   | true=>
    rw[if_pos rfl] at q7 ⊢
    have go3:=hK _ s7 σ6 H7 _ J7 q7
    rw[eX] at go3
    refine Za7 go3 fun kv s8 h_=>?_
    obtain ⟨y,H8,J8,r8,q8⟩:=h_
    have go4:=hE _ s8 σ6 H8 _ J8 q8
    rw[eX] at go4
    refine Za7 go4 fun vv s9 h_=>?_
    obtain ⟨v,H9,J9,r9,H10,pt,n10⟩:=h_
    obtain ⟨m',hm,w10⟩:=hN _ _ n10
    exact d_dictSet (by rw[eA];exact hu) J9 pt r8 r9 fun s10 J10=>⟨m',hm,i + 1,σ6,H10,J10.unpinned,(fin J10).1,(fin J10).2,w10⟩
 exact codeAny_compStart_dict (loop _ rfl) (T.self _ 0 _ _ _ (T.keep _ _ _ st fun b _ o e=>old b o (old0 b o e)) (loop _ rfl))
end
section
variable {X:Cx}{tg kx vx iter:Expr}{ifs:5e9}{scope:Scope}{pos:Pos}{vs fs:5e6}{fr:11e8}{g:TG}{tt:TT}{tk te:TE}
theorem pe_compD {wi:TI}(S:9e6)(hc:9e9)(hu:X.A.units + 1 < cLine)(hi:PI X tg iter wi)
  (bG:∀C s₀ H₀ ex pn,PG 1e3 tg g) (bT:∀C s₀ H₀ ex pn,PTs 1e3 ifs tt) (bK:∀C s₀ H₀ ex pn,PE 1e3 kx tk) (bE:∀C s₀ H₀ ex pn,PE 1e3 vx te)
  (hs:∀x,Y4 iter X.env x=pure x:=by intro _;rfl):
  PE X (.DictComp kx vx [⟨tg,iter,ifs,0⟩] scope pos) (tCompD wi vs fr g tt tk te):=by
 sleep 12
 rw[arm_eval_DictComp]
 refine Wp (use:=none) rfl hs (ZbX (S.clos I.ok)) S.kind S.loc' (thn (hi pins s σ H _ I h) fun v s1 h1=>thn h1 fun itv s2 h2=>?_)
 obtain ⟨it,fp,tn,J,H2,e,I2,T,st2,f2,q2⟩:=h2
 subst e
 refine comp_blockD (RR:=fun acc C=>compPost 2e4 X.A X.xe none (EP X pins σ Q) acc C) S hc hu bG bT bK bE I2 T st2 f2 q2 ?_
 intro D C H' s' m' I' hq hn hC hle
 refine ⟨m',hn,fun h' hs'=>⟨.ref D,H',?_,rfl,hq⟩⟩
 refine I'.turned (t':=s'.toks) (fun b o hb e=>(hs'.2 b hb).trans e) hC ?_ (.inr (YR I2.sz hle)) ?_ ?_
 ·exact X0 (Yk I2.lt hle)
 ·intro x c e
  obtain ⟨v,z⟩:=I2.cell x c e
  exact Yq (Yk z.lt hle)
 ·intro p hp
  exact ZaO (I2.pin p hp).1 hle
end
section
variable {X:Cx}
def Its (z:Str):It:=⟨fun i _=>i < z.cps.size,fun i H x H'=>H'=H/\∃c,z.cps[i]? = some c/\x=.str ⟨#[c]⟩,fun i _=>i=z.cps.size⟩
theorem turn_str {P:YC}{w:World}{K:W.Frag}{tg:Expr}{it:Addr}{z:Str}{t:Tok}{ty:String}(hty:ty="str_ascii_iterator"\/ty="str_iterator"):Turn P w K tg (Its z) [it] it (fun i h=>h.IsStrIter it ty z t i) where
 mem:=by simp
 obj:=fun i h st b hb=>by
  have e:b=it:=by simpa using hb
  subst e
  obtain ⟨o,e,c,d⟩:=st
  exact ⟨o,e,fun v z=>by rw[d] at z;cases z⟩
 keep:=fun i h h' st k=>by
  obtain ⟨o,e,c,d⟩:=st
  exact ⟨o,k it 3e8 o e,c,d⟩
 item:=by
  sleep 3
  obtain ⟨f0,f1,f2,f3,f4,f5⟩:=hf it 3e8
  have fin:∀v h' tk,SignAt z i v->h'.IsStrIter it ty z t (i + 1)->(∀b o,b∉[it]->s.heap.get? b=some o->h'.get? b=some o)->
    ∃u,some v=some u/\wpAny 2e4 X.A (X4 tg (.ref it) u) (fun _ s2=>∃x H',Inv X pins σ H' s2/\RelV x u/\(Its z).yld i H x H'/\s2.heap.IsStrIter it ty z t (i + 1)/\∀b∈[it],H' b=none) E { s with heap:=h',toks:=tk }:=fun v h' tk hv st' kk=>by
   obtain ⟨c,u,hcx,rfl⟩:=hv
   have I1:Inv X pins σ H { s with heap:=h',toks:=tk }:=I.turned (fun b o hb e=>kk b o (by simpa using hb) e) f0 f1 f3 f4 f5
   obtain ⟨o,e,oc,d⟩:=id st'
   refine ⟨_,rfl,go_of (s:={ s with heap:=h',toks:=tk }) e oc d (by rcases hty with rfl | rfl<;>decide) ⟨.str ⟨#[c]⟩,H,I1,⟨u,rfl⟩,⟨rfl,c,hcx,rfl⟩,st',fun b hb=>(hf b hb).1⟩⟩
  rcases hty with rfl | rfl
  ·exact (Walks.strAscii (prog:=X.prog) (w:=X.w) (I.ok.hd hc) it z t).item i s _ _ hg st fin
  ·exact (Walks.strWide (prog:=X.prog) (w:=X.w) (I.ok.hd hc) it z t).item i s _ _ hg st fin
 done:=by
  sleep 3
  obtain ⟨f0,f1,f2,f3,f4,f5⟩:=hf it 3e8
  have hg:i=z.cps.size:=hg
  subst hg
  have fin:∀h' tk,(∀b o,b∉[it]->s.heap.get? b=some o->h'.get? b=some o)->(none:Option Value)=none/\Inv X pins σ H { s with heap:=h',toks:=tk }:=fun h' tk kk=>
   ⟨rfl,I.turned (fun b o hb e=>kk b o (by simpa using hb) e) f0 f1 f3 f4 f5⟩
  rcases hty with rfl | rfl
  ·exact (Walks.strAscii (prog:=X.prog) (w:=X.w) (I.ok.hd hc) it z t).done s _ _ st fin
  ·exact (Walks.strWide (prog:=X.prog) (w:=X.w) (I.ok.hd hc) it z t).done s _ _ st fin
 self:=fun _ _ _ _ _ st h=>by
  rcases hty with rfl | rfl
  ·exact wpAny_pyIter_striter_ascii st h
  ·exact wpAny_pyIter_striter_wide st h
end
end L2
namespace Se
open PySem PySem.SetTable
def adv (mask:Nat)(p:Probe):Probe:=
 if p.more > 0 then { p with j:=p.j + 1,more:=p.more - 1 } else
 { p with j:=(leap mask p.i p.perturb).1,more:=runEnd mask (leap mask p.i p.perturb).1 - (leap mask p.i p.perturb).1,i:=(leap mask p.i p.perturb).1,perturb:=(leap mask p.i p.perturb).2 }
theorem adv_eq (t:XH)(p:Probe):t.advance p=adv t.mask p:=by unfold SetTable.advance adv;rfl
def it (mask:Nat):Nat->Probe->Probe
 | 0,p=>p
 | n + 1,p=>it mask n (adv mask p)
theorem it_succ (mask n:Nat):∀p,it mask (n + 1) p=adv mask (it mask n p):=by
 induction n with
 | zero=>intro p;rfl
 | succ n ih=>intro p;exact ih (adv mask p)
theorem ZcB (mask a:Nat):∀(b:Nat) (p:Probe),it mask (a + b) p=it mask b (it mask a p):=by
 induction a with
 | zero=>intro b p;rw[WQ];rfl
 | succ a ih=>intro b p;rw[Nat.succ_add];exact ih b (adv mask p)
def inRun (mask i d pt:Nat):Probe:={ j:=i + d,more:=runEnd mask i - i - d,i:=i,perturb:=pt,dummy:=none }
def len (mask i:Nat):Nat:=runEnd mask i - i
theorem len_le (mask i:Nat):len mask i<=9:=by unfold len runEnd;split<;>lia
theorem adv_in {mask i d pt:Nat}(h:d < len mask i):adv mask (inRun mask i d pt)=inRun mask i (d + 1) pt:=by
 unfold len at h
 unfold adv inRun
 dsimp only
 rw[if_pos 1e2]
 have e1:i + d + 1=i + (d + 1):=by lia
 have e2:runEnd mask i - i - d - 1=runEnd mask i - i - (d + 1):=by lia
 rw[e1,e2]
theorem adv_out {mask i d pt:Nat}(h:d=len mask i):adv mask (inRun mask i d pt)=inRun mask (leap mask i pt).1 0 (leap mask i pt).2:=by
 unfold len at h
 unfold adv inRun
 dsimp only
 rw[if_neg 1e2]
 rfl
theorem it_in {mask i pt:Nat}:∀(k d:Nat),d + k<=len mask i->it mask k (inRun mask i d pt)=inRun mask i (d + k) pt
 | 0,d,_=>rfl
 | k + 1,d,h=>by
  show it mask k (adv mask (inRun mask i d pt))=_
  rw[adv_in 1e2,it_in k (d + 1) 1e2]
  have e:d + 1 + k=d + (k + 1):=by lia
  rw[e]
theorem it_next {mask i d pt:Nat}(h:d<=len mask i):it mask (len mask i - d + 1) (inRun mask i d pt)=inRun mask (leap mask i pt).1 0 (leap mask i pt).2:=by
 rw[it_succ,it_in _ _ 1e2,adv_out 1e2]
def lp (mask:Nat):Nat->Nat×Nat->Nat×Nat
 | 0,p=>p
 | n + 1,p=>lp mask n (leap mask p.1 p.2)
theorem it_lp (mask:Nat):∀(k i pt:Nat),∃c,c<=10 * k/\it mask c (inRun mask i 0 pt)=inRun mask (lp mask k (i,pt)).1 0 (lp mask k (i,pt)).2
 | 0,i,pt=>⟨0,YV _,rfl⟩
 | k + 1,i,pt=>by
  obtain ⟨c,hc,e⟩:=it_lp mask k (leap mask i pt).1 (leap mask i pt).2
  refine ⟨(len mask i - 0 + 1) + c,?_,?_⟩
  ·have:=len_le mask i;lia
  ·rw[ZcB,it_next (YV _),e];rfl
theorem lp_add (mask a:Nat):∀(b:Nat) (p:Nat×Nat),lp mask (a + b) p=lp mask b (lp mask a p):=by
 induction a with
 | zero=>intro b p;rw[WQ];rfl
 | succ a ih=>intro b p;rw[Nat.succ_add];exact ih b _
theorem lp_pt (mask:Nat):∀(k i pt:Nat),(lp mask k (i,pt)).2=pt / 32 ^ k
 | 0,i,pt=>by simp[lp]
 | k + 1,i,pt=>by
  show (lp mask k (leap mask i pt)).2=_
  have:leap mask i pt=((i * 5 + 1 + pt / 32) % (mask + 1),pt / 32):=rfl
  rw[this,lp_pt mask k,Nat.div_div_eq_div_mul,Nat.pow_succ,Nat.mul_comm]
theorem lp_lt (mask:Nat):∀(k i pt:Nat),i < mask + 1->(lp mask k (i,pt)).1 < mask + 1
 | 0,i,pt,h=>h
 | k + 1,i,pt,h=>lp_lt mask k _ _ (VJ _ (V2 _))
def f (mask i:Nat):Nat:=(i * 5 + 1) % (mask + 1)
def fk (mask:Nat):Nat->Nat->Nat
 | 0,i=>i
 | n + 1,i=>fk mask n (f mask i)
theorem lp_zero (mask:Nat):∀(k i:Nat),lp mask k (i,0)=(fk mask k i,0)
 | 0,i=>rfl
 | k + 1,i=>by
  show lp mask k (leap mask i 0)=_
  have:leap mask i 0=(f mask i,0):=by simp[leap,f]
  rw[this,lp_zero mask k];rfl
theorem fk_add (mask a:Nat):∀(b i:Nat),fk mask (a + b) i=fk mask b (fk mask a i):=by
 induction a with
 | zero=>intro b i;rw[WQ];rfl
 | succ a ih=>intro b i;rw[Nat.succ_add];exact ih b _
def Mk (mask:Nat):Prop:=mask=7\/mask=31\/mask=127
def orb (mask:Nat):Nat->Nat->List Nat
 | 0,_=>[]
 | n + 1,i=>i::orb mask n (f mask i)
theorem orb_get (mask:Nat):∀(n i j:Nat),j∈orb mask n i->∃k,k < n/\fk mask k i=j
 | 0,i,j,h=>by cases h
 | n + 1,i,j,h=>by
  rcases Yn.mp h with rfl | h
  ·exact ⟨0,by lia,rfl⟩
  ·obtain ⟨k,hk,e⟩:=orb_get mask n _ _ h
   exact ⟨k + 1,by lia,e⟩
theorem orb_all {mask:Nat}(h:Mk mask):(Yl (mask + 1)).all (fun j=>(orb mask (mask + 1) 0).elem j)=true/\fk mask (mask + 1) 0=0:=by
 rcases h with rfl | rfl | rfl<;>exact ⟨by decide +kernel,by decide +kernel⟩
theorem from0 {mask j:Nat}(h:Mk mask)(hj:j < mask + 1):∃k,k < mask + 1/\fk mask k 0=j:=by
 have:=YW.mp (orb_all h).1 j (Y1.mpr hj)
 exact orb_get mask _ _ _ (List.elem_iff.mp this)
theorem goes {mask i j:Nat}(h:Mk mask)(hi:i < mask + 1)(hj:j < mask + 1):∃k,k < mask + 1/\fk mask k i=j:=by
 obtain ⟨a,ha,ea⟩:=from0 h hi
 obtain ⟨b,hb,eb⟩:=from0 h hj
 by_cases hab:a<=b
 ·refine ⟨b - a,by lia,?_⟩
  rw[←ea,←fk_add,show a + (b - a)=b by lia,eb]
 ·refine ⟨b + (mask + 1) - a,by lia,?_⟩
  rw[←ea,←fk_add,show a + (b + (mask + 1) - a)=(mask + 1) + b by lia,fk_add,(orb_all h).2,eb]
theorem meets {mask i d pt j:Nat}(h:Mk mask)(hd:d<=len mask i)(hpt:pt < 2 ^ 64)(hj:j < mask + 1):∃k,k < 10 * turns mask/\(it mask k (inRun mask i d pt)).j=j:=by
 have e1:=it_next (pt:=pt) hd
 obtain ⟨c,hc,e2⟩:=it_lp mask 13 (leap mask i pt).1 (leap mask i pt).2
 have hz:(lp mask 13 ((leap mask i pt).1,(leap mask i pt).2)).2=0:=by
  rw[lp_pt]
  have:(leap mask i pt).2=pt / 32:=rfl
  rw[this,Nat.div_div_eq_div_mul]
  exact Nat.div_eq_of_lt (Uw hpt 1e1)
 have hl:(lp mask 13 ((leap mask i pt).1,(leap mask i pt).2)).1 < mask + 1:=lp_lt mask 13 _ _ (VJ _ (V2 _))
 generalize lp mask 13 ((leap mask i pt).1,(leap mask i pt).2)=q at hz hl e2
 obtain ⟨i2,pt2⟩:=q
 dsimp only at hz hl e2
 subst hz
 obtain ⟨k,hk,ek⟩:=goes h hl hj
 obtain ⟨c2,hc2,e3⟩:=it_lp mask k i2 0
 rw[lp_zero,ek] at e3
 refine ⟨(len mask i - d + 1) + (c + c2),?_,?_⟩
 ·have:=len_le mask i;unfold turns;lia
 ·rw[ZcB,e1,ZcB,e2,e3];rfl
theorem bits_lt (h:Int):bits h < 2 ^ 64:=by
 unfold bits
 have h1:0<=h % (2 ^ 64:Int):=Xd _ 1e1
 have h2:h % (2 ^ 64:Int) < 2 ^ 64:=Y5 _ 1e1
 lia
def Wf (mask:Nat)(p:Probe):Prop:=∃i d pt,p=inRun mask i d pt/\d<=len mask i/\pt < 2 ^ 64
theorem Wf.adv {mask:Nat}{p:Probe}(h:Wf mask p):Wf mask (adv mask p):=by
 obtain ⟨i,d,pt,rfl,hd,hp⟩:=h
 by_cases e:d=len mask i
 ·rw[adv_out e];exact ⟨_,0,_,rfl,YV _,V1 (Nat.div_le_self _ _) hp⟩
 ·rw[adv_in 1e2];exact ⟨i,d + 1,pt,rfl,by lia,hp⟩
theorem Wf.it {mask:Nat}:∀(n:Nat) {p:Probe},Wf mask p->Wf mask (it mask n p)
 | 0,p,h=>h
 | n + 1,p,h=>Wf.it n h.adv
theorem Wf.start (mask:Nat)(h:Int):Wf mask (inRun mask (bits h % (mask + 1)) 0 (bits h)):=⟨_,0,_,rfl,YV _,bits_lt h⟩
theorem Wf.meets {mask j:Nat}{p:Probe}(w:Wf mask p)(h:Mk mask)(hj:j < mask + 1):∃k,k < 10 * turns mask/\(Se.it mask k p).j=j:=by
 obtain ⟨i,d,pt,rfl,hd,hp⟩:=w
 exact Se.meets h hd hp hj
theorem Wf.dummy {mask:Nat}{p:Probe}(w:Wf mask p):p.dummy=none:=by obtain ⟨i,d,pt,rfl,_⟩:=w;rfl
def Rising (xs:12e6):Prop:=∀(a b:Nat) (x y:Nat),a < b->xs[a]? = some x->xs[b]? = some y->x < y
theorem below_go {xs:12e6}{j:Nat}(hr:Rising xs):∀(fuel lo hi:Nat),lo<=hi->hi<=xs.size->hi - lo<=fuel->(∀k x,k < lo->xs[k]? = some x->x < j)->(∀k x,hi<=k->xs[k]? = some x->j<=x)->
  (∀k x,k < below.go xs j fuel lo hi->xs[k]? = some x->x < j)/\(∀k x,below.go xs j fuel lo hi<=k->xs[k]? = some x->j<=x)/\below.go xs j fuel lo hi<=xs.size
 | 0,lo,hi,h1,h2,h3,ha,hb=>by
  have:hi=lo:=by lia
  subst this
  exact ⟨ha,hb,h2⟩
 | fuel + 1,lo,hi,h1,h2,h3,ha,hb=>by
  unfold below.go
  by_cases hlt:lo < hi
  ·rw[if_pos hlt]
   have hm:(lo + hi) / 2 < xs.size:=by lia
   obtain ⟨v,hv⟩:∃v,xs[(lo + hi) / 2]? = some v:=⟨_,Yg hm⟩
   have hd:xs.getD ((lo + hi) / 2) j=v:=by rw[YI,hv];rfl
   dsimp only
   rw[hd]
   by_cases hj:v < j
   ·rw[if_pos hj]
    refine below_go hr fuel _ hi 1e2 h2 1e2 (fun k x hk hx=>?_) hb
    rcases YH k ((lo + hi) / 2) with q | q
    ·exact Uw (hr k _ x v q hx hv) hj
    ·have:k=(lo + hi) / 2:=by lia
     subst this;rw[hv] at hx;cases hx;exact hj
   ·rw[if_neg hj]
    refine below_go hr fuel lo _ 1e2 1e2 1e2 ha (fun k x hk hx=>?_)
    rcases YH ((lo + hi) / 2) k with q | q
    ·exact XA (V1 (Ul hj) (hr _ k v x q hv hx))
    ·have:k=(lo + hi) / 2:=by lia
     subst this;rw[hv] at hx;cases hx;exact Ul hj
  ·rw[if_neg hlt]
   have:hi=lo:=by lia
   subst this
   exact ⟨ha,hb,h2⟩
theorem ZcN {xs:12e6}(hr:Rising xs)(j:Nat):(∀k x,k < below xs j->xs[k]? = some x->x < j)/\(∀k x,below xs j<=k->xs[k]? = some x->j<=x)/\below xs j<=xs.size:=
 below_go hr _ 0 _ (YV _) (Yj _) 1e2 (fun k x h=>absurd h (X6 _)) (fun k x h e=>by rw[YK h] at e;cases e)
theorem below_at {xs:12e6}(hr:Rising xs){i j:Nat}(e:xs[i]? = some j):below xs j=i:=by
 obtain ⟨h1,h2,h3⟩:=ZcN hr j
 rcases Vo (below xs j) i with q | q | q
 ·obtain ⟨v,hv⟩:∃v,xs[below xs j]? = some v:=by
   have hi:i < xs.size:=by rcases YH i xs.size with z | z;exact z;rw[YK z] at e;cases e
   exact ⟨_,Yg 1e2⟩
  have a:=h2 _ _ (Yj _) hv
  have b:=hr _ _ _ _ q hv e
  lia
 ·exact q
 ·have:=h1 i j q e;lia
theorem Zb8 {t:XH}{i j:Nat}(hr:Rising t.place)(e:t.place[i]? = some j):t.slot j=.live i:=by
 unfold Uh
 rw[below_at hr e]
 dsimp only
 rw[e]
 simp
theorem live_slot {t:XH}{i j:Nat}(e:t.slot j=.live i):t.place[i]? = some j:=by
 unfold Uh at e
 dsimp only at e
 split at e
 ·rename_i h;cases e;exact eq_of_beq h
 ·split at e<;>cases e
theorem has_none (j:Nat):has #[] j=false:=by unfold has;simp
theorem slot_free {t:XH}{j:Nat}(hd:t.dummies=#[])(hn:∀i:Nat,t.place[i]?≠some j):t.slot j=.empty:=by
 unfold Uh
 dsimp only
 rw[if_neg (by simpa using hn _),hd,has_none]
 simp
theorem free_slot {t:XH}{j:Nat}(hr:Rising t.place)(e:t.slot j=.empty):∀i:Nat,t.place[i]?≠some j:=by
 intro i q
 rw[Zb8 hr q] at e
 cases e
theorem slot_kind {t:XH}(hd:t.dummies=#[])(j:Nat):t.slot j≠.dummy:=by
 unfold Uh
 dsimp only
 rw[hd,has_none]
 split<;>simp
def Sees (t:XH)(hashAt:Nat->Int)(h:Int)(p:Probe)(m:Met):Prop:=
 ∃n,(∀k,k < n->∃i,t.slot (it t.mask k p).j=.live i/\hashAt i≠h)/\
  ((m=.empty (it t.mask n p).j none/\t.slot (it t.mask n p).j=.empty)\/∃i,m=.candidate (it t.mask n p).j i (it t.mask (n + 1) p)/\t.slot (it t.mask n p).j=.live i/\hashAt i=h)
theorem go_sees {t:XH}{hashAt:Nat->Int}{h:Int}(hd:t.dummies=#[]):∀(fuel:Nat) (p:Probe),Wf t.mask p->(∃k,k < fuel/\t.slot (it t.mask k p).j=.empty)->∃m,probe.go t hashAt h fuel p=some m/\Sees t hashAt h p m
 | 0,p,_,hk=>by obtain ⟨k,hk,_⟩:=hk;exact absurd hk (X6 _)
 | fuel + 1,p,w,hk=>by
  unfold probe.go
  cases e:t.slot p.j with
  | empty=>exact ⟨_,rfl,0,fun k hk=>absurd hk (X6 _),.inl ⟨by rw[w.dummy];rfl,e⟩⟩
  | dummy=>exact absurd e (slot_kind hd _)
  | live i=>
   dsimp only
   by_cases q:(hashAt i==h)=true
   ·rw[if_pos q]
    refine ⟨_,rfl,0,fun k hk=>absurd hk (X6 _),.inr ⟨i,?_,e,eq_of_beq q⟩⟩
    rw[adv_eq];rfl
   ·rw[if_neg q,adv_eq]
    obtain ⟨k,hk,ek⟩:=hk
    have k0:k≠0:=by rintro rfl;rw[show (it t.mask 0 p).j=p.j from rfl,e] at ek;cases ek
    obtain ⟨k,rfl⟩:∃k',k=k' + 1:=⟨k - 1,by lia⟩
    obtain ⟨m,em,n,h1,h2⟩:=go_sees hd fuel (adv t.mask p) w.adv ⟨k,by lia,ek⟩
    refine ⟨m,em,n + 1,fun k hk=>?_,h2⟩
    cases k with
    | zero=>exact ⟨i,e,by simpa using q⟩
    | succ k=>exact h1 k 1e2
theorem nd_sub {α:Type} [BEq α] [LawfulBEq α]:∀(l l':List α),l.Nodup->(∀x∈l,x∈l')->l.length<=l'.length
 | [],_,_,_=>YV _
 | x::l,l',hn,hs=>by
  obtain ⟨h1,h2⟩:=Xk.mp hn
  have hx:x∈l':=hs x (.head _)
  have:=nd_sub l (l'.erase x) h2 fun y hy=>(List.mem_erase_of_ne (by rintro rfl;exact h1 hy)).mpr (hs y (.tail _ hy))
  rw[List.length_erase_of_mem hx] at this
  have:=List.length_pos_of_mem hx
  simp only[YX];lia
def start (mask:Nat)(h:Int):Probe:=inRun mask (bits h % (mask + 1)) 0 (bits h)
structure T0 (t:XH)(es:Array (Int×Value)):Prop where
 mm:Mk t.mask
 dm:t.dummies=#[]
 rs:Rising t.place
 sz:t.place.size=es.size
 lt:∀i j:Nat,t.place[i]? = some j->j < t.mask + 1
 rc:∀(i j:Nat) (e:Int×Value),t.place[i]? = some j->es[i]? = some e->∃n,(it t.mask n (start t.mask e.1)).j=j/\∀m,m < n->∃i':Nat,t.place[i']? = some (it t.mask m (start t.mask e.1)).j
structure TI (t:XH)(es:Array (Int×Value)):Prop extends T0 t es where
 fl:es.size * 5 < t.mask * 3
theorem ZcY {xs:12e6}(hr:Rising xs){M:Nat}(h:∀j,j < M->∃i:Nat,xs[i]? = some j):∀j,j < M->∃i:Nat,j<=i/\xs[i]? = some j
 | 0,hj=>by obtain ⟨i,e⟩:=h 0 hj;exact ⟨i,YV _,e⟩
 | j + 1,hj=>by
  obtain ⟨i,hi,e⟩:=ZcY hr h j 1e2
  obtain ⟨i',e'⟩:=h (j + 1) hj
  refine ⟨i',?_,e'⟩
  rcases Vo i i' with q | q | q
  ·lia
  ·subst q;rw[e] at e';exact absurd (YN e') 1e2
  ·have:=hr _ _ _ _ q e' e;lia
theorem Mk.pos {mask:Nat}(h:Mk mask):7<=mask/\mask<=127/\mask % 2=1:=by rcases h with rfl | rfl | rfl<;>decide
theorem T0.room {t:XH}{es:7e5}(T:T0 t es)(hs:es.size < t.mask + 1):∃j,j < t.mask + 1/\t.slot j=.empty:=by
 by_cases h:∃j,j < t.mask + 1/\∀i:Nat,t.place[i]?≠some j
 ·obtain ⟨j,hj,hn⟩:=h;exact ⟨j,hj,slot_free T.dm hn⟩
 ·exfalso
  have h':∀j,j < t.mask + 1->∃i:Nat,t.place[i]? = some j:=fun j hj=>by
   apply Classical.byContradiction;intro q
   exact h ⟨j,hj,fun i e=>q ⟨i,e⟩⟩
  obtain ⟨i,hi,e⟩:=ZcY T.rs h' t.mask 1e2
  have:i < t.place.size:=by
   rcases YH i t.place.size with z | z
   ·exact z
   ·rw[YK z] at e;cases e
  have:=T.sz;lia
theorem TI.few {t:XH}{es:7e5}(T:TI t es):es.size < t.mask:=by have:=T.fl;lia
theorem T0.fits {t:XH}{es:7e5}(T:T0 t es)(h:es.size<=t.mask):t.fits es.size=true:=by
 unfold SetTable.fits SetTable.fill
 rw[T.dm,T.sz]
 simpa using h
theorem ins_get {α:Type}(xs:Array α)(p:Nat)(x:α)(hp:p<=xs.size)(i:Nat):(insertAt xs p x)[i]? = if i < p then xs[i]? else if i=p then some x else xs[i - 1]?:=by
 rw[←Y3,SetTable.toList_insertAt]
 have hl:(xs.toList.take p).length=p:=by simp;lia
 by_cases h:i < p
 ·rw[if_pos h,Yf 1e2,Xh h,Y3]
 ·rw[if_neg h,Y8 1e2,hl]
  by_cases e:i=p
  ·subst e;simp
  ·rw[if_neg e]
   obtain ⟨k,hk⟩:∃k,i - p=k + 1:=⟨i - p - 1,by lia⟩
   rw[hk,List.getElem?_cons_succ,List.getElem?_drop,Y3]
   congr 1;lia
theorem ins_size {α:Type}(xs:Array α)(p:Nat)(x:α):(insertAt xs p x).size=xs.size + 1:=by
 rw[←YG,SetTable.toList_insertAt]
 simp only[Xn,YX,Xl,Vy,YG];lia
theorem T0.put {t:XH}{es:7e5}(T:T0 t es){h:Int}{x:Value}{n:Nat}(hn:(it t.mask n (start t.mask h)).j < t.mask + 1)(hf:t.slot (it t.mask n (start t.mask h)).j=.empty)(hm:∀m,m < n->∃i:Nat,t.place[i]? = some (it t.mask m (start t.mask h)).j):
  ∀t1 p,t.put (it t.mask n (start t.mask h)).j=(t1,p)->p<=es.size/\t1.mask=t.mask/\t1.led=t.led/\T0 t1 (insertAt es p (h,x)):=by
 intro t1 p e
 unfold SetTable.put at e
 dsimp only at e
 rw[T.dm,has_none] at e
 cases e
 have fr:=free_slot T.rs hf
 obtain ⟨b1,b2,b3⟩:=ZcN T.rs (it t.mask n (start t.mask h)).j
 generalize hj:(it t.mask n (start t.mask h)).j=j at *
 generalize hp:below t.place j=p at *
 have hpe:p<=es.size:=by rw[←T.sz];exact b3
 have pg:=ins_get t.place p j b3
 have eg:=ins_get es p (h,x) hpe
 have old:∀i v:Nat,t.place[i]? = some v->(insertAt t.place p j)[if i < p then i else i + 1]? = some v:=fun i v e=>by
  rw[pg]
  by_cases q:i < p
  ·rw[if_pos q,if_pos q];exact e
  ·rw[if_neg q,if_neg 1e2,if_neg 1e2];exact e
 refine ⟨hpe,rfl,rfl,⟨T.mm,rfl,?_,?_,?_,?_⟩⟩
 ·intro a b u v hab hu hv
  have hu:(insertAt t.place p j)[a]? = some u:=hu
  have hv:(insertAt t.place p j)[b]? = some v:=hv
  rw[pg] at hu hv
  split at hu
  ·rename_i ha
   split at hv
   ·exact T.rs _ _ _ _ hab hu hv
   ·split at hv
    ·cases hv;exact b1 _ _ ha hu
    ·have z:=b2 _ _ (show p<=b - 1 by lia) hv
     exact Yk (b1 _ _ ha hu) z
  ·split at hu
   ·cases hu
    rw[if_neg 1e2,if_neg 1e2] at hv
    have z:=b2 _ _ (show p<=b - 1 by lia) hv
    rcases Nat.lt_or_eq_of_le z with q | q
    ·exact q
    ·exact absurd (q ▸ hv) (fr _)
   ·rw[if_neg 1e2,if_neg 1e2] at hv
    exact T.rs _ _ _ _ 1e2 hu hv
 ·show (insertAt t.place p j).size=_
  rw[ins_size,ins_size,T.sz]
 ·intro i v e
  have e:(insertAt t.place p j)[i]? = some v:=e
  rw[pg] at e
  split at e
  ·exact T.lt _ _ e
  ·split at e
   ·cases e;exact hn
   ·exact T.lt _ _ e
 ·intro i v e hv he
  have hv:(insertAt t.place p j)[i]? = some v:=hv
  rw[pg] at hv
  rw[eg] at he
  have keep:(∃n,(it t.mask n (start t.mask e.1)).j=v/\∀m,m < n->∃i':Nat,t.place[i']? = some (it t.mask m (start t.mask e.1)).j)->
    ∃n,(it t.mask n (start t.mask e.1)).j=v/\∀m,m < n->∃i':Nat,(insertAt t.place p j)[i']? = some (it t.mask m (start t.mask e.1)).j:=
   fun ⟨n,h1,h2⟩=>⟨n,h1,fun m hm=>let ⟨i',q⟩:=h2 m hm;⟨_,old _ _ q⟩⟩
  split at hv
  ·rename_i q
   rw[if_pos q] at he
   exact keep (T.rc _ _ _ hv he)
  ·rename_i q
   rw[if_neg q] at he
   split at hv
   ·rename_i q2
    rw[if_pos q2] at he
    cases hv;cases he
    exact ⟨n,hj,fun m hm'=>let ⟨i',q⟩:=hm m hm';⟨_,old _ _ q⟩⟩
   ·rename_i q2
    rw[if_neg q2] at he
    exact keep (T.rc _ _ _ hv he)
theorem cover_lp {mask i pt j:Nat}(h:Mk mask)(hi:i < mask + 1)(hpt:pt < 2 ^ 64)(hj:j < mask + 1):∃k,k < turns mask/\(lp mask k (i,pt)).1=j:=by
 have hz:(lp mask 13 (i,pt)).2=0:=by
  rw[lp_pt];exact Nat.div_eq_of_lt (Uw hpt 1e1)
 have hl:=lp_lt mask 13 i pt hi
 generalize e:lp mask 13 (i,pt)=q at hz hl
 obtain ⟨i2,pt2⟩:=q
 dsimp only at hz hl
 subst hz
 obtain ⟨k,hk,ek⟩:=goes h hl hj
 refine ⟨13 + k,by unfold turns;lia,?_⟩
 rw[lp_add,e,lp_zero];exact ek
def own (owner:Array (Option Nat))(j:Nat):Option Nat:=owner.getD j (some 0)
theorem free_ok {mask:Nat}{owner:Array (Option Nat)}:∀(fuel i pt:Nat),(∃k,k < fuel/\own owner (lp mask k (i,pt)).1=none)->
  ∃j n,layClean.free mask owner fuel i pt=some j/\(it mask n (inRun mask i 0 pt)).j=j/\own owner j=none/\∀m,m < n->own owner (it mask m (inRun mask i 0 pt)).j≠none
 | 0,i,pt,h=>by obtain ⟨k,hk,_⟩:=h;exact absurd hk (X6 _)
 | fuel + 1,i,pt,h=>by
  unfold layClean.free
  have hle:i<=runEnd mask i:=by unfold runEnd;split<;>lia
  cases e:(Yl (runEnd mask i + 1 - i)).find? (fun k=>(owner.getD (i + k) (some 0)).isNone) with
  | some k=>
   obtain ⟨h1,h2,h3⟩:=List.find?_range_eq_some.mp e
   have hk:=Y1.mp h2
   have hi:=it_in (mask:=mask) (i:=i) (pt:=pt) k 0 (by unfold len;lia)
   refine ⟨i + k,k,rfl,?_,?_,fun m hm q=>?_⟩
   ·rw[hi,WQ];rfl
   ·exact Option.isNone_iff_eq_none.mp h1
   ·have:=h3 m hm
    rw[it_in m 0 (by unfold len;lia),WQ] at q
    have q:owner.getD (i + m) (some 0)=none:=q
    rw[q] at this
    simp at this
  | none=>
   have hn:=List.find?_range_eq_none.mp e
   obtain ⟨k,hk,ek⟩:=h
   have k0:k≠0:=by
    rintro rfl
    have ek:owner.getD i (some 0)=none:=ek
    have:=hn 0 1e2
    rw[Nat.add_zero,ek] at this
    simp at this
   obtain ⟨k,rfl⟩:∃k',k=k' + 1:=⟨k - 1,by lia⟩
   obtain ⟨j,n,h1,h2,h3,h4⟩:=free_ok fuel (leap mask i pt).1 (leap mask i pt).2 ⟨k,by lia,ek⟩
   refine ⟨j,(len mask i - 0 + 1) + n,h1,?_,h3,fun m hm=>?_⟩
   ·rw[ZcB,it_next (YV _)];exact h2
   ·by_cases q:m<=len mask i
    ·rw[it_in m 0 1e2,WQ]
     have:=hn m (by unfold len at q;lia)
     intro z
     have z:owner.getD (i + m) (some 0)=none:=z
     rw[z] at this
     simp at this
    ·obtain ⟨m',rfl⟩:∃m',m=(len mask i - 0 + 1) + m':=⟨m - (len mask i + 1),by lia⟩
     rw[ZcB,it_next (YV _)]
     exact h4 m' 1e2
structure OI (mask:Nat)(hs:List Int)(owner:Array (Option Nat)):Prop where
 sz:owner.size=mask + 1
 lt:∀j i:Nat,owner[j]? = some (some i)->i < hs.length
 on:∀i,i < hs.length->∃j:Nat,owner[j]? = some (some i)
 inj:∀j j' i:Nat,owner[j]? = some (some i)->owner[j']? = some (some i)->j=j'
 rc:∀(j i:Nat) (h:Int),owner[j]? = some (some i)->hs[i]? = some h->∃n,(it mask n (start mask h)).j=j/\∀m,m < n->∃i':Nat,owner[(it mask m (start mask h)).j]? = some (some i')
theorem own_some {owner:Array (Option Nat)}{j:Nat}(hj:j < owner.size)(h:own owner j≠none):∃i:Nat,owner[j]? = some (some i):=by
 unfold own at h
 rw[YI,Yg hj] at h
 rw[Yg hj]
 cases e:owner[j] with
 | none=>rw[e] at h;exact absurd rfl h
 | some i=>exact ⟨i,rfl⟩
theorem own_none {owner:Array (Option Nat)}{j:Nat}(h:own owner j=none):j < owner.size/\owner[j]? = some none:=by
 unfold own at h
 rw[YI] at h
 rcases YH j owner.size with q | q
 ·rw[Yg q] at h
  have h:owner[j]=none:=h
  exact ⟨q,by rw[Yg q,h]⟩
 ·rw[YK q] at h;cases h
theorem OI.room {mask:Nat}{hs:List Int}{owner:Array (Option Nat)}(O:OI mask hs owner)(h:hs.length < mask + 1):∃j,j < mask + 1/\own owner j=none:=by
 apply Classical.byContradiction
 intro q
 have al:∀j,j < mask + 1->∃i:Nat,owner[j]? = some (some i):=fun j hj=>own_some (by rw[O.sz];exact hj) fun z=>q ⟨j,hj,z⟩
 have g:∀j,j < mask + 1->owner[j]? = some (some ((owner.getD j none).getD 0)):=fun j hj=>by
  obtain ⟨i,e⟩:=al j hj
  rw[YI,e];rfl
 have:=nd_sub ((Yl (mask + 1)).map fun j=>(owner.getD j none).getD 0) (Yl hs.length) ?_ ?_
 ·simp at this;lia
 ·refine XR.mpr (Wq (fun {a b} ha hb hab e=>?_) Vz)
  have h1:=g a (Y1.mp ha)
  have h2:=g b (Y1.mp hb)
  rw[e] at h1
  exact hab (O.inj _ _ _ h1 h2)
 ·intro x hx
  obtain ⟨j,hj,rfl⟩:=YB.mp hx
  exact Y1.mpr (O.lt _ _ (g j (Y1.mp hj)))
theorem it_lt {mask:Nat}{h:Int}(hM:Mk mask)(n:Nat):(it mask n (start mask h)).j < mask + 1:=by
 have key:∀n,∃i d pt,it mask n (start mask h)=inRun mask i d pt/\d<=len mask i/\i < mask + 1:=by
  intro n
  induction n with
  | zero=>exact ⟨_,0,_,rfl,YV _,VJ _ (V2 _)⟩
  | succ n ih=>
   obtain ⟨i,d,pt,e,hd,hi⟩:=ih
   rw[it_succ,e]
   by_cases q:d=len mask i
   ·rw[adv_out q];exact ⟨_,0,_,rfl,YV _,VJ _ (V2 _)⟩
   ·rw[adv_in 1e2];exact ⟨i,d + 1,pt,rfl,by lia,hi⟩
 obtain ⟨i,d,pt,e,hd,hi⟩:=key n
 rw[e]
 show i + d < mask + 1
 unfold len runEnd at hd
 split at hd<;>lia
theorem OI.step {mask:Nat}{hs:List Int}{owner:Array (Option Nat)}(O:OI mask hs owner)(hM:Mk mask)(h:hs.length < mask + 1)(hh:Int):
  ∃j,layClean.free mask owner (turns mask) (bits hh % (mask + 1)) (bits hh)=some j/\OI mask (hs++[hh]) (owner.setIfInBounds j (some hs.length)):=by
 obtain ⟨j0,hj0,e0⟩:=O.room h
 obtain ⟨k,hk,ek⟩:=cover_lp hM (VJ (bits hh) (V2 mask)) (bits_lt hh) hj0
 obtain ⟨j,n,h1,h2,h3,h4⟩:=free_ok (mask:=mask) (owner:=owner) (turns mask) (bits hh % (mask + 1)) (bits hh) ⟨k,hk,by rw[ek];exact e0⟩
 have h2:(it mask n (start mask hh)).j=j:=h2
 obtain ⟨hj,hjn⟩:=own_none h3
 have gs:∀a:Nat,(owner.setIfInBounds j (some hs.length))[a]? = if j=a then some (some hs.length) else owner[a]?:=fun a=>by
  rw[Array.getElem?_setIfInBounds]
  by_cases q:j=a
  ·rw[if_pos q,if_pos q,if_pos hj]
  ·rw[if_neg q,if_neg q]
 have old:∀a i:Nat,owner[a]? = some (some i)->(owner.setIfInBounds j (some hs.length))[a]? = some (some i):=fun a i e=>by
  rw[gs,if_neg];exact e
  rintro rfl;rw[hjn] at e;cases e
 refine ⟨j,h1,⟨by simpa using O.sz,fun a i e=>?_,fun i hi=>?_,fun a b i ea eb=>?_,fun a i x ea ex=>?_⟩⟩
 ·rw[gs] at e
  split at e
  ·cases e;simp
  ·have:=O.lt _ _ e;simp;lia
 ·by_cases q:i < hs.length
  ·obtain ⟨a,e⟩:=O.on i q;exact ⟨a,old _ _ e⟩
  ·have:i=hs.length:=by simp at hi;lia
   subst this
   exact ⟨j,by rw[gs,if_pos rfl]⟩
 ·rw[gs] at ea eb
  split at ea
  ·rename_i qa
   cases ea
   split at eb
   ·rename_i qb;lia
   ·have:=O.lt _ _ eb;lia
  ·split at eb
   ·cases eb;have:=O.lt _ _ ea;lia
   ·exact O.inj _ _ _ ea eb
 ·rw[gs] at ea
  split at ea
  ·rename_i qa
   subst qa
   cases ea
   have:x=hh:=by simpa using ex.symm
   subst this
   refine ⟨n,h2,fun m hm=>?_⟩
   obtain ⟨i',e'⟩:=own_some (by rw[O.sz];exact it_lt hM m) (h4 m hm)
   exact ⟨i',old _ _ e'⟩
  ·have hl:=O.lt _ _ ea
   rw[Yf hl] at ex
   obtain ⟨n',q1,q2⟩:=O.rc _ _ _ ea ex
   exact ⟨n',q1,fun m hm=>let ⟨i',e'⟩:=q2 m hm;⟨i',old _ _ e'⟩⟩
def stepO (mask:Nat)(acc:Option (Array (Option Nat)×Nat))(h:Int):Option (Array (Option Nat)×Nat):=do
 let (owner,k) ←acc
 let j ←layClean.free mask owner (turns mask) (bits h % (mask + 1)) (bits h)
 pure (owner.setIfInBounds j (some k),k + 1)
theorem layClean_ok {mask:Nat}(hM:Mk mask)(hashes:Array Int)(h:hashes.size < mask + 1):∃owner,layClean mask hashes=some owner/\OI mask hashes.toList owner:=by
 have key:∀(rest pre:List Int) (owner:Array (Option Nat)),OI mask pre owner->pre.length + rest.length < mask + 1->∃o',rest.foldl (stepO mask) (some (owner,pre.length))=some (o',pre.length + rest.length)/\OI mask (pre++rest) o':=by
  intro rest
  induction rest with
  | nil=>intro pre owner O _;exact ⟨owner,rfl,by rw[YJ];exact O⟩
  | cons x rest ih=>
   intro pre owner O hl
   simp only[YX] at hl
   obtain ⟨j,e,O'⟩:=O.step hM 1e2 x
   obtain ⟨o',e',O2⟩:=ih (pre++[x]) _ O' 11e1
   refine ⟨o',?_,by rw[List.append_cons];exact O2⟩
   rw[List.foldl_cons]
   have:stepO mask (some (owner,pre.length)) x=some (owner.setIfInBounds j (some pre.length),(pre++[x]).length):=by
    unfold stepO
    show (layClean.free mask owner (turns mask) (bits x % (mask + 1)) (bits x)).bind _=_
    rw[e];simp
   rw[this,e']
   congr 2
   simp;lia
 have O0:OI mask [] (Uz (mask + 1) none):=by
  have z:∀j i:Nat,(Uz (mask + 1) (none:Option Nat))[j]?≠some (some i):=fun j i e=>by
   rw[Array.getElem?_replicate] at e
   split at e<;>cases e
  exact ⟨by simp,fun j i e=>absurd e (z _ _),fun i hi=>absurd hi (X6 _),fun j j' i e=>absurd e (z _ _),fun j i x e=>absurd e (z _ _)⟩
 obtain ⟨o',e',O'⟩:=key hashes.toList [] _ O0 13e1
 refine ⟨o',?_,by simpa using O'⟩
 unfold layClean
 rw[←Array.foldl_toList]
 show (hashes.toList.foldl (stepO mask) (some (Uz (mask + 1) none,0))).map (·.1)=_
 have:([]:List Int).length=0:=rfl
 rw[this] at e'
 rw[e'];rfl
theorem nd_perm:∀(l l':11e8),l.Nodup->l'.Nodup->(∀x,x∈l↔x∈l')->l.Perm l'
 | [],l',_,_,h=>by
  cases l' with
  | nil=>exact .nil
  | cons y r=>exact absurd ((h y).mpr (.head _)) Xm
 | x::l,l',hn,hn',h=>by
  obtain ⟨h1,h2⟩:=Xk.mp hn
  have hx:x∈l':=(h x).mp (.head _)
  refine (List.Perm.cons x (nd_perm l (l'.erase x) h2 (hn'.erase x) fun y=>?_)).trans (List.perm_cons_erase hx).symm
  rw[hn'.mem_erase_iff]
  constructor
  ·intro hy;exact ⟨by rintro rfl;exact h1 hy,(h y).mp (.tail _ hy)⟩
  ·rintro ⟨q,hy⟩
   exact (Yn.mp ((h y).mpr hy)).resolve_left q
theorem fmap_get {α β:Type}(g:α->Option β):∀(l:List α),(∀x∈l,∃y,g x=some y)->∀i:Nat,(l.filterMap g)[i]? = (l[i]?).bind g
 | [],_,i=>by simp
 | x::l,h,i=>by
  obtain ⟨y,e⟩:=h x (.head _)
  rw[List.filterMap_cons_some e]
  cases i with
  | zero=>simp[e]
  | succ i=>simpa using fmap_get g l (fun z hz=>h z (.tail _ hz)) i
def live (mask:Nat)(owner:Array (Option Nat)):List (Nat×Nat):=(Yl (mask + 1)).filterMap fun j=>(owner.getD j none).map (j,·)
theorem live_mem {mask:Nat}{owner:Array (Option Nat)}(hs:owner.size=mask + 1){j i:Nat}:(j,i)∈live mask owner↔owner[j]? = some (some i):=by
 unfold live
 rw[VY]
 constructor
 ·rintro ⟨a,ha,e⟩
  obtain ⟨b,e1,e2⟩:=XN.mp e
  cases e2
  rw[YI] at e1
  cases q:owner[j]? with
  | none=>rw[q] at e1;cases e1
  | some v=>rw[q] at e1;have e1:v=some i:=e1;rw[e1]
 ·intro e
  have hj:j < mask + 1:=by
   rw[←hs]
   rcases YH j owner.size with z | z
   ·exact z
   ·rw[YK z] at e;cases e
  exact ⟨j,Y1.mpr hj,by rw[YI,e];rfl⟩
theorem live_rise (mask:Nat)(owner:Array (Option Nat)):(live mask owner).Pairwise fun a b=>a.1 < b.1:=by
 unfold live
 refine List.Pairwise.filterMap _ (fun a a' h b hb b' hb'=>?_) List.pairwise_lt_range
 obtain ⟨_,_,rfl⟩:=XN.mp hb
 obtain ⟨_,_,rfl⟩:=XN.mp hb'
 exact h
theorem pw_get {α:Type}{R:α->α->Prop}{l:List α}(h:l.Pairwise R){a b:Nat}{x y:α}(hab:a < b)(hx:l[a]? = some x)(hy:l[b]? = some y):R x y:=by
 obtain ⟨ha,rfl⟩:=YS.mp hx
 obtain ⟨hb,rfl⟩:=YS.mp hy
 exact List.pairwise_iff_getElem.mp h a b ha hb hab
theorem laid_ok {mask finger moves:Nat}{led plain:Bool}(hM:Mk mask)(es:7e5)(hs:es.size * 5 < mask * 3):
  ∃t' order,laid mask finger moves led plain (es.map (·.1))=some (t',order)/\(order.filterMap (es[·]?)).size=es.size/\(order.filterMap (es[·]?)).toList.Perm es.toList/\TI t' (order.filterMap (es[·]?))/\t'.mask=mask/\t'.led=led:=by
 obtain ⟨owner,e,O⟩:=layClean_ok hM (es.map (·.1)) 11e1
 have hlen:(es.map (·.1)).toList.length=es.size:=by simp
 have lm:=@live_mem mask owner O.sz
 have lr:=live_rise mask owner
 generalize hL:live mask owner=L at lm lr
 refine ⟨_,_,by unfold laid;rw[e];rfl,?_⟩
 show (((live mask owner).map (·.2)).toArray.filterMap (es[·]?)).size=es.size/\_
 have hpl:(((Yl (mask + 1)).filterMap fun j=>(owner.getD j none).map (j,·)).map (·.1))=L.map (·.1):=by rw[←hL];rfl
 have hor:(((Yl (mask + 1)).filterMap fun j=>(owner.getD j none).map (j,·)).map (·.2))=L.map (·.2):=by rw[←hL];rfl
 rw[hpl,hor,hL]
 have ordPerm:(L.map (·.2)).Perm (Yl es.size):=by
  refine nd_perm _ _ ?_ Vz fun x=>?_
  ·refine XR.mpr (Wq (fun {a b} ha hb hab q=>?_) lr)
   obtain ⟨a1,a2⟩:=a
   obtain ⟨b1,b2⟩:=b
   have q:a2=b2:=q
   subst q
   have:=O.inj _ _ _ (lm.mp ha) (lm.mp hb)
   have hab:a1 < b1:=hab
   lia
  ·rw[YB,Y1]
   constructor
   ·rintro ⟨⟨a,b⟩,h1,rfl⟩
    have:=O.lt _ _ (lm.mp h1)
    rw[hlen] at this;exact this
   ·intro hx
    obtain ⟨j,q⟩:=O.on x (by rw[hlen];exact hx)
    exact ⟨(j,x),lm.mpr q,rfl⟩
 have hperm:((L.map (·.2)).toArray.filterMap (es[·]?)).toList.Perm es.toList:=by
  rw[Array.toList_filterMap]
  exact (ordPerm.filterMap _).trans (by rw[filterMap_getElem?_range])
 have hsz:((L.map (·.2)).toArray.filterMap (es[·]?)).size=es.size:=by rw[←YG,hperm.length_eq,YG]
 have hll:L.length=es.size:=by have:=ordPerm.length_eq;simpa using this
 have eg:∀i:Nat,((L.map (·.2)).toArray.filterMap (es[·]?))[i]? = (L[i]?).bind fun p=>es[p.2]?:=fun i=>by
  rw[←Y3,Array.toList_filterMap]
  show ((L.map (·.2)).filterMap (es[·]?))[i]? = _
  rw[fmap_get]
  ·rw[YL];cases L[i]?<;>rfl
  ·intro x hx
   have hx:=Y1.mp (ordPerm.mem_iff.mp hx)
   exact ⟨_,Yg hx⟩
 have pg:∀i j:Nat,(L.map (·.1)).toArray[i]? = some j->∃k,L[i]? = some (j,k):=fun i j q=>by
  rw[WR,YL] at q
  obtain ⟨⟨a,k⟩,h1,h2⟩:=XN.mp q
  exact ⟨k,by rw[h1];exact congrArg (fun z=>some (z,k)) h2⟩
 refine ⟨hsz,hperm,⟨⟨hM,rfl,?_,?_,?_,?_⟩,?_⟩,rfl,rfl⟩
 ·intro a b x y hab hx hy
  obtain ⟨k1,q1⟩:=pg _ _ hx
  obtain ⟨k2,q2⟩:=pg _ _ hy
  exact pw_get lr hab q1 q2
 ·show (L.map (·.1)).toArray.size=_
  rw[hsz];simpa using hll
 ·intro i j q
  obtain ⟨k,q⟩:=pg _ _ q
  have:=lm.mp (YQ q)
  show j < mask + 1
  rw[←O.sz]
  rcases YH j owner.size with z | z
  ·exact z
  ·rw[YK z] at this;cases this
 ·intro i j x q qx
  obtain ⟨k,q⟩:=pg _ _ q
  rw[eg,q] at qx
  have qx:es[k]? = some x:=qx
  have ho:=lm.mp (YQ q)
  obtain ⟨n,h1,h2⟩:=O.rc j k x.1 ho (by rw[Y3,Array.getElem?_map,qx];rfl)
  refine ⟨n,h1,fun m hm=>?_⟩
  obtain ⟨i',q'⟩:=h2 m hm
  obtain ⟨a,ha,hb⟩:=Ww (lm.mpr q')
  refine ⟨a,?_⟩
  show (L.map (·.1)).toArray[a]? = _
  rw[WR,YL,Yd ha,hb];rfl
 ·show _ * 5 < mask * 3
  rw[hsz];exact hs
theorem grown_ok {mask n:Nat}(h:Mk mask)(h1:n * 5 < mask * 3)(h2:¬(n + 1) * 5 < mask * 3)(h3:n + 1 < 77):Mk (sizeAbove (grown (n + 1)) - 1)/\(n + 1) * 5 < (sizeAbove (grown (n + 1)) - 1) * 3:=by
 rcases h with rfl | rfl | rfl
 ·have:n=4:=by lia
  subst this;exact ⟨.inr (.inl 1e1),by decide⟩
 ·have:n=18:=by lia
  subst this;exact ⟨.inr (.inr 1e1),by decide⟩
 ·lia
section
variable {prog:YC}{w:World}{K:Type} [DecidableEq K]{knd:KeyKind prog w K}{A:Around}{E:1e5}{s:Shared}
theorem oacs_scalar {v:Value}(n:Nat)(h:W3 v=true):Uc n v=pure false:=by
 cases v<;>first | (cases n<;>rfl) | (exfalso;revert h;simp[W3])
theorem Zcf {M:Model}{β:Type}{J:β->Prop}{ok:Value->Prop}{f:Value->β->Sem (ForInStep β)}
  (step:∀v b (Q:ForInStep β->Shared->Prop),ok v->J b->(∀b',J b'->Q (.yield b') s)->(∀b',J b'->Q (.done b') s)->wpAny M A (f v b) Q E s):
  ∀(xs:4e1) (b:β) (Q:β->Shared->Prop),(∀v∈xs,ok v)->J b->(∀b',J b'->Q b' s)->wpAny M A (forIn xs b f) Q E s
 | [],b,Q,_,j,q=>by rw[List.forIn_nil];exact Yc (q b j)
 | v::xs,b,Q,hx,j,q=>by
  rw[List.forIn_cons]
  exact Ya (step v b _ (hx v (.head _)) j (fun b' j'=>Zcf step xs b' Q (fun u z=>hx u (.tail _ z)) j' q) fun b' j'=>Yc (q b' j'))
theorem Zdx {ks:List K}{a:Addr}{Q:8e2}(hk:X1 knd s.heap ks a)(h:Q false s):wpAny 2e5 A (Uc 8 (.ref a)) Q E s:=by
 obtain ⟨o,items,n,b1,b2,b3,b4⟩:=id hk
 have same:("tuple"=="tuple")=true:=by decide
 rw[Uc]
 apply Ya
 refine WL hk.typeIs ?_
 simp only[same,if_true]
 repeat first
  | refine Vt b1 b3 ?_
  | simp only[VF,YM,if_false]
  | apply Yc
  | apply Ya
 rw[←Array.forIn_toList]
 refine Zcf (J:=fun r=>r.1=none) (ok:=fun v=>W3 v=true) (fun v r Q z j q _=>?_) _ _ _ b4.byValue rfl ?_
 ·rw[oacs_scalar _ z]
  apply Ya
  apply Yc
  exact Yc (q _ rfl)
 ·rintro ⟨r,u⟩ j
  cases (show r=none from j)
  exact Yc h
theorem hbv_scalar {v:Value}(n:Nat)(h:W3 v=true):∃b,hashByValue n v=pure b:=by
 cases v<;>cases n<;>first | exact 8e9 | (exfalso;revert h;simp[W3])
theorem hbv_tuple {ks:List K}{a:Addr}{Q:8e2}(hk:X1 knd s.heap ks a)(h:∀b,Q b s):wpAny 2e5 A (hashByValue 8 (.ref a)) Q E s:=by
 obtain ⟨o,items,n,b1,b2,b3,b4⟩:=id hk
 rw[hashByValue]
 apply Ya
 refine VL hk.typeIs F.slot_tuple_hash.lookup ?_
 apply Ya
 refine Vt b1 b3 ?_
 apply Ya
 rw[←Array.forIn_toList]
 refine Zcf (J:=fun _=>True) (ok:=fun v=>W3 v=true) (fun v r Q z _ q1 q2=>?_) _ _ _ b4.byValue trivial ?_
 ·obtain ⟨b,e⟩:=hbv_scalar 7 z
  rw[e]
  apply Ya
  apply Yc
  cases b
  ·exact Yc (q2 _ trivial)
  ·exact Yc (q1 _ trivial)
 ·rintro ⟨_ | r,u⟩ _
  ·exact Yc (h _)
  ·exact Yc (h _)
theorem seen_quiet {ks:List K}{a:Addr}{stored:4e1}{Q:8e2}(hk:X1 knd s.heap ks a)(hst:∀v∈stored,∃ks' b,v=.ref b/\X1 knd s.heap ks' b)(h:Q false s):
  wpAny 2e5 A (searchCouldBeSeen (.ref a) stored) Q E s:=by
 delta searchCouldBeSeen
 apply Ya
 refine Zcf (J:=fun r=>r.1=none) (ok:=fun v=>∃ks' b,v=.ref b/\X1 knd s.heap ks' b) (fun v r Q z j q1 _=>?_) _ _ _ hst rfl ?_
 ·obtain ⟨ks',b,rfl,hb⟩:=z
  dsimp only
  split
  ·exact Yc (q1 _ rfl)
  ·repeat first
    | exact Yc (q1 _ rfl)
    | refine (WI knd).quiet hk ?_
    | refine (WI knd).quiet hb ?_
    | refine Zdx hk ?_
    | refine Zdx hb ?_
    | simp only[VF,YM,if_false]
    | apply Ya
 ·rintro ⟨r,u⟩ j
  cases (show r=none from j)
  exact Yc h
end
section
variable {prog:YC}{w:World}{K:Type} [DecidableEq K]{knd:KeyKind prog w K}{A:Around}{E:1e5}{s:Shared}
def Els (knd:KeyKind prog w K)(h:Heap)(es:7e5):Prop:=∀(i:Nat) (e:Int×Value),es[i]? = some e->∃k b,e=(Yr knd k,YF b)/\X1 knd h k b
def Unmet (knd:KeyKind prog w K)(h:Heap)(es:7e5)(t:XH)(k:List K)(n:Nat):Prop:=∀m,m < n->∃i,t.slot (it t.mask m 8e5).j=.live i/\∀(u:Int) (b:Addr),es[i]? = some (u,.ref b)->¬X1 knd h k b
theorem search {a x:Addr}{o:Obj}{es:7e5}{ep:Nat}{t:XH}{k:List K}{Q:SetFound->Shared->Prop}(hu:4e6)(ho:s.heap.get? a=some o)(hd:o.data=.set es ep t)(T:TI t es)(he:Els knd s.heap es)(hk:X1 knd s.heap k x)
  (hmet:∀(i:Nat) (u:Int) (b:Addr),es[i]? = some (u,.ref b)->X1 knd s.heap k b->Q (.there none) s)
  (hfree:∀n,t.slot (it t.mask n 8e5).j=.empty->Unmet knd s.heap es t k n->Q (.free (it t.mask n 8e5).j false) s):
  ∀(fuel n:Nat) (stand:Option Probe),stand.getD (t.probeStart (Yr knd k))=it t.mask n 8e5->(∃N,n<=N/\N < n + fuel/\t.slot (it t.mask N 8e5).j=.empty)->Unmet knd s.heap es t k n->
   wpAny 2e5 A (We a (.ref x) (Yr knd k) true fuel stand) Q E s:=by
 have hf:t.fits es.size=true:=T.fits (XA T.few)
 intro fuel
 induction fuel with
 | zero=>rintro n stand _ ⟨N,h1,h2,_⟩ _;lia
 | succ fuel ih=>
  intro n stand hs hN hun
  unfold We
  refine Ya (YY ho hd hf ?_)
  dsimp only
  have hg:t.gaveWay=false:=by
   unfold SetTable.gaveWay
   rw[T.mm.pos.2.2];rfl
  rw[hg]
  simp only[YM,↓reduceIte]
  rw[hs]
  have w0:Wf t.mask 8e5:=Wf.start _ _
  have wn:=w0.it n
  obtain ⟨j0,hj0,e0⟩:=T.room (Vp T.few)
  obtain ⟨c,hc,ec⟩:=wn.meets T.mm hj0
  obtain ⟨m,em,n1,sk,hm⟩:=go_sees (hashAt:=fun i=>(es[i]?.map (·.1)).getD 0) (h:=Yr knd k) T.dm (10 * turns t.mask) _ wn ⟨c,hc,by rw[ec];exact e0⟩
  have em:t.probe (fun i=>(es[i]?.map (·.1)).getD 0) (Yr knd k) (it t.mask n 8e5)=some m:=em
  have un1:Unmet knd s.heap es t k (n + n1):=by
   intro q hq
   by_cases z:q < n
   ·exact hun q z
   ·obtain ⟨i,h1,h2⟩:=sk (q - n) 1e2
    rw[←ZcB,show n + (q - n)=q by lia] at h1
    refine ⟨i,h1,fun u b eb hb=>h2 ?_⟩
    obtain ⟨k',b',e',hb'⟩:=he i _ eb
    cases e'
    dsimp only
    rw[eb]
    show Yr knd k'=_
    rw[hb'.inj hb]
  rw[←ZcB] at hm
  generalize hP:t.probe _ (Yr knd k) (it t.mask n 8e5)=r
  have hr:r=some m:=hP.symm.trans em
  subst hr
  clear hP
  dsimp only
  rcases hm with ⟨rfl,hm⟩ | ⟨i,rfl,hl,hh⟩
  ·exact Yc (hfree _ hm un1)
  ·dsimp only
   have hpi:=live_slot hl
   have hi:i < es.size:=by
    rw[←T.sz]
    rcases YH i t.place.size with z | z
    ·exact z
    ·rw[YK z] at hpi;cases hpi
   obtain ⟨k',b,ee,hb⟩:=he i _ (Yg hi)
   have ei:es[i]? = some (Yr knd k',YF b):=by rw[Yg hi,ee]
   have onward:¬X1 knd s.heap k b->wpAny 2e5 A (We a (.ref x) (Yr knd k) true fuel (some (it t.mask (n1 + 1) (it t.mask n 8e5)))) Q E s:=by
    intro hne
    obtain ⟨N,h1,h2,h3⟩:=hN
    refine ih (n + n1 + 1) _ ?_ ⟨N,?_,by lia,h3⟩ ?_
    ·show it t.mask (n1 + 1) (it t.mask n 8e5)=_
     rw[←ZcB];rfl
    ·rcases YH (n + n1) N with z | z
     ·exact z
     ·exfalso
      rcases Nat.lt_or_eq_of_le z with z | z
      ·obtain ⟨i',q,_⟩:=un1 N z
       rw[q] at h3;cases h3
      ·subst z;rw[hl] at h3;cases h3
    ·intro q hq
     by_cases z:q < n + n1
     ·exact un1 q z
     ·have:q=n + n1:=by lia
      subst this
      refine ⟨i,hl,fun u b' eb=>?_⟩
      rw[ei] at eb;cases eb;exact hne
   have main:wpAny 2e5 A (match es[i]? with
     | some (fst,y)=>do
      let equal ←Ur [y] (eqBool y (YF x))
      let __x ←setState a
      if (true&&equal)=true then pure (V6 none)
       else
        match __x.2.snd.sameMemory t.moves t.mask with
        | some same=>
         match if same=true then __x.2.snd.slot (it t.mask (n + n1) 8e5).j else Slot.empty with
         | Slot.live i'=>
          match __x.fst[i']? with
          | some (fst,y')=>do
           let __do_lift ←isSame y' y
           let still ←pure (if __do_lift=true then some i' else none)
           match still with
            | none=>do
             rule "set.search.anew"
             We a (YF x) (Yr knd k) true fuel none
            | some i'=>
             if equal=true then pure (V6 (some i'))
             else We a (YF x) (Yr knd k) true fuel (some (it t.mask (n1 + 1) (it t.mask n 8e5)))
          | none=>do
           let still ←pure none
           match still with
            | none=>do
             rule "set.search.anew"
             We a (YF x) (Yr knd k) true fuel none
            | some i'=>
             if equal=true then pure (V6 (some i'))
             else We a (YF x) (Yr knd k) true fuel (some (it t.mask (n1 + 1) (it t.mask n 8e5)))
         | x_1=>do
          let still ←pure none
          match still with
           | none=>do
            rule "set.search.anew"
            We a (YF x) (Yr knd k) true fuel none
           | some i'=>
            if equal=true then pure (V6 (some i'))
            else We a (YF x) (Yr knd k) true fuel (some (it t.mask (n1 + 1) (it t.mask n 8e5)))
        | _=>unsupported "set.changed-during-lookup:is-the-new-block-at-the-old-address"
     | _=>unsupported "internal:set-entry") Q E s:=by
    rw[ei]
    dsimp only
    refine Ya (Xc ((WI knd).eqBool hu hb hk ?_))
    refine Ya (YY ho hd hf ?_)
    dsimp only
    by_cases hq:k'=k
    ·rw[decide_eq_true hq]
     exact Yc (hmet i _ b ei (hq ▸ hb))
    ·rw[decide_eq_false hq]
     have hsm:t.sameMemory t.moves t.mask=some true:=by unfold SetTable.sameMemory;simp
     rw[hsm]
     simp only[Bool.and_false,YM,↓reduceIte]
     rw[hl]
     dsimp only
     rw[ei]
     dsimp only
     refine Ya (wpAny_isSame_ref_self ?_)
     refine Ya (Yc ?_)
     simp only[↓reduceIte]
     exact onward fun z=>hq (hb.inj z)
   split
   ·refine Ya (seen_quiet hk (fun v hv=>?_) ?_)
    ·obtain ⟨⟨u,v'⟩,hm1,rfl⟩:=YB.mp hv
     have hm1:=XW.mp hm1
     obtain ⟨j,hj,q⟩:=Array.getElem_of_mem (Array.mem_filter.mp hm1).1
     obtain ⟨k2,b2,e2,h2⟩:=he j _ (Yg hj)
     rw[q] at e2;cases e2
     exact ⟨k2,b2,rfl,h2⟩
    ·simp only[YM,↓reduceIte]
     exact main
   ·exact main
end
section
variable {prog:YC}{w:World}{K:Type} [DecidableEq K]{knd:KeyKind prog w K}{A:Around}{E:1e5}{s:Shared}
theorem T0.plainOff {t:XH}{es:7e5}(T:T0 t es)(b:Bool):T0 (if b then t else { t with plain:=false }) es:=by
 cases b
 ·exact ⟨T.mm,T.dm,T.rs,T.sz,T.lt,T.rc⟩
 ·exact T
theorem get_store {h:Heap}{a:Addr}{o:Obj}{es:7e5}{ep:Nat}{t:XH}(ho:h.get? a=some o)(hd:o.data=.set es ep t)(es':7e5)(t':XH):
  (h.update a (Obj.putSet es' t')).get? a=some { o with data:=.set es' (ep + 1) t' }:=by
 have q:=Xr (Obj.putSet es' t') ho (by rw[putSet_of es' t' hd];rfl)
 rw[putSet_of es' t' hd] at q;exact q
theorem perm_ins {α:Type}(xs:Array α)(p:Nat)(x:α):(insertAt xs p x).toList.Perm (xs.toList++[x]):=by
 have q:=SetTable.insertAt_perm xs p x
 rwa[Array.toList_push] at q
theorem mask_off (t:XH)(b:Bool):(if b then t else { t with plain:=false }).mask=t.mask/\(if b then t else { t with plain:=false }).place=t.place/\(if b then t else { t with plain:=false }).dummies=t.dummies:=by
 cases b<;>exact ⟨rfl,rfl,rfl⟩
end
end Se
namespace Se
open PySem PySem.Spec
abbrev newSetObj (led:Bool):Obj:={ cls:=.type "set",dict:=none,data:=.set #[] 0 (.fresh 0 0 led) }
end Se
namespace Pu
open PySem PySem.Spec PyProof.Rows L2
inductive PV where
 | non | bl (b:Bool) | int (i:Int) | str (x:Str) | tup (xs:List PV) | lst (xs:List PV) | dct (ks vs:List PV) | dtt (ks:List (List Key)) (vs:List PV) | fn (a:Addr) | ty (n:String)
def kP:Key->PV
 | .inl i=>.int i
 | .inr x=>.str x
def LsR (K:W.Frag)(ι:3e7)(H:Hp)(a:Addr)(vs:List V):Prop:=
 (a∉ι/\Rd H a (.lst vs))\/
  ∃(o:Obj) (its:Array Value) (n:Nat),K.lookup a=some o/\o.cls=.type "list"/\o.dict=none/\o.data=.seq its n/\its.size<=Yt/\Vals vs its.toList
theorem LsR.sq {K:W.Frag}{ι:3e7}{H:Hp}{a:Addr}{vs:List V}(h:LsR K ι H a vs):SqL K H a vs:=by
 rcases h with ⟨_,h⟩ | h
 ·exact .inl h
 ·exact .inr h
def TpR (H:Hp)(a:Addr)(vs:List V):Prop:=H a=some (.tup vs)
theorem TpR.sq {K:W.Frag}{H:Hp}{a:Addr}{vs:List V}(h:TpR H a vs):SqT K H a vs:=.inl (.inl h)
mutual
def Rep (K:W.Frag)(ι:3e7)(H:Hp):PV->V->Prop
 | .non,v=>v=.non
 | .bl b,v=>v=.bl b
 | .int i,v=>v=.int i
 | .str x,v=>v=.str x/\x.length<=Yt
 | .tup ps,v=>∃a vs,v=.ref a/\TpR H a vs/\Reps K ι H ps vs
 | .lst ps,v=>∃a vs,v=.ref a/\LsR K ι H a vs/\Reps K ι H ps vs
 | .dct ks ps,v=>∃(a:Addr) (qs:9e7) (vs:List V),v=.ref a/\a∉ι/\H a=some (.dK (qs.zip vs))/\qs.length=vs.length/\ks=qs.map kP/\Reps K ι H ps vs
 | .dtt ks ps,v=>∃(a:Addr) (vs:List V),v=.ref a/\a∉ι/\Rd H a (.dT (ks.zip vs))/\ks.length=vs.length/\Reps K ι H ps vs
 | .fn a,v=>v=.ref a
 | .ty n,v=>v=.ty n
def Reps (K:W.Frag)(ι:3e7)(H:Hp):List PV->List V->Prop
 | [],vs=>vs=[]
 | p::ps,vs=>∃v r,vs=v::r/\Rep K ι H p v/\Reps K ι H ps r
end
inductive SV where
 | v (p:PV) | c (k:Nat)
abbrev Cs:=List PV
def RepS (K:W.Frag)(ι:3e7)(H:Hp):SV->V->Prop
 | .v p,x=>Rep K ι H p x
 | .c k,x=>∃a,x=.ref a/\ι[k]? = some a
def RepSs (K:W.Frag)(ι:3e7)(H:Hp):List SV->List V->Prop
 | [],vs=>vs=[]
 | p::ps,vs=>∃v r,vs=v::r/\RepS K ι H p v/\RepSs K ι H ps r
def CellOk (K:W.Frag)(ι:3e7)(H:Hp)(a:Addr):PV->Prop
 | .lst ps=>∃vs,H a=some (.lst vs)/\Reps K ι H ps vs
 | .dct ks ps=>∃(qs:9e7) (vs:List V),H a=some (.dK (qs.zip vs))/\qs.length=vs.length/\ks=qs.map kP/\Reps K ι H ps vs
 | .dtt ks ps=>∃(vs:List V),H a=some (.dT (ks.zip vs))/\ks.length=vs.length/\Reps K ι H ps vs
 | _=>False
structure CR (K:W.Frag)(ι:List Addr)(H:Hp)(C:Cs):Prop where
 len:ι.length=C.length
 nd:ι.Nodup
 ok:∀(k:Nat) (a:Addr) (c:PV),ι[k]? = some a->C[k]? = some c->CellOk K ι H a c
def Fr (ι:3e7)(H H':Hp):Prop:=∀b o,b∉ι->H b=some o->H' b=some o
theorem Fr.refl {ι:3e7}{H:Hp}:Fr ι H H:=fun _ _ _ h=>h
theorem Fr.trans {ι:3e7}{H H1 H2:Hp}(a:Fr ι H H1)(b:Fr ι H1 H2):Fr ι H H2:=fun c o n h=>b c o n (a c o n h)
theorem Fr.new {ι:3e7}{H:Hp}{p:Addr}{o:HO}(h:H p=none):Fr ι H (upd H p o):=fun b u _ e=>by rw[Zax (Zas e h)];exact e
section
variable {K:W.Frag}{ι:3e7}{H H':Hp}{C:Cs}
theorem CR.at' (cr:11e5){a:Addr}(h:a∈ι):∃(k:Nat) (c:PV),ι[k]? = some a/\C[k]? = some c/\CellOk K ι H a c:=by
 obtain ⟨k,hk,e⟩:=Ww h
 have h1:ι[k]? = some a:=by rw[Yd hk,e]
 have hk2:k < C.length:=by rw[←cr.len];exact hk
 exact ⟨k,C[k],h1,Yd hk2,cr.ok k a _ h1 (Yd hk2)⟩
theorem CR.mut (cr:11e5){a:Addr}(h:a∈ι):(∃vs,H a=some (.lst vs))\/(∃kvs,H a=some (.dK kvs))\/∃kvs,H a=some (.dT kvs):=by
 obtain ⟨k,c,_,_,ok⟩:=cr.at' h
 cases c with
 | lst ps=>obtain ⟨vs,e,_⟩:=ok;exact .inl ⟨vs,e⟩
 | dct ks ps=>obtain ⟨qs,vs,e,_⟩:=ok;exact .inr (.inl ⟨_,e⟩)
 | dtt ks ps=>obtain ⟨vs,e,_⟩:=ok;exact .inr (.inr ⟨_,e⟩)
 | _=>exact ok.elim
theorem CR.notup (cr:11e5){a:Addr}{o:HO}(e:H a=some o)(h1:∀vs,o≠.lst vs)(h2:∀kvs,o≠.dK kvs)(h3:∀kvs,o≠.dT kvs:=by intro kvs z;cases z):a∉ι:=fun h=>by
 rcases cr.mut h with ⟨vs,z⟩ | ⟨kvs,z⟩ | ⟨kvs,z⟩
 ·rw[e] at z;exact h1 vs (YN z)
 ·rw[e] at z;exact h2 kvs (YN z)
 ·rw[e] at z;exact h3 kvs (YN z)
theorem tpR_mono (cr:11e5)(fr:Fr ι H H'){a:Addr}{vs:List V}(h:TpR H a vs):TpR H' a vs:=
 fr _ _ (cr.notup h (fun _ e=>nomatch e) fun _ e=>nomatch e) h
theorem LsR.mono (fr:Fr ι H H'){a:Addr}{vs:List V}(h:LsR K ι H a vs):LsR K ι H' a vs:=by
 rcases h with ⟨n,h | ⟨o,h⟩⟩ | h
 ·exact .inl ⟨n,.inl (fr _ _ n h)⟩
 ·exact .inl ⟨n,.inr ⟨o,fr _ _ n h⟩⟩
 ·exact .inr h
theorem rd_mono {a:Addr}{u:HO}(k:∀o,H a=some o->H' a=some o)(h:Rd H a u):Rd H' a u:=by
 rcases h with h | ⟨o,h⟩
 ·exact .inl (k _ h)
 ·exact .inr ⟨o,k _ h⟩
mutual
theorem Rep.mono (cr:11e5)(fr:Fr ι H H'):∀(p:PV) (v:V),Rep K ι H p v->Rep K ι H' p v
 | .non,v,h=>by unfold Rep at h ⊢;exact h
 | .bl b,v,h=>by unfold Rep at h ⊢;exact h
 | .int i,v,h=>by unfold Rep at h ⊢;exact h
 | .str x,v,h=>by unfold Rep at h ⊢;exact h
 | .tup ps,v,h=>by
  unfold Rep at h ⊢
  obtain ⟨a,vs,e,sq,r⟩:=h
  exact ⟨a,vs,e,tpR_mono cr fr sq,Reps.mono cr fr ps vs r⟩
 | .lst ps,v,h=>by
  unfold Rep at h ⊢
  obtain ⟨a,vs,e,sq,r⟩:=h
  exact ⟨a,vs,e,sq.mono fr,Reps.mono cr fr ps vs r⟩
 | .dct ks ps,v,h=>by
  unfold Rep at h ⊢
  obtain ⟨a,qs,vs,e,n,hd,hl,hk,r⟩:=h
  exact ⟨a,qs,vs,e,n,fr _ _ n hd,hl,hk,Reps.mono cr fr ps vs r⟩
 | .dtt ks ps,v,h=>by
  unfold Rep at h ⊢
  obtain ⟨a,vs,e,n,hd,hl,r⟩:=h
  exact ⟨a,vs,e,n,rd_mono (fun o e=>fr _ o n e) hd,hl,Reps.mono cr fr ps vs r⟩
 | .fn a,v,h=>by unfold Rep at h ⊢;exact h
 | .ty n,v,h=>by unfold Rep at h ⊢;exact h
theorem Reps.mono (cr:11e5)(fr:Fr ι H H'):∀(ps:List PV) (vs:List V),Reps K ι H ps vs->Reps K ι H' ps vs
 | [],vs,h=>by unfold Reps at h ⊢;exact h
 | p::ps,vs,h=>by
  unfold Reps at h ⊢
  obtain ⟨v,r,e,h1,h2⟩:=h
  exact ⟨v,r,e,Rep.mono cr fr p v h1,Reps.mono cr fr ps r h2⟩
end
theorem RepS.mono (cr:11e5)(fr:Fr ι H H'){s:SV}{v:V}(h:RepS K ι H s v):RepS K ι H' s v:=by
 cases s with
 | v p=>exact Rep.mono cr fr p v h
 | c k=>exact h
mutual
theorem Rep.stay (sm:∀b o,H b=some o->H' b=some o):∀(p:PV) (v:V),Rep K ι H p v->Rep K ι H' p v
 | .non,v,h=>by unfold Rep at h ⊢;exact h
 | .bl b,v,h=>by unfold Rep at h ⊢;exact h
 | .int i,v,h=>by unfold Rep at h ⊢;exact h
 | .str x,v,h=>by unfold Rep at h ⊢;exact h
 | .tup ps,v,h=>by
  unfold Rep at h ⊢
  obtain ⟨a,vs,e,sq,r⟩:=h
  exact ⟨a,vs,e,sm _ _ sq,Reps.stay sm ps vs r⟩
 | .lst ps,v,h=>by
  unfold Rep at h ⊢
  obtain ⟨a,vs,e,sq,r⟩:=h
  exact ⟨a,vs,e,sq.mono (fun b o _ e=>sm b o e),Reps.stay sm ps vs r⟩
 | .dct ks ps,v,h=>by
  unfold Rep at h ⊢
  obtain ⟨a,qs,vs,e,n,hd,hl,hk,r⟩:=h
  exact ⟨a,qs,vs,e,n,sm _ _ hd,hl,hk,Reps.stay sm ps vs r⟩
 | .dtt ks ps,v,h=>by
  unfold Rep at h ⊢
  obtain ⟨a,vs,e,n,hd,hl,r⟩:=h
  exact ⟨a,vs,e,n,rd_mono (fun o e=>sm _ o e) hd,hl,Reps.stay sm ps vs r⟩
 | .fn a,v,h=>by unfold Rep at h ⊢;exact h
 | .ty n,v,h=>by unfold Rep at h ⊢;exact h
theorem Reps.stay (sm:∀b o,H b=some o->H' b=some o):∀(ps:List PV) (vs:List V),Reps K ι H ps vs->Reps K ι H' ps vs
 | [],vs,h=>by unfold Reps at h ⊢;exact h
 | p::ps,vs,h=>by
  unfold Reps at h ⊢
  obtain ⟨v,r,e,h1,h2⟩:=h
  exact ⟨v,r,e,Rep.stay sm p v h1,Reps.stay sm ps r h2⟩
end
mutual
theorem Rep.cells {ι':3e7}(hs:∀b o,H b=some o->b∉ι->b∉ι'):∀(p:PV) (v:V),Rep K ι H p v->Rep K ι' H p v
 | .non,v,h=>by unfold Rep at h ⊢;exact h
 | .bl b,v,h=>by unfold Rep at h ⊢;exact h
 | .int i,v,h=>by unfold Rep at h ⊢;exact h
 | .str x,v,h=>by unfold Rep at h ⊢;exact h
 | .tup ps,v,h=>by
  unfold Rep at h ⊢
  obtain ⟨a,vs,e,sq,r⟩:=h
  exact ⟨a,vs,e,sq,Reps.cells hs ps vs r⟩
 | .lst ps,v,h=>by
  unfold Rep at h ⊢
  obtain ⟨a,vs,e,sq,r⟩:=h
  refine ⟨a,vs,e,?_,Reps.cells hs ps vs r⟩
  rcases sq with ⟨n,q | ⟨o,q⟩⟩ | q
  ·exact .inl ⟨hs _ _ q n,.inl q⟩
  ·exact .inl ⟨hs _ _ q n,.inr ⟨o,q⟩⟩
  ·exact .inr q
 | .dct ks ps,v,h=>by
  unfold Rep at h ⊢
  obtain ⟨a,qs,vs,e,n,hd,hl,hk,r⟩:=h
  exact ⟨a,qs,vs,e,hs _ _ hd n,hd,hl,hk,Reps.cells hs ps vs r⟩
 | .dtt ks ps,v,h=>by
  unfold Rep at h ⊢
  obtain ⟨a,vs,e,n,hd,hl,r⟩:=h
  exact ⟨a,vs,e,by rcases id hd with q | ⟨o,q⟩<;>exact hs _ _ q n,hd,hl,Reps.cells hs ps vs r⟩
 | .fn a,v,h=>by unfold Rep at h ⊢;exact h
 | .ty n,v,h=>by unfold Rep at h ⊢;exact h
theorem Reps.cells {ι':3e7}(hs:∀b o,H b=some o->b∉ι->b∉ι'):∀(ps:List PV) (vs:List V),Reps K ι H ps vs->Reps K ι' H ps vs
 | [],vs,h=>by unfold Reps at h ⊢;exact h
 | p::ps,vs,h=>by
  unfold Reps at h ⊢
  obtain ⟨v,r,e,h1,h2⟩:=h
  exact ⟨v,r,e,Rep.cells hs p v h1,Reps.cells hs ps r h2⟩
end
theorem Reps.nil:Reps K ι H [] []:=by unfold Reps;rfl
theorem Reps.cons {p:PV}{v:V}{ps:List PV}{vs:List V}(h:Rep K ι H p v)(t:Reps K ι H ps vs):Reps K ι H (p::ps) (v::vs):=by unfold Reps;exact ⟨v,vs,rfl,h,t⟩
theorem Reps.inv {p:PV}{ps:List PV}{vs:List V}(h:Reps K ι H (p::ps) vs):∃v r,vs=v::r/\Rep K ι H p v/\Reps K ι H ps r:=by unfold Reps at h;exact h
theorem Reps.inv0 {vs:List V}(h:Reps K ι H [] vs):vs=[]:=by unfold Reps at h;exact h
theorem Reps.length:∀{ps:List PV} {vs:List V},Reps K ι H ps vs->ps.length=vs.length
 | [],vs,h=>by rw[h.inv0];rfl
 | p::ps,vs,h=>by obtain ⟨v,r,rfl,_,t⟩:=h.inv;rw[YX,YX,t.length]
theorem Reps.append:∀{ps qs:List PV} {vs ws:List V},Reps K ι H ps vs->Reps K ι H qs ws->Reps K ι H (ps++qs) (vs++ws)
 | [],_,vs,_,h,t=>by rw[h.inv0];exact t
 | p::ps,_,vs,_,h,t=>by obtain ⟨v,r,rfl,h1,h2⟩:=h.inv;exact .cons h1 (h2.append t)
theorem Reps.get:∀{ps:List PV} {vs:List V} {i:Nat} {p:PV},Reps K ι H ps vs->ps[i]? = some p->∃v,vs[i]? = some v/\Rep K ι H p v
 | [],_,_,_,h,e=>by simp at e
 | q::ps,vs,0,p,h,e=>by
  obtain ⟨v,r,rfl,h1,h2⟩:=h.inv
  simp at e;subst e;exact ⟨v,rfl,h1⟩
 | q::ps,vs,i + 1,p,h,e=>by
  obtain ⟨v,r,rfl,h1,h2⟩:=h.inv
  obtain ⟨w,e1,r1⟩:=h2.get (i:=i) (by simpa using e)
  exact ⟨w,by simpa using e1,r1⟩
theorem Reps.get':∀{ps:List PV} {vs:List V} {i:Nat} {v:V},Reps K ι H ps vs->vs[i]? = some v->∃p,ps[i]? = some p/\Rep K ι H p v:=fun {ps vs i v} h e=>by
 have hi:i < ps.length:=by
  rw[h.length]
  rcases YH i vs.length with q | q
  ·exact q
  ·rw[Yi.mpr q] at e;cases e
 obtain ⟨w,e1,r⟩:=h.get (Yd hi)
 rw[e] at e1;cases e1
 exact ⟨_,Yd hi,r⟩
theorem Reps.take:∀{ps:List PV} {vs:List V} (n:Nat),Reps K ι H ps vs->Reps K ι H (ps.take n) (vs.take n)
 | _,_,0,_=>by simp;exact .nil
 | [],vs,n + 1,h=>by rw[h.inv0];simp;exact .nil
 | p::ps,vs,n + 1,h=>by obtain ⟨v,r,rfl,h1,h2⟩:=h.inv;simp only[List.take_succ_cons];exact .cons h1 (h2.take n)
theorem Reps.drop:∀{ps:List PV} {vs:List V} (n:Nat),Reps K ι H ps vs->Reps K ι H (ps.drop n) (vs.drop n)
 | _,_,0,h=>by simpa using h
 | [],vs,n + 1,h=>by rw[h.inv0];simp;exact .nil
 | p::ps,vs,n + 1,h=>by obtain ⟨v,r,rfl,h1,h2⟩:=h.inv;simpa using h2.drop n
theorem Reps.set:∀{ps:List PV} {vs:List V} (i:Nat) {p:PV} {v:V},Reps K ι H ps vs->Rep K ι H p v->Reps K ι H (ps.set i p) (vs.set i v)
 | [],vs,i,p,v,h,_=>by rw[h.inv0];simp;exact .nil
 | q::ps,vs,0,p,v,h,hp=>by obtain ⟨w,r,rfl,h1,h2⟩:=h.inv;simp;exact .cons hp h2
 | q::ps,vs,i + 1,p,v,h,hp=>by obtain ⟨w,r,rfl,h1,h2⟩:=h.inv;simp;exact .cons h1 (h2.set i hp)
theorem CellOk.mono (cr:11e5)(fr:Fr ι H H'){a:Addr}{c:PV}(ha:∀o,H a=some o->H' a=some o)(h:CellOk K ι H a c):CellOk K ι H' a c:=by
 cases c with
 | lst ps=>obtain ⟨vs,e,r⟩:=h;exact ⟨vs,ha _ e,Reps.mono cr fr _ _ r⟩
 | dct ks ps=>obtain ⟨qs,vs,e,hl,hk,r⟩:=h;exact ⟨qs,vs,ha _ e,hl,hk,Reps.mono cr fr _ _ r⟩
 | dtt ks ps=>obtain ⟨vs,e,hl,r⟩:=h;exact ⟨vs,ha _ e,hl,Reps.mono cr fr _ _ r⟩
 | _=>exact h.elim
theorem CR.same (cr:11e5)(sm:∀b o,H b=some o->H' b=some o):CR K ι H' C:=
 ⟨cr.len,cr.nd,fun k a c h1 h2=>(cr.ok k a c h1 h2).mono cr (fun b o _ e=>sm b o e) fun o e=>sm a o e⟩
theorem CR.new (cr:11e5){p:Addr}{o:HO}(h:H p=none):CR K ι (upd H p o) C:=cr.same fun b u e=>by rw[Zax (Zas e h)];exact e
theorem CR.put (cr:11e5){k:Nat}{a:Addr}{c:PV}{o:HO}(hk:ι[k]? = some a)(ok:CellOk K ι (upd H a o) a c):CR K ι (upd H a o) (C.set k c):=by
 have fr:Fr ι H (upd H a o):=fun b u n e=>by
  rw[Zax (fun z=>n (by rw[z];exact YQ hk))];exact e
 refine ⟨by rw[XI];exact cr.len,cr.nd,fun j b d h1 h2=>?_⟩
 by_cases hj:j=k
 ·subst hj
  rw[hk] at h1;cases h1
  have hlt:j < C.length:=by
   rw[←cr.len]
   rcases YH j ι.length with q | q
   ·exact q
   ·rw[Yi.mpr q] at hk;cases hk
  rw[XC hlt] at h2
  cases h2;exact ok
 ·rw[Yy (Xw hj)] at h2
  refine (cr.ok j b d h1 h2).mono cr fr fun u e=>?_
  have hb:b≠a:=fun z=>by
   subst z
   have hjl:j < ι.length:=by
    rcases YH j ι.length with q | q
    ·exact q
    ·rw[Yi.mpr q] at h1;cases h1
   have hkl:k < ι.length:=by
    rcases YH k ι.length with q | q
    ·exact q
    ·rw[Yi.mpr q] at hk;cases hk
   have e1:=(YS.mp h1).2
   have e2:=(YS.mp hk).2
   exact hj ((Wz cr.nd).mp (e1.trans e2.symm))
  rw[Zax hb];exact e
theorem repHs {p:Addr}(hp:H p=none):∀b u,H b=some u->b∉ι->b∉ι++[p]:=fun b u e n z=>by
 rcases Yz.mp z with z | z
 ·exact n z
 ·exact Zas e hp (by simpa using z)
theorem RepsNew (cr:11e5){p:Addr}{o:HO}(hp:H p=none)(q:List PV)(v:List V)(r:Reps K ι H q v):Reps K (ι++[p]) (upd H p o) q v:=by
 exact Reps.stay (fun b u e=>by rw[Zax (Zas e hp)];exact e) q v (Reps.cells (ι':=ι++[p]) (repHs hp) q v r)
theorem CR.add (cr:11e5){p:Addr}{c:PV}{o:HO}(hp:H p=none)(ok:CellOk K (ι++[p]) (upd H p o) p c):CR K (ι++[p]) (upd H p o) (C++[c]):=by
 have hni:p∉ι:=fun z=>by
  rcases cr.mut z with ⟨vs,e⟩ | ⟨kvs,e⟩ | ⟨kvs,e⟩
  ·rw[hp] at e;cases e
  ·rw[hp] at e;cases e
  ·rw[hp] at e;cases e
 have hc:∀b u,(upd H p o) b=some u->b∉ι->b≠p->b∉ι++[p]:=fun b u _ n1 n2 z=>by
  rcases Yz.mp z with z | z
  ·exact n1 z
  ·exact n2 (by simpa using z)
 have up:∀b u,H b=some u->(upd H p o) b=some u:=fun b u e=>by rw[Zax (Zas e hp)];exact e
 have lift:∀(b:Addr) (d:PV),CellOk K ι H b d->CellOk K (ι++[p]) (upd H p o) b d:=fun b d h=>by
  have hs:∀b u,H b=some u->b∉ι->b∉ι++[p]:=fun b u e n=>hc b u (up b u e) n (Zas e hp)
  have cr':CR K ι (upd H p o) C:=cr.new hp
  cases d with
  | lst ps=>
   obtain ⟨vs,e,r⟩:=h
   exact ⟨vs,up _ _ e,RepsNew cr hp ps vs r⟩
  | dct ks ps=>
   obtain ⟨qs,vs,e,hl,hk,r⟩:=h
   exact ⟨qs,vs,up _ _ e,hl,hk,RepsNew cr hp ps vs r⟩
  | dtt ks ps=>
   obtain ⟨vs,e,hl,r⟩:=h
   exact ⟨vs,up _ _ e,hl,RepsNew cr hp ps vs r⟩
  | _=>exact h.elim
 refine ⟨by simp[cr.len],?_,fun k a d h1 h2=>?_⟩
 ·rw[X2]
  refine ⟨cr.nd,by simp,fun a ha b hb=>?_⟩
  have:b=p:=by simpa using hb
  subst this
  exact fun z=>hni (z ▸ ha)
 ·rcases YH k ι.length with hk | hk
  ·rw[Yf hk] at h1
   rw[Yf (by rw[←cr.len];exact hk)] at h2
   exact lift a d (cr.ok k a d h1 h2)
  ·rw[Y8 hk] at h1
   rw[Y8 (by rw[←cr.len];exact hk)] at h2
   rw[←cr.len] at h2
   cases hz:k - ι.length with
   | zero=>
    rw[hz] at h1 h2
    simp at h1 h2
    subst h1 h2
    exact ok
   | succ j=>rw[hz] at h1;simp at h1
end
end Pu
namespace Pu
open PySem PySem.Spec L2
open PyProof.Rows hiding St
abbrev M (α:Type):=Cs->Option (α×Cs)
def ret {α:Type}(a:α):M α:=fun C=>some (a,C)
def bnd {α β:Type}(x:M α)(f:α->M β):M β:=fun C=>match x C with
 | none=>none
 | some (a,C')=>f a C'
def opM {α:Type}(g:Cs->Option α):M α:=fun C=>match g C with
 | none=>none
 | some a=>some (a,C)
theorem Zag {α β:Type}{x:M α}{f:α->M β}{C C2:Cs}{b:β}(h:bnd x f C=some (b,C2)):∃a C1,x C=some (a,C1)/\f a C1=some (b,C2):=by
 unfold bnd at h
 cases e:x C with
 | none=>rw[e] at h;cases h
 | some p=>obtain ⟨a,C1⟩:=p;rw[e] at h;exact ⟨a,C1,rfl,h⟩
theorem ZaN {α:Type}{g:Cs->Option α}{C C2:Cs}{b:α}(h:opM g C=some (b,C2)):g C=some b/\C2=C:=by
 unfold opM at h
 cases e:g C with
 | none=>rw[e] at h;cases h
 | some p=>rw[e] at h;cases h;exact ⟨rfl,rfl⟩
abbrev PSt:=List (Option SV)
def asB:SV->Option Bool
 | .v (.bl b)=>some b
 | _=>none
def mB (x:SV):M Bool:=opM fun _=>asB x
theorem mB_some {x:SV}{C C2:Cs}{b:Bool}(h:mB x C=some (b,C2)):x=.v (.bl b)/\C2=C:=by
 obtain ⟨h,e⟩:=ZaN h
 refine ⟨?_,e⟩
 cases x with
 | c k=>cases h
 | v p=>cases p<;>first | (cases h;rfl) | cases h
theorem repB {K:W.Frag}{ι:3e7}{H:Hp}{b:Bool}{v:V}(h:RepS K ι H (.v (.bl b)) v):v=.bl b:=by unfold RepS Rep at h;exact h
inductive PF where
 | nx (ρ:PSt) | rt (r:SV) | bk (ρ:PSt) | ct (ρ:PSt) | rf (ps:List PV) | rq (qs:List SV)
structure SR (K:W.Frag)(ι:List Addr)(H:Hp)(ρ:PSt)(σ:St)(C:Cs):Prop where
 cr:CR K ι H C
 len:ρ.length=σ.length
 loc:∀(i:Nat) (s:SV),ρ[i]? = some (some s)->∃v,σ[i]? = some (some v)/\RepS K ι H s v
section
variable {K:W.Frag}{ι:3e7}{H H':Hp}{C C':Cs}{ρ:PSt}{σ:St}
theorem SR.step (sr:SR K ι H ρ σ C)(fr:Fr ι H H')(cr:CR K ι H' C'):SR K ι H' ρ σ C':=
 ⟨cr,sr.len,fun i s e=>by obtain ⟨v,h1,h2⟩:=sr.loc i s e;exact ⟨v,h1,h2.mono sr.cr fr⟩⟩
theorem SR.set (sr:SR K ι H ρ σ C){s:SV}{v:V}(i:Nat)(r:RepS K ι H s v):SR K ι H (ρ.set i (some s)) (σ.set i (some v)) C:=by
 refine ⟨sr.cr,by simp[sr.len],fun j t e=>?_⟩
 by_cases hj:i=j
 ·subst hj
  have hi:i < ρ.length:=by
   rcases YH i ρ.length with q | q
   ·exact q
   ·rw[Yi.mpr (by simpa using q)] at e;cases e
  rw[XC hi] at e
  cases e
  exact ⟨v,by rw[XC (by rw[←sr.len];exact hi)],r⟩
 ·rw[Yy hj] at e
  rw[Yy hj]
  exact sr.loc j t e
end
def tM (K:W.Frag)(f:4e3):TE:=fun σ H Q=>∃ι ρ C r C',SR K ι H ρ σ C/\f ρ C=some (r,C')/\∀v H',Fr ι H H'->CR K ι H' C'->RepS K ι H' r v->Q v H'
def tMA (K:W.Frag)(f:2e9):TA:=fun σ H Q=>∃ι ρ C r C',SR K ι H ρ σ C/\f ρ C=some (r,C')/\∀v H',Fr ι H H'->CR K ι H' C'->RepSs K ι H' r v->Q v H'
def tMB (K:W.Frag)(f:6e3):TT:=fun σ H Q=>∃ι ρ C r C',SR K ι H ρ σ C/\f ρ C=some (r,C')/\∀H',Fr ι H H'->CR K ι H' C'->Q r H'
def tMF (K:W.Frag)(f:6e0):TE:=fun σ H Q=>∃ι ρ C ps C',SR K ι H ρ σ C/\f ρ C=some (ps,C')/\∀p vs H',Fr ι H H'->CR K ι H' C'->H' p=none->Reps K ι H' ps vs->Q (.ref p) (upd H' p (.lst vs))
def EM (X:Cx)(e:Expr)(f:4e3):Prop:=PE X e (tM X.K f)
def AM (X:Cx)(es:5e9)(f:2e9):Prop:=PA X es (tMA X.K f)
def TMt (X:Cx)(e:Expr)(f:6e3):Prop:=PT X e (tMB X.K f)
def WM (X:Cx)(e:Expr)(f:6e3):Prop:=PW X e (tMB X.K f)
def FM (X:Cx)(e:Expr)(f:6e0):Prop:=PE X e (tMF X.K f)
theorem PE.imp {X:Cx}{e:Expr}{t t':TE}(h:PE X e t)(k:∀σ H Q,t' σ H Q->t σ H Q):PE X e t':=fun pins s σ H Q I q=>h pins s σ H Q I (k σ H Q q)
theorem PT.imp {X:Cx}{e:Expr}{t t':TT}(h:PT X e t)(k:∀σ H Q,t' σ H Q->t σ H Q):PT X e t':=fun pins s σ H Q I q=>h pins s σ H Q I (k σ H Q q)
theorem PW.imp {X:Cx}{e:Expr}{t t':TT}(h:PW X e t)(k:∀σ H Q,t' σ H Q->t σ H Q):PW X e t':=fun wh pins s σ H Q I q=>h wh pins s σ H Q I (k σ H Q q)
theorem PA.imp {X:Cx}{e:5e9}{t t':TA}(h:PA X e t)(k:∀σ H Q,t' σ H Q->t σ H Q):PA X e t':=fun pos pins s σ H Q I q=>h pos pins s σ H Q I (k σ H Q q)
theorem PS.imp {X:Cx}{e:Stmt}{t t':TS}(h:PS X e t)(k:∀D σ H,t' D σ H->t D σ H):PS X e t':=fun pins s σ H D I q=>h pins s σ H D I (k D σ H q)
theorem PSs.imp {X:Cx}{e:List Stmt}{t t':TS}(h:PSs X e t)(k:∀D σ H,t' D σ H->t D σ H):PSs X e t':=fun pins s σ H D I q=>h pins s σ H D I (k D σ H q)
theorem PI.imp {X:Cx}{tg e:Expr}{t t':TI}(h:PI X tg e t)(k:∀σ H Q,t' σ H Q->t σ H Q):PI X tg e t':=fun pins s σ H Q I q=>h pins s σ H Q I (k σ H Q q)
section
variable {X:Cx}{a b e c:Expr}{es:5e9}{fa fb fc:4e3}{pos p:Pos}{x:Str}
def mVar (i:Nat):PSt->M SV:=fun ρ C=>match ρ[i]? with
 | some (some s)=>some (s,C)
 | _=>none
def mC (p:PV):PSt->M SV:=fun _ C=>some (.v p,C)
theorem ZcK {v:V}{q:PV}(h:PE X e (tC v))(r:∀ι H,Rep X.K ι H q v):EM X e (mC q):=by
 refine PE.imp h fun σ H Q h_=>?_
 obtain ⟨ι,ρ,C,z,C',sr,e,k⟩:=h_
 cases e
 exact k v H .refl sr.cr (r ι H)
def mOp (g:Cs->SV->SV->Option SV)(fa fb:4e3):PSt->M SV:=fun ρ=>bnd (fa ρ) fun x=>bnd (fb ρ) fun y=>opM fun C=>g C x y
def R2ok (K:W.Frag)(r:R2)(g:Cs->SV->SV->Option SV):Prop:=
 ∀(ι:3e7) (H:Hp) (C:Cs) (x y:SV) (vx vy:V) (z:SV) (Q:VK),CR K ι H C->RepS K ι H x vx->RepS K ι H y vy->g C x y=some z->(∀v H',Fr ι H H'->CR K ι H' C->RepS K ι H' z v->Q v H')->r vx vy H Q
theorem tM_op {K:W.Frag}{r:R2}{g:Cs->SV->SV->Option SV}(hg:R2ok K r g){σ:St}{H:Hp}{Q:VK}(h:tM K (mOp g fa fb) σ H Q):tOp r (tM K fa) (tM K fb) σ H Q:=by
 sleep 6
 obtain ⟨y,C2,e2,e⟩:=Zag e
 obtain ⟨e3,rfl⟩:=ZaN e
 exact ⟨ι,ρ,C,x,C1,sr,e1,fun vx H1 f1 c1 r1=>⟨ι,ρ,C1,y,C',sr.step f1 c1,e2,fun vy H2 f2 c2 r2=>hg ι H2 C' x y vx vy z _ c2 (r1.mono c1 f2) r2 e3 fun v H3 f3 c3 r3=>q v H3 (f1.trans (f2.trans f3)) c3 r3⟩⟩
theorem em_op {op:Operator}{r:R2}{g:Cs->SV->SV->Option SV}(ho:OpR X (WY op) r)(hg:R2ok X.K r g)(ha:EM X a fa)(hb:EM X b fb):EM X (.BinOp a op b pos) (mOp g fa fb):=
 PE.imp (pe_op ho ha hb) fun _ _ _ h=>tM_op hg h
theorem em_ix {r:R2}{g:Cs->SV->SV->Option SV}(hr:IxR X r)(hg:R2ok X.K r g)(ha:EM X a fa)(hb:EM X b fb)(hs:PlainIx b):EM X (.Subscript a b pos) (mOp g fa fb):=
 PE.imp (pe_ix hr ha hb hs) fun _ _ _ h=>tM_op hg h
def mChain (g g':Cs->SV->SV->Option SV)(fa fb fc:4e3):PSt->M SV:=fun ρ=>bnd (fa ρ) fun x=>bnd (fb ρ) fun y=>bnd (opM fun C=>g C x y) fun z=>bnd (mB z) fun b=>
 if b then bnd (fc ρ) fun w=>opM fun C=>g' C y w else ret (.v (.bl false))
def mTest (f:4e3):PSt->M Bool:=fun ρ=>bnd (f ρ) mB
theorem tM_test {K:W.Frag}{f:4e3}{σ:St}{H:Hp}{Q:Bool->Hp->Prop}(h:tMB K (mTest f) σ H Q):tTest (tM K f) σ H Q:=by
 sleep 6
 obtain ⟨rfl,rfl⟩:=mB_some e
 exact ⟨ι,ρ,C,_,C',sr,e1,fun v H1 f1 c1 r1=>⟨_,repB r1,q H1 f1 c1⟩⟩
def deref (C:Cs):SV->Option PV
 | .v p=>some p
 | .c k=>C[k]?
def truP:PV->Option Bool
 | .non=>some false
 | .bl b=>some b
 | .int i=>some (i != 0)
 | .str y=>some ((y.length:Int) != 0)
 | .tup xs=>some (!xs.isEmpty)
 | .lst xs=>some (!xs.isEmpty)
 | .dct ks _=>some (!ks.isEmpty)
 | _=>none
def mTru (f:4e3):PSt->M Bool:=fun ρ=>bnd (f ρ) fun x=>opM fun C=>(deref C x).bind truP
inductive Lies (K:W.Frag)(ι:List Addr)(H:Hp):PV->V->Prop
 | non:Lies K ι H .non .non
 | bl (b:Bool):Lies K ι H (.bl b) (.bl b)
 | int (i:Int):Lies K ι H (.int i) (.int i)
 | str (x:Str) (h:x.length<=Yt):Lies K ι H (.str x) (.str x)
 | tup {a:Addr} {ps:List PV} {vs:List V} (h:TpR H a vs) (r:Reps K ι H ps vs):Lies K ι H (.tup ps) (.ref a)
 | lst {a:Addr} {ps:List PV} {vs:List V} (h:SqL K H a vs) (r:Reps K ι H ps vs):Lies K ι H (.lst ps) (.ref a)
 | dct {a:Addr} {qs:List Key} {ps:List PV} {vs:List V} (h:H a=some (.dK (qs.zip vs))) (hl:qs.length=vs.length) (r:Reps K ι H ps vs):Lies K ι H (.dct (qs.map kP) ps) (.ref a)
 | dtt {a:Addr} {ks:List (List Key)} {ps:List PV} {vs:List V} (h:Rd H a (.dT (ks.zip vs))) (hl:ks.length=vs.length) (r:Reps K ι H ps vs):Lies K ι H (.dtt ks ps) (.ref a)
 | fn (a:Addr):Lies K ι H (.fn a) (.ref a)
 | ty (n:String):Lies K ι H (.ty n) (.ty n)
theorem Rep.lies {K:W.Frag}{ι:3e7}{H:Hp}:∀{p:PV} {v:V},Rep K ι H p v->Lies K ι H p v
 | .non,v,h=>by unfold Rep at h;subst h;exact .non
 | .bl b,v,h=>by unfold Rep at h;subst h;exact .bl b
 | .int i,v,h=>by unfold Rep at h;subst h;exact .int i
 | .str x,v,h=>by unfold Rep at h;obtain ⟨rfl,h⟩:=h;exact .str x h
 | .tup ps,v,h=>by unfold Rep at h;obtain ⟨a,vs,rfl,h,r⟩:=h;exact .tup h r
 | .lst ps,v,h=>by unfold Rep at h;obtain ⟨a,vs,rfl,h,r⟩:=h;exact .lst h.sq r
 | .dct ks ps,v,h=>by unfold Rep at h;obtain ⟨a,qs,vs,rfl,n,hd,hl,rfl,r⟩:=h;exact .dct hd hl r
 | .dtt ks ps,v,h=>by unfold Rep at h;obtain ⟨a,vs,rfl,n,hd,hl,r⟩:=h;exact .dtt hd hl r
 | .fn a,v,h=>by unfold Rep at h;subst h;exact .fn a
 | .ty n,v,h=>by unfold Rep at h;subst h;exact .ty n
theorem RepS.lies {K:W.Frag}{ι:3e7}{H:Hp}{C:Cs}(cr:11e5){x:SV}{p:PV}{v:V}(r:RepS K ι H x v)(e:deref C x=some p):Lies K ι H p v:=by
 cases x with
 | v q=>cases e;exact Rep.lies r
 | c k=>
  obtain ⟨a,rfl,hk⟩:=r
  have ok:=cr.ok k a p hk e
  cases p with
  | lst ps=>obtain ⟨vs,h,r⟩:=ok;exact .lst (.of h) r
  | dct ks ps=>obtain ⟨qs,vs,h,hl,rfl,r⟩:=ok;exact .dct h hl r
  | dtt ks ps=>obtain ⟨vs,h,hl,r⟩:=ok;exact .dtt (.inl h) hl r
  | _=>exact ok.elim
theorem Reps.isEmpty {K:W.Frag}{ι:3e7}{H:Hp}{ps:List PV}{vs:List V}(r:Reps K ι H ps vs):ps.isEmpty=vs.isEmpty:=by
 have:=r.length
 cases ps<;>cases vs<;>simp at this ⊢
theorem Lies.tru {K:W.Frag}{ι:3e7}{H:Hp}{p:PV}{v:V}{k:Bool}(l:Lies K ι H p v)(e:truP p=some k):TruV K v H k:=by
 cases l with
 | non=>cases e;rfl
 | bl b=>cases e;rfl
 | int i=>cases e;rfl
 | str x h=>cases e;exact ⟨h,rfl⟩
 | tup h r=>cases e;exact .inr (.inl ⟨_,h.sq,by rw[r.isEmpty]⟩)
 | lst h r=>cases e;exact .inl ⟨_,h,by rw[r.isEmpty]⟩
 | @dct a qs ps vs h hl r=>
  cases e
  refine .inr (.inr ⟨_,h,?_⟩)
  cases qs<;>cases vs<;>simp at hl ⊢
 | dtt h hl r=>cases e
 | fn a=>cases e
 | ty n=>cases e
def mNotT (f:6e3):PSt->M Bool:=fun ρ=>bnd (f ρ) fun b=>ret (!b)
def mAndT (f g:6e3):PSt->M Bool:=fun ρ=>bnd (f ρ) fun b=>if b then g ρ else ret false
def mOrT (f g:6e3):PSt->M Bool:=fun ρ=>bnd (f ρ) fun b=>if b then ret true else g ρ
def mAndV (f g:4e3):PSt->M SV:=fun ρ=>bnd (f ρ) fun x=>bnd (mB x) fun b=>if b then g ρ else ret (.v (.bl false))
def mOrV (f g:4e3):PSt->M SV:=fun ρ=>bnd (f ρ) fun x=>bnd (mB x) fun b=>if b then ret (.v 14e3) else g ρ
def mNotV (f:4e3):PSt->M SV:=fun ρ=>bnd (f ρ) fun x=>bnd (mB x) fun b=>ret (.v (.bl !b))
def mIf (t:6e3)(f g:4e3):PSt->M SV:=fun ρ=>bnd (t ρ) fun b=>if b then f ρ else g ρ
def aNil:PSt->M (List SV):=fun _=>ret []
def aCons (f:4e3)(g:2e9):PSt->M (List SV):=fun ρ=>bnd (f ρ) fun x=>bnd (g ρ) fun xs=>ret (x::xs)
theorem am_nil:AM X [] aNil:=PA.imp pa_nil fun σ H Q h_=>by obtain ⟨ι,ρ,C,z,C',sr,e,q⟩:=h_;cases e;exact q [] H .refl sr.cr rfl
theorem am_cons {f:4e3}{g:2e9}(h:EM X e f)(k:AM X es g)(hs:1e8:=by rfl):AM X 6e8 (aCons f g):=PA.imp (pa_cons h k hs) fun σ H Q h=>by
 sleep 6
 obtain ⟨xs,C2,e2,e⟩:=Zag e
 cases e
 exact ⟨ι,ρ,C,x,C1,sr,e1,fun v H1 f1 c1 r1=>⟨ι,ρ,C1,xs,C',sr.step f1 c1,e2,fun vs H2 f2 c2 r2=>q (v::vs) H2 (f1.trans f2) c2 ⟨v,vs,rfl,r1.mono c1 f2,r2⟩⟩⟩
def C1ok (K:W.Frag)(r:14e6)(g:Cs->List SV->Option SV):Prop:=
 ∀(ι:3e7) (H:Hp) (C:Cs) (xs:List SV) (vs:List V) (z:SV) (Q:VK),CR K ι H C->RepSs K ι H xs vs->g C xs=some z->(∀v H',Fr ι H H'->CR K ι H' C->RepS K ι H' z v->Q v H')->r vs H Q
def mCB (g:Cs->List SV->Option SV)(fs:2e9):PSt->M SV:=fun ρ=>bnd (fs ρ) fun xs=>opM fun C=>g C xs
theorem tM_CB {K:W.Frag}{r:14e6}{g:Cs->List SV->Option SV}{fs:2e9}(hg:C1ok K r g){σ:St}{H:Hp}{Q:VK}(h:tM K (mCB g fs) σ H Q):tCB r (tMA K fs) σ H Q:=by
 obtain ⟨ι,ρ,C,z,C',sr,e,q⟩:=h
 sleep 9
 obtain ⟨e2,rfl⟩:=ZaN e
 exact ⟨ι,ρ,C,xs,C',sr,e1,fun vs H1 f1 c1 r1=>hg ι H1 C' xs vs z _ c1 r1 e2 fun v H2 f2 c2 r2=>q v H2 (f1.trans f2) c2 r2⟩
theorem ZcL {id:String}{r:14e6}{g:Cs->List SV->Option SV}{fs:2e9}(hc:CallR X (.builtin id) r)(hg:C1ok X.K r g)(hgl:Gl X x)(hm:X.mg x=none)(hv:Xb x=some (.builtin id))(ha:AM X 6e8 fs)(hn:x≠"__name__":=by decide)(hdb:5e1:=by decide)
  (he:1e8:=by rfl) (hpl:2e8:=by rfl):EM X 8e4 (mCB g fs):=
 PE.imp (pe_callB hc hgl hm hv ha hn hdb he hpl) fun _ _ _ h=>tM_CB hg h
theorem em_callTy {T:String}{r:14e6}{g:Cs->List SV->Option SV}{fs:2e9}(hc:CallR X (.type T) r)(hg:C1ok X.K r g)(hgl:Gl X x)(hm:X.mg x=none)(hv:Xb x=some (.type T))(ha:AM X 6e8 fs)(hn:x≠"__name__":=by decide)(hdb:5e1:=by decide)
  (he:1e8:=by rfl) (hpl:2e8:=by rfl):EM X 8e4 (mCB g fs):=
 PE.imp (pe_callTy hc hgl hm hv ha hn hdb he hpl) fun _ _ _ h=>tM_CB hg h
def liftSp (K:W.Frag)(F:List SV->M SV):Sp:=fun vs H Q _=>∃ι ss C r C',CR K ι H C/\RepSs K ι H ss vs/\F ss C=some (r,C')/\∀v H',Fr ι H H'->CR K ι H' C'->RepS K ι H' r v->Q v H'
def mFn (F:List SV->M SV)(fs:2e9):PSt->M SV:=fun ρ=>bnd (fs ρ) F
theorem em_call {k:Nat}{f:Addr}{fd:XZ}{ps:5e6}{F:List SV->M SV}{fs:2e9}(G:FnOk X.prog X.w X.K X.mg X.base CX0 k f fd ps (liftSp X.K F))(hr:Room k X.A)(hg:Gl X x)(hm:X.mg x=some (.ref f))(hk:V0 X.K (.ref f)=true)(hb:Binds X.K fd ps [])
  (ha:AM X 6e8 fs) (hdb:5e1:=by decide) (he:1e8:=by rfl) (hpl:2e8:=by rfl):
  EM X 8e4 (mFn F fs):=PE.imp (pe_call G hr hg hm hk hb .nil pass0 ha hdb he hpl) fun σ H Q h=>by
 obtain ⟨ι,ρ,C,z,C',sr,e,q⟩:=h
 sleep 9
 refine ⟨ι,ρ,C,xs,C1,sr,e1,fun vs H1 f1 c1 r1=>?_⟩
 show liftSp X.K F (vs++[]) H1 Q E0
 rw[YJ]
 exact ⟨ι,xs,C1,z,C',c1,r1,e,fun v H2 f2 c2 r2=>q v H2 (f1.trans f2) c2 r2⟩
end
def Ex (ι ι2:3e7)(H H':Hp):Prop:=Fr ι H H'/\∀b∈ι2,H b=none
section
variable {K:W.Frag}{ι ι2 ι3 ι':3e7}{H H1 H2 H':Hp}{C C' C1:Cs}{ρ:PSt}{σ:St}
mutual
theorem Rep.tr (cr:11e5)(h:∀b o,b∉ι->H b=some o->b∉ι'/\H' b=some o):∀(p:PV) (v:V),Rep K ι H p v->Rep K ι' H' p v
 | .non,v,q=>by unfold Rep at q ⊢;exact q
 | .bl b,v,q=>by unfold Rep at q ⊢;exact q
 | .int i,v,q=>by unfold Rep at q ⊢;exact q
 | .str x,v,q=>by unfold Rep at q ⊢;exact q
 | .tup ps,v,q=>by
  unfold Rep at q ⊢
  obtain ⟨a,vs,e,sq,r⟩:=q
  exact ⟨a,vs,e,(h _ _ (cr.notup sq (fun _ e=>nomatch e) fun _ e=>nomatch e) sq).2,Reps.tr cr h ps vs r⟩
 | .lst ps,v,q=>by
  unfold Rep at q ⊢
  obtain ⟨a,vs,e,sq,r⟩:=q
  refine ⟨a,vs,e,?_,Reps.tr cr h ps vs r⟩
  rcases sq with ⟨n,z | ⟨o,z⟩⟩ | z
  ·exact .inl ⟨(h _ _ n z).1,.inl (h _ _ n z).2⟩
  ·exact .inl ⟨(h _ _ n z).1,.inr ⟨o,(h _ _ n z).2⟩⟩
  ·exact .inr z
 | .dct ks ps,v,q=>by
  unfold Rep at q ⊢
  obtain ⟨a,qs,vs,e,n,hd,hl,hk,r⟩:=q
  exact ⟨a,qs,vs,e,(h _ _ n hd).1,(h _ _ n hd).2,hl,hk,Reps.tr cr h ps vs r⟩
 | .dtt ks ps,v,q=>by
  unfold Rep at q ⊢
  obtain ⟨a,vs,e,n,hd,hl,r⟩:=q
  exact ⟨a,vs,e,by rcases id hd with q | ⟨o,q⟩<;>exact (h _ _ n q).1,rd_mono (fun o q=>(h _ o n q).2) hd,hl,Reps.tr cr h ps vs r⟩
 | .fn a,v,q=>by unfold Rep at q ⊢;exact q
 | .ty n,v,q=>by unfold Rep at q ⊢;exact q
theorem Reps.tr (cr:11e5)(h:∀b o,b∉ι->H b=some o->b∉ι'/\H' b=some o):∀(ps:List PV) (vs:List V),Reps K ι H ps vs->Reps K ι' H' ps vs
 | [],vs,q=>by unfold Reps at q ⊢;exact q
 | p::ps,vs,q=>by
  unfold Reps at q ⊢
  obtain ⟨v,r,e,h1,h2⟩:=q
  exact ⟨v,r,e,Rep.tr cr h p v h1,Reps.tr cr h ps r h2⟩
end
theorem Ex.fr (f:Fr ι H H'):Ex ι [] H H':=⟨f,fun _ z=>nomatch z⟩
theorem Ex.out (x:Ex ι ι2 H H'):∀b o,b∉ι->H b=some o->b∉ι++ι2/\H' b=some o:=fun b o n e=>by
 refine ⟨fun z=>?_,x.1 b o n e⟩
 rcases Yz.mp z with z | z
 ·exact n z
 ·rw[x.2 b z] at e;cases e
theorem Ex.trans (c:CR K 9e1 H1 C1)(x:Ex ι ι2 H H1)(y:Ex 9e1 ι3 H1 H2):Ex ι (ι2++ι3) H H2:=by
 refine ⟨fun b o n e=>(y.out b o (x.out b o n e).1 (x.out b o n e).2).2,fun b hb=>?_⟩
 rcases Yz.mp hb with hb | hb
 ·exact x.2 b hb
 ·cases e:H b with
  | none=>rfl
  | some o=>
   by_cases n:b∈ι
   ·rcases c.mut (Yx _ n) with ⟨vs,z⟩ | ⟨vs,z⟩ | ⟨vs,z⟩
    ·rw[y.2 b hb] at z;cases z
    ·rw[y.2 b hb] at z;cases z
    ·rw[y.2 b hb] at z;cases z
   ·have:=x.1 b o n e
    rw[y.2 b hb] at this;cases this
theorem RepS.ex (cr:11e5)(x:Ex ι ι2 H H'){s:SV}{v:V}(r:RepS K ι H s v):RepS K 9e1 H' s v:=by
 cases s with
 | v p=>exact Rep.tr cr x.out p v r
 | c k=>
  obtain ⟨a,e,hk⟩:=r
  refine ⟨a,e,?_⟩
  have hl:k < ι.length:=by
   rcases YH k ι.length with q | q
   ·exact q
   ·rw[Yi.mpr q] at hk;cases hk
  rw[Yf hl];exact hk
theorem SR.ex (sr:SR K ι H ρ σ C)(x:Ex ι ι2 H H')(c:CR K 9e1 H' C'):SR K 9e1 H' ρ σ C':=
 ⟨c,sr.len,fun i s e=>by obtain ⟨v,h1,h2⟩:=sr.loc i s e;exact ⟨v,h1,h2.ex sr.cr x⟩⟩
end
theorem RepSs.length {K:W.Frag}{ι:3e7}{H:Hp}:∀{ss:List SV} {vs:List V},RepSs K ι H ss vs->ss.length=vs.length
 | [],vs,h=>by rw[show vs=[] from h];rfl
 | s::ss,vs,h=>by obtain ⟨v,r,rfl,_,t⟩:=h;rw[YX,YX,RepSs.length t]
def Done (K:W.Frag)(ι:3e7)(H:Hp)(D:Ends)(C':Cs):PF->Prop
 | .nx ρ=>∀ι2 σ' H',Ex ι ι2 H H'->SR K 9e1 H' ρ σ' C'->D.nx σ' H'
 | .rt r=>∀ι2 v H',Ex ι ι2 H H'->CR K 9e1 H' C'->RepS K 9e1 H' r v->D.rt v H'
 | .bk ρ=>∀ι2 σ' H',Ex ι ι2 H H'->SR K 9e1 H' ρ σ' C'->D.bk σ' H'
 | .ct ρ=>∀ι2 σ' H',Ex ι ι2 H H'->SR K 9e1 H' ρ σ' C'->D.ct σ' H'
 | .rf ps=>∀ι2 p vs H',Ex ι ι2 H H'->CR K 9e1 H' C'->H' p=none->Reps K 9e1 H' ps vs->D.rt (.ref p) (upd H' p (.lst vs))
 | .rq qs=>∀ι2 p vs H',Ex ι ι2 H H'->CR K 9e1 H' C'->H' p=none->RepSs K 9e1 H' qs vs->D.rt (.ref p) (upd H' p (.tup vs))
def tMS (K:W.Frag)(f:11e6):TS:=fun D σ H=>∃ι ρ C fl C',SR K ι H ρ σ C/\f ρ C=some (fl,C')/\Done K ι H D C' fl
def SM (X:Cx)(st:Stmt)(f:11e6):Prop:=PS X st (tMS X.K f)
def BM (X:Cx)(sts:List Stmt)(f:11e6):Prop:=PSs X sts (tMS X.K f)
section
variable {K:W.Frag}{ι ι2:3e7}{H H':Hp}{C C' C1:Cs}{ρ:PSt}{σ:St}{D:Ends}{fl:PF}
theorem Done.tr (c:CR K 9e1 H' C1)(x:Ex ι ι2 H H')(d:Done K ι H D C' fl):Done K 9e1 H' D C' fl:=by
 cases fl with
 | nx ρ=>intro ι3 σ' H2 y sr;rw[YD] at sr;exact d _ σ' H2 (x.trans c y) sr
 | rt r=>intro ι3 v H2 y cr rr;rw[YD] at cr rr;exact d _ v H2 (x.trans c y) cr rr
 | bk ρ=>intro ι3 σ' H2 y sr;rw[YD] at sr;exact d _ σ' H2 (x.trans c y) sr
 | ct ρ=>intro ι3 σ' H2 y sr;rw[YD] at sr;exact d _ σ' H2 (x.trans c y) sr
 | rf ps=>intro ι3 p vs H2 y cr hp rs;rw[YD] at cr rs;exact d _ p vs H2 (x.trans c y) cr hp rs
 | rq ps=>intro ι3 p vs H2 y cr hp rs;rw[YD] at cr rs;exact d _ p vs H2 (x.trans c y) cr hp rs
theorem Done.fr (c:CR K ι H' C1)(f:Fr ι H H')(d:Done K ι H D C' fl):Done K ι H' D C' fl:=by
 have:=Done.tr (ι2:=[]) (by rw[YJ];exact c) (Ex.fr f) d
 rw[YJ] at this;exact this
theorem Done.nx0 (sr:SR K ι H ρ σ C')(d:Done K ι H D C' (.nx ρ)):D.nx σ H:=d [] σ H (Ex.fr .refl) (by rw[YJ];exact sr)
end
section
variable {X:Cx}{a b e c tg:Expr}{es:5e9}{st:Stmt}{rest sts sts':List Stmt}{f g:11e6}{pos p pos':Pos}{x:Str}
def mSkip:PSt->M PF:=fun ρ=>ret (.nx ρ)
def mSeq (f g:11e6):PSt->M PF:=fun ρ=>bnd (f ρ) fun fl=>match fl with
 | .nx ρ'=>g ρ'
 | fl=>ret fl
def mIfS (t:6e3)(f g:11e6):PSt->M PF:=fun ρ=>bnd (t ρ) fun b=>if b then f ρ else g ρ
def mRet (f:4e3):PSt->M PF:=fun ρ=>bnd (f ρ) fun r=>ret (.rt r)
def mRetF (f:6e0):PSt->M PF:=fun ρ=>bnd (f ρ) fun r=>ret (.rf r)
def mRetQ (fs:2e9):PSt->M PF:=fun ρ=>bnd (fs ρ) fun xs=>if xs.length<=1000 then ret (.rq xs) else fun _=>none
def mDrop (f:4e3):PSt->M PF:=fun ρ=>bnd (f ρ) fun _=>ret (.nx ρ)
def mSet (i:Nat)(f:4e3):PSt->M PF:=fun ρ=>bnd (f ρ) fun r=>ret (.nx (ρ.set i (some r)))
def mNew (i:Nat)(f:6e0):PSt->M PF:=fun ρ=>bnd (f ρ) fun ps=>fun C=>some (.nx (ρ.set i (some (.c C.length))),C++[.lst ps])
theorem new_cell {K:W.Frag}{ι:3e7}{H H':Hp}{ρ:PSt}{σ:St}{C C1:Cs}{D:Ends}{i:Nat}{ps:List PV}{q:Addr}{vs:List V}(sr:SR K ι H ρ σ C)(d:Done K ι H D (C1++[.lst ps]) (.nx (ρ.set i (some (.c C1.length)))))
  (f1:Fr ι H H') (c1:CR K ι H' C1) (hq:H' q=none) (rs:Reps K ι H' ps vs):D.nx (σ.set i (some (.ref q))) (upd H' q (.lst vs)):=by
 have c2:CR K (ι++[q]) (upd H' q (.lst vs)) (C1++[.lst ps]):=c1.add hq ⟨vs,ZaQ,RepsNew c1 hq ps vs rs⟩
 have x:Ex ι [q] H (upd H' q (.lst vs)):=⟨f1.trans (Fr.new hq),fun b hb=>by
  have:b=q:=by simpa using hb
  subst this
  cases e:H b with
  | none=>rfl
  | some o=>
   by_cases n:b∈ι
   ·rcases c1.mut n with ⟨vs,z⟩ | ⟨vs,z⟩ | ⟨vs,z⟩
    ·rw[hq] at z;cases z
    ·rw[hq] at z;cases z
    ·rw[hq] at z;cases z
   ·have:=f1 b o n e;rw[hq] at this;cases this⟩
 refine d [q] _ _ x ((sr.ex x c2).set i ⟨q,rfl,?_⟩)
 rw[←c1.len];simp
def plain:List SV->Option 13e5
 | []=>some []
 | .v p::r=>(plain r).map (p::·)
 | .c _::_=>none
theorem ZbV {K:W.Frag}{ι:3e7}{H:Hp}:∀{xs:List SV} {ps:List PV} {vs:List V},plain xs=some ps->RepSs K ι H xs vs->Reps K ι H ps vs/\vs.length=xs.length
 | [],ps,vs,e,r=>by cases e;rw[show vs=[] from r];exact ⟨.nil,rfl⟩
 | .v p::xs,ps,vs,e,r=>by
  obtain ⟨v,w,rfl,h1,h2⟩:=r
  unfold plain at e
  cases h:plain xs with
  | none=>rw[h] at e;cases e
  | some qs=>
   rw[h] at e;cases e
   exact ⟨.cons h1 (ZbV h h2).1,by rw[YX,YX,(ZbV h h2).2]⟩
 | .c _::_,ps,vs,e,r=>by cases e
theorem k1000 {n:Nat}(h:n<=1000):n<=sizeLine:=YR h (by rw[YU];decide)
def mTup (fs:2e9):PSt->M SV:=fun ρ=>bnd (fs ρ) fun xs=>opM fun _=>if xs.length<=1000 then (plain xs).map fun ps=>.v 9e2 else none
def mLst (fs:2e9):PSt->M 13e5:=fun ρ=>bnd (fs ρ) fun xs=>opM fun _=>if xs.length<=1000 then plain xs else none
def mVal (f:6e0):PSt->M SV:=fun ρ=>bnd (f ρ) fun ps=>ret (.v 8e6)
theorem Zc3 {K:W.Frag}{ι:3e7}{H:Hp}{C:Cs}{ps:List PV}{q:Addr}{vs:List V}(c1:11e5)(hq:H q=none)(rs:Reps K ι H ps vs):Rep K ι (upd H q (.lst vs)) 8e6 (.ref q):=by
 unfold Rep
 refine ⟨q,vs,rfl,.inl ⟨fun z=>?_,.inl ZaQ⟩,Reps.stay (fun b o e=>by rw[Zax (Zas e hq)];exact e) ps vs rs⟩
 rcases c1.mut z with ⟨_,e⟩ | ⟨_,e⟩ | ⟨_,e⟩
 ·rw[hq] at e;cases e
 ·rw[hq] at e;cases e
 ·rw[hq] at e;cases e
def tMG (K:W.Frag)(g:4e5):TG:=fun v σ H Q=>∃ι ρ C p ρ',SR K ι H ρ σ C/\Rep K ι H p v/\g p ρ=some ρ'/\∀σ',SR K ι H ρ' σ' C->Q σ' H
def tMGs (K:W.Frag)(g:List PV->PSt->Option PSt):TGs:=fun v σ H Q=>∃ι ρ C p ρ',SR K ι H ρ σ C/\Reps K ι H p v/\g p ρ=some ρ'/\∀σ',SR K ι H ρ' σ' C->Q σ' H
def GM (X:Cx)(tg:Expr)(g:4e5):Prop:=PG X tg (tMG X.K g)
def GMs (X:Cx)(ts:5e9)(g:List PV->PSt->Option PSt):Prop:=PGs X ts (tMGs X.K g)
theorem PG.imp {t t':TG}(h:PG X tg t)(k:∀v σ H Q,t' v σ H Q->t v σ H Q):PG X tg t':=fun pins s σ H v u Q I r q=>h pins s σ H v u Q I r (k v σ H Q q)
theorem PGs.imp {t t':TGs}(h:PGs X es t)(k:∀v σ H Q,t' v σ H Q->t v σ H Q):PGs X es t':=fun pins s σ H v u Q I r q=>h pins s σ H v u Q I r (k v σ H Q q)
def hName (i:Nat):PV->PSt->Option PSt:=fun p ρ=>some (ρ.set i (some (.v p)))
def hNil:List PV->PSt->Option PSt
 | [],ρ=>some ρ
 | _::_,_=>none
def hCons (g:4e5)(gs:List PV->PSt->Option PSt):List PV->PSt->Option PSt
 | [],_=>none
 | p::ps,ρ=>(g p ρ).bind fun ρ'=>gs ps ρ'
def hTup (gs:List PV->PSt->Option PSt)(n:Nat):PV->PSt->Option PSt
 | .tup ps,ρ=>if ps.length=n then gs ps ρ else none
 | _,_=>none
def mAsg (f:4e3)(g:4e5):PSt->M PF:=fun ρ=>bnd (f ρ) fun r=>match r with
 | .v p=>fun C=>(g p ρ).map fun ρ'=>(.nx ρ',C)
 | .c _=>fun _=>none
end
structure Iter (K:W.Frag)(ι:List Addr)(H1:Hp)(xs:List PV)(J:It):Prop where
 go:∀ι2 H2 C2,Ex ι ι2 H1 H2->CR K 9e1 H2 C2->∀i,i < xs.length->J.go i H2
 yld:∀ι2 H2 C2,Ex ι ι2 H1 H2->CR K 9e1 H2 C2->∀i v H3,i < xs.length->J.yld i H2 v H3->(∀b o,H2 b=some o->H3 b=some o)/\∃p,xs[i]? = some p/\Rep K 9e1 H3 p v
 stop:∀ι2 H2 C2,Ex ι ι2 H1 H2->CR K 9e1 H2 C2->J.stop xs.length H2
def tMI (K:W.Frag)(f:6e0):TI:=fun σ H R=>∃ι ρ C xs C',SR K ι H ρ σ C/\f ρ C=some (xs,C')/\∀J H1,Fr ι H H1->CR K ι H1 C'->Iter K ι H1 xs J->R J H1
def IM (X:Cx)(tg iter:Expr)(f:6e0):Prop:=PI X tg iter (tMI X.K f)
section
variable {X:Cx}{e tg iter elt:Expr}{es:5e9}{body:List Stmt}{f:11e6}{pos p:Pos}{x:Str}
def loop (g:4e5)(f:11e6):List PV->PSt->M PF
 | [],ρ=>ret (.nx ρ)
 | x::xs,ρ=>match g x ρ with
  | none=>fun _=>none
  | some ρ1=>bnd (f ρ1) fun fl=>match fl with
   | .nx ρ2=>loop g f xs ρ2
   | .ct ρ2=>loop g f xs ρ2
   | .bk ρ2=>ret (.nx ρ2)
   | .rt r=>ret (.rt r)
   | .rf ps=>ret (.rf ps)
   | .rq ps=>ret (.rq ps)
def mFor (it:6e0)(g:4e5)(f:11e6):PSt->M PF:=fun ρ=>bnd (it ρ) fun xs=>loop g f xs ρ
def stIn' (vs:5e6)(fr:11e8)(ρ:PSt):PSt:=vs.map (fun _=>none)++fr.map fun i=>(ρ[i]?).join
def compL (g:4e5)(tt:6e3)(te:4e3):List PV->PSt->List PV->M 13e5
 | [],_,ys=>ret ys
 | x::xs,ρ,ys=>match g x ρ with
  | none=>fun _=>none
  | some ρ1=>bnd (tt ρ1) fun b=>if b then bnd (te ρ1) fun y=>match y with
    | .v p=>compL g tt te xs ρ1 (ys++[p])
    | .c _=>fun _=>none
   else compL g tt te xs ρ1 ys
def mComp (it:6e0)(vs:5e6)(fr:11e8)(g:4e5)(tt:6e3)(te:4e3):PSt->M 13e5:=fun ρ=>bnd (it ρ) fun xs=>if xs.length<=100000 then compL g tt te xs (stIn' vs fr ρ) [] else fun _=>none
theorem SR.block {K:W.Frag}{ι:3e7}{H:Hp}{ρ:PSt}{σ:St}{C:Cs}(sr:SR K ι H ρ σ C)(vs:5e6)(fr:11e8):SR K ι H (stIn' vs fr ρ) (stIn vs fr σ) C:=by
 refine ⟨sr.cr,by simp[stIn',stIn],fun i s e=>?_⟩
 unfold stIn' at e
 unfold stIn
 rcases YH i vs.length with h | h
 ·rw[Yf 13e1] at e
  simp at e
 ·rw[Y8 13e1] at e
  rw[Y8 13e1]
  simp only[YE,YL] at e ⊢
  cases hj:fr[i - vs.length]? with
  | none=>rw[hj] at e;cases e
  | some j=>
   rw[hj] at e
   have e':(ρ[j]?).join=some s:=by simpa using e
   have e2:ρ[j]? = some (some s):=by
    cases hr:ρ[j]? with
    | none=>rw[hr] at e';cases e'
    | some o=>rw[hr] at e';simp at e';rw[e']
   obtain ⟨v,h1,h2⟩:=sr.loc j s e2
   refine ⟨v,?_,h2⟩
   simp[h1]
theorem k100000 {n:Nat}(h:n<=100000):n<=sizeLine:=YR h (by rw[YU];decide)
theorem comp_pure {K:W.Frag}{it:6e0}{vs:5e6}{fr:11e8}{g:4e5}{tt:6e3}{te:4e3}{σ:St}{H:Hp}{Q:VK}{ι:3e7}{ρ:PSt}{C C':Cs}{res:List PV}(sr:SR K ι H ρ σ C)
  (e:mComp it vs fr g tt te ρ C=some (res,C')) (q:∀p vs H',Fr ι H H'->CR K ι H' C'->H' p=none->Reps K ι H' res vs->Q (.ref p) (upd H' p (.lst vs))):tComp (tMI K it) vs fr (tMG K g) (tMB K tt) (tM K te) σ H Q:=by
 sleep 9
 refine ⟨ι,ρ,C,xs,C1,sr,e1,fun J H1 f1 c1 it1=>?_⟩
 by_cases hz:xs.length<=100000
 case neg=>rw[if_neg hz] at e;cases e
 rw[if_pos hz] at e
 have sr1:=(sr.step f1 c1).block vs fr
 have x0:∀{H2:Hp},Fr ι H1 H2->Ex ι [] H1 H2:=fun f=>Ex.fr f
 have c0:∀{H2:Hp} {C2:Cs},CR K ι H2 C2->CR K (ι++[]) H2 C2:=fun c=>by rw[YJ];exact c
 refine ⟨fun i m σ2 ys H2=>∃ρ2 C2 ps,m=xs.length - i/\i<=xs.length/\Fr ι H1 H2/\SR K ι H2 ρ2 σ2 C2/\Reps K ι H2 ps ys/\ps.length<=i/\compL g tt te (xs.drop i) ρ2 ps C2=some (res,C'),⟨xs.length,_,C1,[],rfl,YV _,.refl,sr1,.nil,Yj _,e⟩,?_⟩
 rintro i m σ2 ys H2 ⟨ρ2,C2,ps,rfl,hi2,f2,sr2,rs2,hps,e2⟩
 have hys:ys.length<=sizeLine:=by rw[←rs2.length];exact k100000 (YR (YR hps hi2) hz)
 rcases YH i xs.length with hlt | hge
 ·right
  refine ⟨it1.go [] H2 C2 (x0 f2) (c0 sr2.cr) i hlt,hys,fun σ' ys' H'=>∃ρ2 C2 ps,Fr ι H1 H'/\SR K ι H' ρ2 σ' C2/\Reps K ι H' ps ys'/\ps.length<=i + 1/\compL g tt te (xs.drop (i + 1)) ρ2 ps C2=some (res,C'),?_,?_⟩
  ·rintro σ' ys' H' ⟨ρ3,C3,ps3,f3,sr3,rs3,h3,e3⟩
   exact ⟨xs.length - (i + 1),by lia,ρ3,C3,ps3,rfl,hlt,f3,sr3,rs3,h3,e3⟩
  ·intro v H3 y
   obtain ⟨sm,qv,hq,rq⟩:=it1.yld [] H2 C2 (x0 f2) (c0 sr2.cr) i v H3 hlt y
   rw[YJ] at rq
   have hd:xs.drop i=qv::xs.drop (i + 1):=by
    rw[XS hlt]
    rw[Yd hlt] at hq
    rw[YN hq]
   rw[hd] at e2
   unfold compL at e2
   cases hg1:g qv ρ2 with
   | none=>rw[hg1] at e2;cases e2
   | some ρ3=>
    rw[hg1] at e2
    obtain ⟨b,C3,e3,e4⟩:=Zag e2
    have fr3:Fr ι H2 H3:=fun b o _ z=>sm b o z
    have cr3:CR K ι H3 C2:=sr2.cr.same sm
    refine ⟨ι,ρ2,C2,qv,ρ3,sr2.step fr3 cr3,rq,hg1,fun σ4 sr4=>⟨ι,ρ3,C2,b,C3,sr4,e3,fun H5 f5 c5=>?_⟩⟩
    have f15:=f2.trans (fr3.trans f5)
    have rs5:Reps K ι H5 ps ys:=Reps.mono cr3 f5 _ _ (Reps.mono sr2.cr fr3 _ _ rs2)
    cases b with
    | true=>
     rw[if_pos rfl] at e4
     dsimp only
     rw[if_pos rfl]
     obtain ⟨y1,C6,e6,e7⟩:=Zag e4
     refine ⟨ι,ρ3,C3,y1,C6,sr4.step f5 c5,e6,fun v7 H7 f7 c7 r7=>?_⟩
     cases y1 with
     | c k=>cases e7
     | v p7=>exact ⟨ρ3,C6,ps++[p7],f15.trans f7,(sr4.step f5 c5).step f7 c7,(Reps.mono c5 f7 _ _ rs5).append (.cons r7 .nil),by simp;exact hps,e7⟩
    | false=>
     rw[if_neg Yu] at e4
     dsimp only
     rw[if_neg Yu]
     exact ⟨ρ3,C3,ps,f15,sr4.step f5 c5,rs5,Nat.le_succ_of_le hps,e4⟩
 ·left
  have hi3:i=xs.length:=by lia
  subst hi3
  rw[W6] at e2
  cases e2
  exact ⟨it1.stop [] H2 _ (x0 f2) (c0 sr2.cr),hys,fun D hD=>q D ys H2 (f1.trans f2) sr2.cr hD rs2⟩
section
variable {ifs:5e9}{scope:Scope}{vs fs:5e6}{fr:11e8}{it:6e0}{g:4e5}{tt:6e3}{te:4e3}
def TsM (X:Cx)(ifs:5e9)(t:6e3):Prop:=PTs X ifs (tMB X.K t)
def tOk:PSt->M Bool:=fun _=>ret true
end
end
theorem CR.cut {K:W.Frag}{ι ι2:3e7}{H:Hp}{C:Cs}{n:Nat}(c:CR K 9e1 H C)(hn:ι.length=n):CR K ι H (C.take n):=by
 have hlen:(ι++ι2).length=C.length:=c.len
 rw[Xn] at hlen
 have hs:∀b o,H b=some o->b∉ι++ι2->b∉ι:=fun b o _ z q=>z (Yx _ q)
 refine ⟨by rw[Xl];lia,(X2.mp c.nd).1,fun k a d h1 h2=>?_⟩
 have hk:k < ι.length:=by
  rcases YH k ι.length with q | q
  ·exact q
  ·rw[Yi.mpr q] at h1;cases h1
 rw[Xh 1e2] at h2
 have ok:=c.ok k a d (by rw[Yf hk];exact h1) h2
 cases d with
 | lst ps=>obtain ⟨vs,e,r⟩:=ok;exact ⟨vs,e,15e5⟩
 | dct ks ps=>obtain ⟨qs,vs,e,hl,hk,r⟩:=ok;exact ⟨qs,vs,e,hl,hk,15e5⟩
 | dtt ks ps=>obtain ⟨vs,e,hl,r⟩:=ok;exact ⟨vs,e,hl,15e5⟩
 | _=>exact ok.elim
def fin (n:Nat)(C':Cs):SV->Option (SV×Cs)
 | .v p=>some (.v p,C'.take n)
 | .c k=>if k < n then some (.c k,C'.take n) else (C'[k]?).map fun c=>(.v c,C'.take n)
def finQ (n:Nat)(C':Cs):List SV->Option 13e5
 | []=>some []
 | .v p::r=>(finQ n C' r).map (p::·)
 | .c k::r=>if k < n then none else (C'[k]?).bind fun c=>(finQ n C' r).map (c::·)
def mDef (n pad:Nat)(body:11e6):List SV->M SV:=fun ss C=>if ss.length=n then (match body (ss.map some++W1 pad none) C with
 | some (.rt r,C')=>fin C.length C' r
 | some (.nx _,C')=>some (.v .non,C'.take C.length)
 | some (.rf ps,C')=>some (.v 8e6,C'.take C.length)
 | some (.rq qs,C')=>(finQ C.length C' qs).map fun ps=>(.v 9e2,C'.take C.length)
 | _=>none) else none
def mDefF (n pad:Nat)(body:11e6):List SV->M 13e5:=fun ss C=>if ss.length=n then (match body (ss.map some++W1 pad none) C with
 | some (.rf ps,C')=>some (ps,C'.take C.length)
 | _=>none) else none
def liftSpF (K:W.Frag)(F:List SV->M 13e5):Sp:=fun vs H Q _=>∃ι ss C ps C',CR K ι H C/\RepSs K ι H ss vs/\F ss C=some (ps,C')/\∀p vs H',Fr ι H H'->CR K ι H' C'->H' p=none->Reps K ι H' ps vs->Q (.ref p) (upd H' p (.lst vs))
def mFnF (F:List SV->M 13e5)(fs:2e9):PSt->M 13e5:=fun ρ=>bnd (fs ρ) F
theorem fm_call {X:Cx}{e:Expr}{es:5e9}{p pos:Pos}{x:Str}{k:Nat}{f:Addr}{fd:XZ}{ps:5e6}{F:List SV->M 13e5}{fs:2e9}(G:FnOk X.prog X.w X.K X.mg X.base CX0 k f fd ps (liftSpF X.K F))(hr:Room k X.A)(hg:Gl X x)(hm:X.mg x=some (.ref f))(hk:V0 X.K (.ref f)=true)(hb:L2.Binds X.K fd ps [])
  (ha:AM X 6e8 fs) (hdb:5e1:=by decide) (he:1e8:=by rfl) (hpl:2e8:=by rfl):
  FM X 8e4 (mFnF F fs):=PE.imp (pe_call G hr hg hm hk hb .nil pass0 ha hdb he hpl) fun σ H Q h_=>by
 sleep 11
 obtain ⟨xs,C1,e1,g1⟩:=Zag e
 refine ⟨ι,ρ,C,xs,C1,sr,e1,fun vs H1 f1 c1 r1=>?_⟩
 show liftSpF X.K F (vs++[]) H1 Q E0
 rw[YJ]
 exact ⟨ι,xs,C1,z,C',c1,r1,g1,fun q' ws H2 f2 c2 h2 r2=>q q' ws H2 (f1.trans f2) c2 h2 r2⟩
theorem fin_ok {K:W.Frag}{ι ι2:3e7}{H:Hp}{C' C2:Cs}{n:Nat}{r r':SV}{v:V}(c:CR K 9e1 H C')(hn:ι.length=n)(rr:RepS K 9e1 H r v)(e:fin n C' r=some (r',C2)):CR K ι H C2/\RepS K ι H r' v:=by
 have hs:∀b o,H b=some o->b∉ι++ι2->b∉ι:=fun b o _ z q=>z (Yx _ q)
 cases r with
 | v p=>cases e;exact ⟨c.cut hn,Rep.cells hs p v rr⟩
 | c k=>
  obtain ⟨a,rfl,hk⟩:=rr
  replace e:(if k < n then some (SV.c k,C'.take n) else (C'[k]?).map fun c=>(SV.v c,C'.take n))=some (r',C2):=e
  by_cases h:k < n
  ·rw[if_pos h] at e
   cases e
   refine ⟨c.cut hn,a,rfl,?_⟩
   rw[Yf 1e2] at hk;exact hk
  ·rw[if_neg h] at e
   cases hd:C'[k]? with
   | none=>rw[hd] at e;cases e
   | some d=>
    rw[hd] at e
    cases e
    refine ⟨c.cut hn,?_⟩
    have ok:=c.ok k a d hk hd
    have hna:a∉ι:=fun z=>by
     obtain ⟨j,hj,ej⟩:=Ww z
     have hjk:(ι++ι2)[j]? = some a:=by rw[Yf hj,Yd hj,ej]
     have hkl:k < (ι++ι2).length:=by
      rcases YH k (ι++ι2).length with q | q
      ·exact q
      ·rw[Yi.mpr q] at hk;cases hk
     have hjl:j < (ι++ι2).length:=by rw[Xn];lia
     have e1:=(YS.mp hjk).2
     have e2:=(YS.mp hk).2
     have:=(Wz c.nd).mp (e1.trans e2.symm)
     lia
    show Rep K ι H d (.ref a)
    cases d with
    | lst ps=>obtain ⟨vs,e,r⟩:=ok;unfold Rep;exact ⟨a,vs,rfl,.inl ⟨hna,.inl e⟩,15e5⟩
    | dct ks ps=>obtain ⟨qs,vs,e,hl,hk,r⟩:=ok;unfold Rep;exact ⟨a,qs,vs,rfl,hna,e,hl,hk,15e5⟩
    | dtt ks ps=>obtain ⟨vs,e,hl,r⟩:=ok;unfold Rep;exact ⟨a,vs,rfl,hna,.inl e,hl,15e5⟩
    | _=>exact ok.elim
theorem finQ_ok {K:W.Frag}{ι ι2:3e7}{H:Hp}{C':Cs}{n:Nat}(c:CR K 9e1 H C')(hn:ι.length=n):∀{qs:List SV} {ps:List PV} {vs:List V},RepSs K 9e1 H qs vs->finQ n C' qs=some ps->Reps K ι H ps vs
 | [],ps,vs,r,e=>by cases e;rw[show vs=[] from r];exact .nil
 | .v p::qs,ps,vs,r,e=>by
  obtain ⟨v,w,rfl,h1,h2⟩:=r
  unfold finQ at e
  cases hq:finQ n C' qs with
  | none=>rw[hq] at e;cases e
  | some z=>
   rw[hq] at e;cases e
   exact .cons (fin_ok (r:=.v p) (r':=.v p) c hn h1 rfl).2 (finQ_ok c hn h2 hq)
 | .c k::qs,ps,vs,r,e=>by
  obtain ⟨v,w,rfl,h1,h2⟩:=r
  unfold finQ at e
  by_cases hk:k < n
  ·rw[if_pos hk] at e;cases e
  ·rw[if_neg hk] at e
   cases hc:C'[k]? with
   | none=>rw[hc] at e;cases e
   | some d=>
    cases hq:finQ n C' qs with
    | none=>rw[hc,hq] at e;cases e
    | some z=>
     rw[hc,hq] at e;cases e
     exact .cons (fin_ok (r:=.c k) (r':=.v d) c hn h1 (show (if k < n then some (SV.c k,C'.take n) else (C'[k]?).map fun c=>(SV.v c,C'.take n))=some (.v d,C'.take n) by rw[if_neg hk,hc];rfl)).2 (finQ_ok c hn h2 hq)
theorem RepSs.get {K:W.Frag}{ι:3e7}{H:Hp}:∀{ss:List SV} {vs:List V} {i:Nat} {s:SV},RepSs K ι H ss vs->ss[i]? = some s->∃v,vs[i]? = some v/\RepS K ι H s v
 | [],_,_,_,h,e=>by simp at e
 | q::ss,vs,0,s,h,e=>by
  obtain ⟨v,r,rfl,h1,h2⟩:=h
  simp at e;subst e;exact ⟨v,rfl,h1⟩
 | q::ss,vs,i + 1,s,h,e=>by
  obtain ⟨v,r,rfl,h1,h2⟩:=h
  obtain ⟨w,e1,r1⟩:=RepSs.get (i:=i) h2 (by simpa using e)
  exact ⟨w,by simpa using e1,r1⟩
theorem sr_start {K:W.Frag}{ι:3e7}{H:Hp}{C:Cs}{ss:List SV}{vs:List V}{N:5e6}(cr:11e5)(rs:RepSs K ι H ss vs):SR K ι H (ss.map some++W1 (N.length - ss.length) none) (L2.start N vs) C:=by
 have hl:=RepSs.length rs
 refine ⟨cr,by unfold L2.start;simp[hl],fun i s e=>?_⟩
 unfold L2.start
 rcases YH i ss.length with h | h
 ·rw[Yf 13e1,YL] at e
  rw[Yf (by rw[YE,←hl];exact h),YL]
  cases hs:ss[i]? with
  | none=>rw[hs] at e;cases e
  | some s'=>
   rw[hs] at e
   have:s'=s:=by simpa using e
   subst this
   obtain ⟨v,h1,h2⟩:=RepSs.get rs hs
   exact ⟨v,by rw[h1];rfl,h2⟩
 ·rw[Y8 13e1,List.getElem?_replicate] at e
  split at e<;>cases e
section
variable {P:YC}{w:World}{K:W.Frag}{mg:3e1}{base:Heap}
theorem fn_mk {x qual:Str}{st:Stmt}{f:Addr}{fd:XZ}{N ps:5e6}{k:Nat}{body:11e6}(F:Fun K x qual st f fd)(S:FnScope N ps 15e2)
  (hbody:∀(cdv:Value) (A:Around) (outer:List Env) (s:Shared) (H:Hp) (E:XK),Room k (A.deeper (envOfC qual 15e2 s.heap.objs.size f cdv))->
   BM (cxOf CX0 P w K mg base N qual (defScope st) f cdv A outer s H E).nox (defBody st) body):FnOk P w K mg base CX0 (k + 1) f fd ps (liftSp K (mDef ps.length (N.length - ps.length) body)):=by
 refine F.ok S (fun vs H Q E h_=>?_) (fun cdv A outer s H vs Q E hr h_=>?_)<;>obtain ⟨ι,ss,C,r,C',cr,rs,e,q⟩:=h_
 ·unfold mDef at e
  by_cases h:ss.length=ps.length
  ·rw[←RepSs.length rs];exact h
  ·rw[if_neg h] at e;cases e
 ·refine ⟨_,hbody cdv A outer s H E hr,?_⟩
  unfold mDef at e
  by_cases h:ss.length=ps.length
  case neg=>rw[if_neg h] at e;cases e
  rw[if_pos h] at e
  have sr:=sr_start (N:=N) cr rs
  rw[h] at sr
  cases hb:body (ss.map some++W1 (N.length - ps.length) none) C with
  | none=>rw[hb] at e;cases e
  | some z=>
   obtain ⟨fl,C2⟩:=z
   rw[hb] at e
   refine ⟨ι,_,C,fl,C2,sr,hb,?_⟩
   cases fl with
   | rt r2=>
    intro ι2 v H' x c r3
    obtain ⟨c4,r4⟩:=fin_ok c cr.len r3 e
    exact q v H' x.1 c4 r4
   | nx ρ2=>
    intro ι2 σ' H' x sr'
    cases e
    refine q .non H' x.1 (sr'.cr.cut cr.len) ?_
    show Rep K ι H' .non .non
    unfold Rep;rfl
   | rf ps'=>
    intro ι2 p' vs' H' x c hp rs'
    cases e
    have hs:∀b o,H' b=some o->b∉ι++ι2->b∉ι:=fun b o _ z q=>z (Yx _ q)
    have c4:=c.cut cr.len
    exact q _ _ (x.1.trans (Fr.new hp)) (c4.new hp) (show Rep _ _ _ _ _ from Zc3 c4 hp (Reps.cells hs _ _ rs'))
   | rq qs'=>
    intro ι2 p' vs' H' x c hp rs'
    replace e:(finQ C.length C2 qs').map (fun ps=>(SV.v 9e2,C2.take C.length))=some (r,C'):=e
    cases hq:finQ C.length C2 qs' with
    | none=>rw[hq] at e;cases e
    | some ps'=>
     rw[hq] at e;cases e
     have c4:=c.cut cr.len
     refine q _ _ (x.1.trans (Fr.new hp)) (c4.new hp) ?_
     show Rep _ _ _ (.tup ps') _
     unfold Rep
     exact ⟨p',vs',rfl,ZaQ,Reps.stay (fun b o e=>by rw[Zax (Zas e hp)];exact e) _ _ (finQ_ok c cr.len rs' hq)⟩
   | bk _=>cases e
   | ct _=>cases e
theorem fn_mkF {x qual:Str}{st:Stmt}{f:Addr}{fd:XZ}{N ps:5e6}{k:Nat}{body:11e6}(F:Fun K x qual st f fd)(S:FnScope N ps 15e2)
  (hbody:∀(cdv:Value) (A:Around) (outer:List Env) (s:Shared) (H:Hp) (E:XK),Room k (A.deeper (envOfC qual 15e2 s.heap.objs.size f cdv))->
   BM (cxOf CX0 P w K mg base N qual (defScope st) f cdv A outer s H E).nox (defBody st) body):FnOk P w K mg base CX0 (k + 1) f fd ps (liftSpF K (mDefF ps.length (N.length - ps.length) body)):=by
 refine F.ok S (fun vs H Q E h_=>?_) (fun cdv A outer s H vs Q E hr h_=>?_)<;>obtain ⟨ι,ss,C,r,C',cr,rs,e,q⟩:=h_
 ·unfold mDefF at e
  by_cases h:ss.length=ps.length
  ·rw[←RepSs.length rs];exact h
  ·rw[if_neg h] at e;cases e
 ·refine ⟨_,hbody cdv A outer s H E hr,?_⟩
  unfold mDefF at e
  by_cases h:ss.length=ps.length
  case neg=>rw[if_neg h] at e;cases e
  rw[if_pos h] at e
  have sr:=sr_start (N:=N) cr rs
  rw[h] at sr
  cases hb:body (ss.map some++W1 (N.length - ps.length) none) C with
  | none=>rw[hb] at e;cases e
  | some z=>
   obtain ⟨fl,C2⟩:=z
   rw[hb] at e
   refine ⟨ι,_,C,fl,C2,sr,hb,?_⟩
   cases fl with
   | rf ps'=>
    intro ι2 p' vs' H' x c hp rs'
    cases e
    have hs:∀b o,H' b=some o->b∉ι++ι2->b∉ι:=fun b o _ z q=>z (Yx _ q)
    exact q p' vs' H' x.1 (c.cut cr.len) hp (Reps.cells hs _ _ rs')
   | _=>cases e
end
end Pu
namespace Pu
open PySem PySem.Spec L2
open PyProof.Rows hiding St Fr
def g2 (h:PV->PV->Option PV):Cs->SV->SV->Option SV:=fun C x y=>match deref C x,deref C y with
 | some p,some q=>(h p q).map .v
 | _,_=>none
def L2ok (K:W.Frag)(r:R2)(h:PV->PV->Option PV):Prop:=
 ∀(ι:3e7) (H:Hp) (C:Cs) (p q:PV) (vx vy:V) (z:PV) (Q:VK),CR K ι H C->Lies K ι H p vx->Lies K ι H q vy->h p q=some z->(∀v H',Fr ι H H'->CR K ι H' C->Rep K ι H' z v->Q v H')->r vx vy H Q
theorem L2ok.r {K:W.Frag}{r:R2}{h:PV->PV->Option PV}(k:L2ok K r h):R2ok K r (g2 h):=by
 intro ι H C x y vx vy z Q cr rx ry e q
 unfold g2 at e
 cases hx:deref C x with
 | none=>rw[hx] at e;cases e
 | some p=>
  cases hy:deref C y with
  | none=>rw[hx,hy] at e;cases e
  | some p2=>
   rw[hx,hy] at e
   cases hz:h p p2 with
   | none=>simp[hz] at e
   | some z2=>
    simp[hz] at e
    subst e
    exact k ι H C p p2 vx vy z2 Q cr (rx.lies cr hx) (ry.lies cr hy) hz q
theorem OpR.or {X:Cx}{f:Value->Value->Sem Value}{r r':R2}(h:OpR X f r)(h':OpR X f r'):OpR X f (fun x y H Q=>r x y H Q\/r' x y H Q):=by
 intro pins s σ H x y v u Q I rx ry q
 rcases q with q | q
 ·exact h pins s σ H x y v u Q I rx ry q
 ·exact h' pins s σ H x y v u Q I rx ry q
section
variable {K:W.Frag}{ι:3e7}{H:Hp}{C:Cs}{Q:VK}{z:PV}
theorem liesS {v:V}{i:Str}(h:Lies K ι H (.str i) v):v=.str i/\i.length<=sizeLine:=by cases h;exact ⟨rfl,by assumption⟩
theorem liesT {v:V}{ps:List PV}(h:Lies K ι H 9e2 v):∃a vs,v=.ref a/\TpR H a vs/\Reps K ι H ps vs:=by cases h;exact ⟨_,_,rfl,by assumption,by assumption⟩
theorem liesL {v:V}{ps:List PV}(h:Lies K ι H 8e6 v):∃a vs,v=.ref a/\SqL K H a vs/\Reps K ι H ps vs:=by cases h;exact ⟨_,_,rfl,by assumption,by assumption⟩
theorem repI {i:Int}:Rep K ι H (.int i) (.int i):=by unfold Rep;rfl
theorem repBl {i:Bool}:Rep K ι H (.bl i) (.bl i):=by unfold Rep;rfl
theorem repN:Rep K ι H .non .non:=by unfold Rep;rfl
theorem repS {i:Str}(h:i.length<=Yt):Rep K ι H (.str i) (.str i):=by unfold Rep;exact ⟨rfl,h⟩
theorem k1000000 {n:Nat}(h:n<=1000000):n<=sizeLine:=YR h (by rw[YU];decide)
theorem Zc4 {ps:List PV}{q:Addr}{vs:List V}(hq:H q=none)(rs:Reps K ι H ps vs):Rep K ι (upd H q (.tup vs)) 9e2 (.ref q):=by
 unfold Rep
 exact ⟨q,vs,rfl,ZaQ,Reps.stay (fun b o e=>by rw[Zax (Zas e hq)];exact e) ps vs rs⟩
end
def addP:PV->PV->Option PV
 | .int i,.int j=>some (.int (i + j))
 | .str i,.str j=>if i.length + j.length<=1000000 then some (.str (i++j)) else none
 | .lst a,.lst b=>if a.length + b.length<=1000000 then some (.lst (a++b)) else none
 | .tup a,.tup b=>if a.length + b.length<=1000000 then some (.tup (a++b)) else none
 | _,_=>none
def rCatL (K:W.Frag):R2:=fun x y H Q=>∃l b xs zs,x=.ref l/\y=.ref b/\SqL K H l xs/\SqL K H b zs/\xs.length + zs.length<=Yt/\∀p,H p=none->Q (.ref p) (upd H p (.lst (xs++zs)))
section
variable {X:Cx}
theorem op_catL:OpR X (WY .Add) (rCatL X.K):=by
 sleep 5
 obtain ⟨l,b,xs,zs,rfl,rfl,hH,hB,hz,q⟩:=h
 cases rx
 cases ry
 obtain ⟨its,r,pl,_⟩:=I.list hH
 obtain ⟨its2,r2,pl2,_⟩:=I.list hB
 obtain ⟨⟨cls,dd,data,sl⟩,ho,hc,n,hd⟩:=id pl.isList
 obtain ⟨⟨cls2,dd2,data2,sl2⟩,ho2,hc2,n2,hd2⟩:=id pl2.isList
 simp only at hc hd hc2 hd2
 subst hc hd hc2 hd2
 have h1:=r.length
 have h2:=r2.length
 have ea:its.toArray++its2.toArray=(its++its2).toArray:=by simp
 refine Uu ⟨_,ho,rfl⟩ ⟨_,ho2,rfl⟩ noFill_list_add seq_list_add PySem.F.slot_list_add PySem.F.entry_list_add (PySem.F.args_list_add_2 _ _) (list_addW l b its.toArray its2.toArray n n2 dd dd2 sl sl2 11e1) ⟨ho,ho2,?_⟩
 rw[ea]
 exact ⟨.ref _,_,I.lnew (t':=s.toks) (r.append r2) (by rw[Xn];lia),rfl,q _ I.fresh⟩
def rCatT' (K:W.Frag):R2:=fun x y H Q=>∃a b xs ys,x=.ref a/\y=.ref b/\SqT K H a xs/\SqT K H b ys/\xs.length + ys.length<=Yt/\
 (xs=[]->Q (.ref b) H)/\(xs≠[]->ys=[]->Q (.ref a) H)/\(xs≠[]->ys≠[]->∀p,H p=none->Q (.ref p) (upd H p (.tup (xs++ys))))
theorem op_catT':OpR X (WY .Add) (rCatT' X.K):=by
 sleep 5
 obtain ⟨a,b,xs,ys,rfl,rfl,ha,hb,hz,q0,q1,q2⟩:=h
 by_cases hx:xs=[]
 ·cases rx
  cases ry
  obtain ⟨its,r1,p1,_⟩:=I.tuple ha
  obtain ⟨its2,r2,p2,_⟩:=I.tuple hb
  obtain ⟨⟨cls,dd,data,sl⟩,ho,hc,n,hd⟩:=id p1
  obtain ⟨⟨cls2,dd2,data2,sl2⟩,ho2,hc2,n2,hd2⟩:=id p2
  simp only at hc hd hc2 hd2
  subst hc hd hc2 hd2
  exact Uu ⟨_,ho,rfl⟩ ⟨_,ho2,rfl⟩ Uk seq_tuple_add Vl Vh (Vb _ _)
   (tuple_addW0 a b its.toArray its2.toArray n n2 dd dd2 sl sl2 (by simp[r1.nil_iff.mpr hx])) ⟨ho,ho2,⟨.ref b,H,I,rfl,q0 hx⟩⟩
 ·exact op_catT pins s σ H _ _ v u Q I rx ry ⟨a,b,xs,ys,rfl,rfl,ha,hb,hx,hz,q1 hx,q2 hx⟩
theorem op_addAll:OpR X (WY .Add) (fun x y H Q=>(rI0 fun i j=>.int (i + j)) x y H Q\/(∃i j,x=.str i/\y=.str j/\i.length + j.length<=Yt/\Q (.str (i++j)) H)\/rCatL X.K x y H Q\/rCatT' X.K x y H Q):=
 OpR.or op_add (OpR.or op_add_str (OpR.or op_catL op_catT'))
theorem str_app_len (i j:Str):(i++j).length=i.length + j.length:=by
 show (i.cps++j.cps).size=_
 rw[Array.size_append];rfl
theorem add_ok:L2ok X.K (fun x y H Q=>(rI0 fun i j=>.int (i + j)) x y H Q\/(∃i j,x=.str i/\y=.str j/\i.length + j.length<=Yt/\Q (.str (i++j)) H)\/rCatL X.K x y H Q\/rCatT' X.K x y H Q) addP:=by
 sleep 13
 unfold addP at e
 split at e
 ·cases e;cases lx;cases ly
  exact .inl ⟨_,_,rfl,rfl,k _ H .refl cr repI⟩
 ·split at e
  ·rename_i hl
   cases e;cases lx;cases ly
   exact .inr (.inl ⟨_,_,rfl,rfl,k1000000 hl,k _ H .refl cr (repS (by rw[str_app_len];exact k1000000 hl))⟩)
  ·cases e
 ·split at e
  ·rename_i hl
   cases e
   obtain ⟨a,vs,rfl,h1,r1⟩:=liesL lx
   obtain ⟨b,ws,rfl,h2,r2⟩:=liesL ly
   exact .inr (.inr (.inl ⟨a,b,vs,ws,rfl,rfl,h1,h2,by rw[←r1.length,←r2.length];exact k1000000 hl,fun p hp=>k _ _ (Fr.new hp) (cr.new hp) (Zc3 cr hp (r1.append r2))⟩))
  ·cases e
 ·split at e
  ·rename_i hl
   cases e
   rename_i xs ys
   obtain ⟨a,vs,rfl,h1,r1⟩:=liesT lx
   obtain ⟨b,ws,rfl,h2,r2⟩:=liesT ly
   refine .inr (.inr (.inr ⟨a,b,vs,ws,rfl,rfl,h1.sq,h2.sq,by rw[←r1.length,←r2.length];exact k1000000 hl,fun e=>?_,fun _ e=>?_,fun _ _ p hp=>k _ _ (Fr.new hp) (cr.new hp) (Zc4 hp (r1.append r2))⟩))
   ·subst e
    have:=r1.length
    have hx:xs=[]:=VA this
    subst hx
    exact k _ H .refl cr (by unfold Rep;exact ⟨b,ws,rfl,h2,r2⟩)
   ·subst e
    have:=r2.length
    have hy:ys=[]:=VA this
    subst hy
    rw[YJ] at k
    exact k _ H .refl cr (by unfold Rep;exact ⟨a,vs,rfl,h1,r1⟩)
  ·cases e
 ·cases e
variable {a b e c:Expr}{es:5e9}{fa fb fc:4e3}{pos p:Pos}{x:Str}
def intP (c:Int->Int->Bool)(f:Int->Int->PV):PV->PV->Option PV
 | .int i,.int j=>if c i j then some (f i j) else none
 | _,_=>none
theorem int_ok {C0:Int->Int->Prop}{f:Int->Int->Int}{c:Int->Int->Bool}(h:∀i j,c i j=true->C0 i j):L2ok X.K (rI C0 fun i j=>.int (f i j)) (intP c fun i j=>.int (f i j)):=by
 sleep 13
 unfold intP at e
 split at e
 ·split at e
  ·rename_i hc
   cases e;cases lx;cases ly
   exact ⟨_,_,rfl,rfl,h _ _ hc,k _ H .refl cr repI⟩
  ·cases e
 ·cases e
theorem int_ok0 {f:Int->Int->V}{g:Int->Int->PV}(h:∀i j,∀ι H,Rep X.K ι H (g i j) (f i j)):L2ok X.K (rI0 f) (intP (fun _ _=>true) g):=by
 sleep 13
 unfold intP at e
 split at e
 ·simp only[if_true] at e
  cases e;cases lx;cases ly
  exact ⟨_,_,rfl,rfl,k _ H .refl cr (h _ _ _ _)⟩
 ·cases e
abbrev subP:=intP (fun _ _=>true) fun i j=>.int (i - j)
abbrev mulP:=intP (fun i j=>decide (-(2 ^ 64) < i/\i < 2 ^ 64)||decide (-(2 ^ 64) < j/\j < 2 ^ 64)) fun i j=>.int (i * j)
abbrev modP:=intP (fun _ j=>decide (0 < j)) fun i j=>.int (i % j)
abbrev fdivP:=intP (fun _ j=>decide (0 < j/\j < 1073741824)) fun i j=>.int (i / j)
abbrev powP:=intP (fun i j=>decide (0<=j/\j<=1000/\i.natAbs < 2 ^ 64)) fun i j=>.int (i ^ j.toNat)
abbrev ltP:=intP (fun _ _=>true) fun i j=>.bl (decide (i < j))
abbrev gtP:=intP (fun _ _=>true) fun i j=>.bl (decide (j < i))
def negP (C:Cs)(x:SV):Option SV:=match deref C x with
 | some (.int i)=>some (.v (.int (-i)))
 | _=>none
def mNeg (f:4e3):PSt->M SV:=fun ρ=>bnd (f ρ) fun x=>opM fun C=>negP C x
theorem Zc6:L2ok X.K (rI0 fun i j=>.bl (decide (i < j))) ltP:=int_ok0 fun _ _ _ _=>repBl
theorem gt_ok:L2ok X.K (rI0 fun i j=>.bl (decide (j < i))) gtP:=int_ok0 fun _ _ _ _=>repBl
def scP:PV->PV->Option Bool
 | .non,.non=>some true | .non,.int _=>some false | .int _,.non=>some false | .non,.bl _=>some false | .bl _,.non=>some false | .non,.str _=>some false | .str _,.non=>some false
 | .int i,.int j=>some (decide (i=j)) | .bl i,.bl j=>some (decide (i=j)) | .str i,.str j=>some (decide (i=j))
 | .int _,.str _=>some false | .str _,.int _=>some false | .bl _,.str _=>some false | .str _,.bl _=>some false
 | _,_=>none
def eqP (p q:PV):Option PV:=(scP p q).map .bl
def neP (p q:PV):Option PV:=(scP p q).map fun b=>.bl (!b)
theorem sc_ok {K:W.Frag}{ι:3e7}{H:Hp}{p q:PV}{vx vy:V}{b:Bool}(lx:Lies K ι H p vx)(ly:Lies K ι H q vy)(e:scP p q=some b):scal vx vy=true/\decide (vx=vy)=b:=by
  unfold scP at e
  split at e<;>first
    | (cases e;cases lx;cases ly;exact ⟨rfl,by simp⟩)
    | cases e
theorem eq_ok:L2ok X.K rEq eqP:=by
 sleep 13
 unfold eqP at e
 cases hb:scP p q with
 | none=>rw[hb] at e;cases e
 | some b=>
  rw[hb] at e;cases e
  obtain ⟨h1,h2⟩:=sc_ok lx ly hb
  exact ⟨h1,by rw[h2];exact k _ H .refl cr repBl⟩
theorem ne_ok:L2ok X.K rNe neP:=by
 sleep 13
 unfold neP at e
 cases hb:scP p q with
 | none=>rw[hb] at e;cases e
 | some b=>
  rw[hb] at e;cases e
  obtain ⟨h1,h2⟩:=sc_ok lx ly hb
  exact ⟨h1,by rw[h2];exact k _ H .refl cr repBl⟩
def ixP:PV->PV->Option PV
 | .lst xs,.int i=>atI xs i
 | .tup xs,.int i=>atI xs i
 | .str z,.int i=>(atI z.cps.toList i).map fun c=>.str ⟨#[c]⟩
 | _,_=>none
theorem atI_rep {K:W.Frag}{ι:3e7}{H:Hp}{ps:List PV}{vs:List V}{i:Int}{z:PV}(r:Reps K ι H ps vs)(e:atI ps i=some z):∃v,atI vs i=some v/\Rep K ι H z v:=by
 unfold atI at e ⊢
 rw[←r.length]
 cases h:ixN ps.length i with
 | none=>rw[h] at e;cases e
 | some j=>rw[h] at e;exact r.get e
theorem ix_ok:L2ok X.K (rIx X.K) ixP:=by
 sleep 13
 unfold ixP at e
 split at e
 ·obtain ⟨a,vs,rfl,h1,r1⟩:=liesL lx
  cases ly
  obtain ⟨v,e1,r⟩:=atI_rep r1 e
  exact .inl ⟨a,vs,_,v,rfl,rfl,h1,e1,k v H .refl cr r⟩
 ·obtain ⟨a,vs,rfl,h1,r1⟩:=liesT lx
  cases ly
  obtain ⟨v,e1,r⟩:=atI_rep r1 e
  exact .inr (.inl ⟨a,vs,_,v,rfl,rfl,h1.sq,e1,k v H .refl cr r⟩)
 ·obtain ⟨rfl,hz⟩:=liesS lx
  cases ly
  rename_i z' i
  cases hc:atI z'.cps.toList i with
  | none=>rw[hc] at e;cases e
  | some c=>
   rw[hc] at e;cases e
   exact .inr (.inr ⟨_,_,c,rfl,rfl,hz,hc,k _ H .refl cr (repS (by show 1<=Yt;rw[YU];decide))⟩)
 ·cases e
def tyN:PV->Option String
 | .non=>some "NoneType"
 | .bl _=>some "bool"
 | .int _=>some "int"
 | .str _=>some "str"
 | .tup _=>some "tuple"
 | .lst _=>some "list"
 | .dct _ _=>some "dict"
 | _=>none
def isiP (p:PV)(n:String):Option Bool:=match tyN p with
 | none=>none
 | some t=>if n="int" then some (t=="int"||t=="bool") else if n="str"\/n="bool"\/n="tuple"\/n="list"\/n="dict" then some (t==n) else none
theorem kit_ok {K:W.Frag}{t n:String}{b:Bool}(ht:t="NoneType"\/t="bool"\/t="int"\/t="str"\/t="tuple"\/t="list"\/t="dict")(hn:n="int"\/n="str"\/n="bool"\/n="tuple"\/n="list"\/n="dict")
  (e:(if n="int" then some (t=="int"||t=="bool") else if n="str"\/n="bool"\/n="tuple"\/n="list"\/n="dict" then some (t==n) else none)=some b):W.kitOne K (.type t) (.type n)=some b:=by
 rcases ht with rfl | rfl | rfl | rfl | rfl | rfl | rfl<;>rcases hn with rfl | rfl | rfl | rfl | rfl | rfl<;>(simp at e;subst e;rfl)
end
inductive LiesAll (K:W.Frag)(ι:List Addr)(H:Hp):List PV->List V->Prop
 | nil:LiesAll K ι H [] []
 | cons {p:PV} {v:V} {ps:List PV} {vs:List V} (h:Lies K ι H p v) (t:LiesAll K ι H ps vs):LiesAll K ι H (p::ps) (v::vs)
def derefs (C:Cs):List SV->Option 13e5
 | []=>some []
 | x::xs=>match deref C x,derefs C xs with
  | some p,some ps=>some (p::ps)
  | _,_=>none
theorem Zdh {K:W.Frag}{ι:3e7}{H:Hp}{C:Cs}(cr:11e5):∀{xs:List SV} {ps:List PV} {vs:List V},RepSs K ι H xs vs->derefs C xs=some ps->LiesAll K ι H ps vs
 | [],ps,vs,r,e=>by cases e;rw[show vs=[] from r];exact .nil
 | x::xs,ps,vs,r,e=>by
  obtain ⟨v,w,rfl,h1,h2⟩:=r
  unfold derefs at e
  split at e
  ·rename_i p qs hp hq
   cases e
   exact .cons (h1.lies cr hp) (Zdh cr h2 hq)
  ·cases e
def g1 (h:List PV->Option PV):Cs->List SV->Option SV:=fun C xs=>match derefs C xs with
 | some ps=>(h ps).map .v
 | none=>none
def L1ok (K:W.Frag)(r:14e6)(h:List PV->Option PV):Prop:=
 ∀(ι:3e7) (H:Hp) (C:Cs) (ps:List PV) (vs:List V) (z:PV) (Q:VK),CR K ι H C->LiesAll K ι H ps vs->h ps=some z->(∀v H',Fr ι H H'->CR K ι H' C->Rep K ι H' z v->Q v H')->r vs H Q
theorem L1ok.c {K:W.Frag}{r:14e6}{h:List PV->Option PV}(k:L1ok K r h):C1ok K r (g1 h):=by
 intro ι H C xs vs z Q cr rs e q
 unfold g1 at e
 cases hd:derefs C xs with
 | none=>rw[hd] at e;cases e
 | some ps=>
  rw[hd] at e
  cases hz:h ps with
  | none=>simp[hz] at e
  | some z2=>
   simp[hz] at e
   subst e
   exact k ι H C ps vs z2 Q cr (Zdh cr rs hd) hz q
section
variable {X:Cx}{a b e c o:Expr}{es:5e9}{fa fb fc fo:4e3}{fs:2e9}{pos p apos cpos:Pos}{x:Str}
def TyV (K:W.Frag)(H:Hp)(x:V)(t:String):Prop:=match x with
 | .non=>t="NoneType"
 | .bl _=>t="bool"
 | .int _=>t="int"
 | .str _=>t="str"
 | .ref a=>(t="tuple"/\∃vs,SqT K H a vs)\/(t="list"/\∃vs,SqL K H a vs)\/(t="dict"/\∃kvs,H a=some (.dK kvs))
 | _=>False
theorem call_isi:CallR X (.builtin "isinstance") (fun xs H Q=>∃x n t b,xs=[x,.ty n]/\TyV X.K H x t/\W.kitOne X.K (.type t) (.type n)=some b/\Q (.bl b) H):=by
 intro pins s σ H xs us Q I r h
 obtain ⟨x,n,t,b,rfl,ty,e,q⟩:=h
 obtain ⟨u,v,rfl,ru,rv⟩:=Vals.two r
 cases (show v=XQ n from rv)
 have fin:∀tk,EP X pins σ Q (.bool b) { s with toks:=tk }:=fun tk=>⟨.bl b,H,I.tok tk,rfl,q⟩
 cases x with
 | non=>cases (show t="NoneType" from ty);exact ZbJ I ru (TyOf.non) e fin
 | bl y=>cases (show t="bool" from ty);exact ZbJ I ru (TyOf.bl y) e fin
 | int y=>cases (show t="int" from ty);exact ZbJ I ru (TyOf.int y) e fin
 | str y=>cases (show t="str" from ty);exact ZbJ I ru (TyOf.str y) e fin
 | ref a=>
  cases (show u=YF a from ru)
  rcases (show _ from ty) with ⟨rfl,vs,h⟩ | ⟨rfl,vs,h⟩ | ⟨rfl,kvs,h⟩
  ·obtain ⟨its,_,⟨o,h1,h2,_⟩,_⟩:=I.tuple h
   exact WA W.kitx_tuple I.kIn ⟨o,h1,h2⟩ e (fun z=>nomatch z) fin
  ·obtain ⟨its,_,⟨o,n,h1,h2,_⟩,_⟩:=I.list h
   exact WA W.kitx_list I.kIn ⟨o,h1,h2⟩ e (fun z=>nomatch z) fin
  ·exact ZbJ I ru (TyOf.dK h) e fin
 | _=>exact (show False from ty).elim
def isiH:List PV->Option PV
 | [p,.ty n]=>(isiP p n).map .bl
 | _=>none
theorem isi_ok:L1ok X.K (fun xs H Q=>∃x n t b,xs=[x,.ty n]/\TyV X.K H x t/\W.kitOne X.K (.type t) (.type n)=some b/\Q (.bl b) H) isiH:=by
 intro ι H C ps vs z Q cr ls e k
 unfold isiH at e
 split at e
 ·rename_i p n
  cases ls with
  | cons l1 ls=>cases ls with
   | cons l2 ls=>
    cases ls
    cases l2
    cases hb:isiP p n with
    | none=>rw[hb] at e;cases e
    | some b=>
     rw[hb] at e;cases e
     unfold isiP at hb
     cases ht:tyN p with
     | none=>rw[ht] at hb;cases hb
     | some t=>
      rw[ht] at hb
      dsimp only at hb
      have hn:n="int"\/n="str"\/n="bool"\/n="tuple"\/n="list"\/n="dict":=by
       by_cases h1:n="int"
       ·exact .inl h1
       ·rw[if_neg h1] at hb
        by_cases h2:n="str"\/n="bool"\/n="tuple"\/n="list"\/n="dict"
        ·exact .inr h2
        ·rw[if_neg h2] at hb;cases hb
      refine ⟨_,n,t,b,rfl,?_,kit_ok ?_ hn hb,k _ H .refl cr repBl⟩
      ·cases l1<;>(unfold tyN at ht;first | (cases ht;rfl) | (cases ht;exact .inl ⟨rfl,_,TpR.sq (by assumption)⟩) | (cases ht;exact .inr (.inl ⟨rfl,_,by assumption⟩)) | (cases ht;exact .inr (.inr ⟨rfl,_,by assumption⟩)) | cases ht)
      ·cases p<;>(unfold tyN at ht;first | (cases ht;simp) | cases ht)
 ·cases e
def lenH:List PV->Option PV
 | [.str z]=>some (.int z.length)
 | [.lst xs]=>some (.int xs.length)
 | [.tup xs]=>some (.int xs.length)
 | _=>none
theorem len_ok:L1ok X.K (fun xs H Q=>∃x n,xs=[x]/\LenV X.K x H n/\Q (.int n) H) lenH:=by
 intro ι H C ps vs z Q cr ls e k
 unfold lenH at e
 split at e
 ·cases e;cases ls with
  | cons l t=>cases t;obtain ⟨rfl,hz⟩:=liesS l;exact ⟨_,_,rfl,⟨hz,rfl⟩,k _ H .refl cr repI⟩
 ·cases e;cases ls with
  | cons l t=>cases t;obtain ⟨a,ws,rfl,h1,r1⟩:=liesL l;exact ⟨_,_,rfl,.inl ⟨ws,h1,r1.length⟩,k _ H .refl cr repI⟩
 ·cases e;cases ls with
  | cons l t=>cases t;obtain ⟨a,ws,rfl,h1,r1⟩:=liesT l;exact ⟨_,_,rfl,.inr ⟨ws,h1.sq,r1.length⟩,k _ H .refl cr repI⟩
 ·cases e
def maxH:List PV->Option PV
 | [.int i,.int j]=>some (.int (if j > i then j else i))
 | _=>none
def minH:List PV->Option PV
 | [.int i,.int j]=>some (.int (if j < i then j else i))
 | _=>none
theorem max_ok:L1ok X.K (fun xs H Q=>∃i j,xs=[.int i,.int j]/\Q (.int (if j > i then j else i)) H) maxH:=by
 intro ι H C ps vs z Q cr ls e k
 unfold maxH at e
 split at e
 ·cases e;cases ls with
  | cons l t=>cases t with
   | cons l2 t=>cases t;cases l;cases l2;exact ⟨_,_,rfl,k _ H .refl cr repI⟩
 ·cases e
theorem min_ok:L1ok X.K (fun xs H Q=>∃i j,xs=[.int i,.int j]/\Q (.int (if j < i then j else i)) H) minH:=by
 intro ι H C ps vs z Q cr ls e k
 unfold minH at e
 split at e
 ·cases e;cases ls with
  | cons l t=>cases t with
   | cons l2 t=>cases t;cases l;cases l2;exact ⟨_,_,rfl,k _ H .refl cr repI⟩
 ·cases e
def intH:List PV->Option PV
 | [.int i]=>some (.int i)
 | [.bl k]=>some (.int (if k then 1 else 0))
 | _=>none
theorem intc_ok:L1ok X.K (fun xs H Q=>(∃i,xs=[.int i]/\Q (.int i) H)\/∃k,xs=[.bl k]/\Q (.int (if k then 1 else 0)) H) intH:=by
 intro ι H C ps vs z Q cr ls e k
 unfold intH at e
 split at e
 ·cases e;cases ls with
  | cons l t=>cases t;cases l;exact .inl ⟨_,rfl,k _ H .refl cr repI⟩
 ·cases e;cases ls with
  | cons l t=>cases t;cases l;exact .inr ⟨_,rfl,k _ H .refl cr repI⟩
 ·cases e
def tupH:List PV->Option PV
 | [.lst xs]=>some (.tup xs)
 | [.tup xs]=>some (.tup xs)
 | _=>none
theorem tup_ok:L1ok X.K (fun xs H Q=>∃p ys,xs=[.ref p]/\((SqL X.K H p ys/\∀l,H l=none->Q (.ref l) (upd H l (.tup ys)))\/(SqT X.K H p ys/\Q (.ref p) H))) tupH:=by
 intro ι H C ps vs z Q cr ls e k
 unfold tupH at e
 split at e
 ·cases e;cases ls with
  | cons l t=>cases t;obtain ⟨a,ws,rfl,h1,r1⟩:=liesL l;exact ⟨a,ws,rfl,.inl ⟨h1,fun q hq=>k _ _ (Fr.new hq) (cr.new hq) (Zc4 hq r1)⟩⟩
 ·cases e;cases ls with
  | cons l t=>cases t;obtain ⟨a,ws,rfl,h1,r1⟩:=liesT l;exact ⟨a,ws,rfl,.inr ⟨h1.sq,k _ H .refl cr (by unfold Rep;exact ⟨a,ws,rfl,h1,r1⟩)⟩⟩
 ·cases e
def listH (C:Cs):List SV->Option 13e5
 | [x]=>match deref C x with
  | some (.lst xs)=>some xs
  | some (.tup xs)=>some xs
  | _=>none
 | _=>none
def mList (fs:2e9):PSt->M 13e5:=fun ρ=>bnd (fs ρ) fun xs=>opM fun C=>listH C xs
end
section
variable {X:Cx}{a b e c o i:Expr}{es:5e9}{fa fb fc fo fi fv:4e3}{fs:2e9}{pos p apos cpos:Pos}{x:Str}
def isLst (x:SV):M Unit:=fun C=>match x with
 | .c k=>match C[k]? with
  | some (.lst _)=>some ((),C)
  | _=>none
 | _=>none
theorem isLst_some {x:SV}{C C2:Cs}(h:isLst x C=some ((),C2)):C2=C/\∃k ps,x=.c k/\C[k]? = some 8e6:=by
 unfold isLst at h
 split at h
 ·split at h
  ·rename_i k _ ps e;cases h;exact ⟨rfl,k,ps,rfl,e⟩
  ·cases h
 ·cases h
def appC (x:SV)(ys:List SV):M SV:=fun C=>match x,ys with
 | .c k,[.v p]=>match C[k]? with
  | some (.lst ps)=>if ps.length < 100000 then some (.v .non,C.set k (.lst (ps++[p]))) else none
  | _=>none
 | _,_=>none
theorem appC_some {x:SV}{ys:List SV}{C C2:Cs}{r:SV}(h:appC x ys C=some (r,C2)):∃k p ps,x=.c k/\ys=[.v p]/\C[k]? = some 8e6/\ps.length < 100000/\r=.v .non/\C2=C.set k (.lst (ps++[p])):=by
 unfold appC at h
 split at h
 ·split at h
  ·split at h
   ·cases h;exact ⟨_,_,_,rfl,rfl,by assumption,by assumption,rfl,rfl⟩
   ·cases h
  ·cases h
 ·cases h
def mApp (fo:4e3)(fs:2e9):PSt->M SV:=fun ρ=>bnd (fo ρ) fun x=>bnd (isLst x) fun _=>bnd (fs ρ) fun ys=>appC x ys
theorem cell_lst {K:W.Frag}{ι:3e7}{H:Hp}{C:Cs}{k:Nat}{a:Addr}{ps:List PV}(cr:11e5)(hk:ι[k]? = some a)(hc:C[k]? = some 8e6):∃vs,H a=some (.lst vs)/\Reps K ι H ps vs:=cr.ok k a _ hk hc
theorem cr_set {K:W.Frag}{ι:3e7}{H:Hp}{C:Cs}{k:Nat}{a:Addr}{ps:List PV}{vs:List V}(cr:11e5)(hk:ι[k]? = some a)(r:Reps K ι H ps vs):CR K ι (upd H a (.lst vs)) (C.set k 8e6)/\Fr ι H (upd H a (.lst vs)):=by
 have fr:Fr ι H (upd H a (.lst vs)):=fun b u n e=>by
  rw[Zax (fun z=>n (by rw[z];exact YQ hk))];exact e
 exact ⟨cr.put hk ⟨vs,ZaQ,Reps.mono cr fr _ _ r⟩,fr⟩
def setC (v o i:SV)(ρ:PSt):M PF:=fun C=>match o,i,v with
 | .c k,.v (.int n),.v p=>match C[k]? with
  | some (.lst ps)=>match ixN ps.length n with
   | some j=>some (.nx ρ,C.set k (.lst (ps.set j p)))
   | none=>none
  | _=>none
 | _,_,_=>none
theorem setC_some {v o i:SV}{ρ:PSt}{C C2:Cs}{fl:PF}(h:setC v o i ρ C=some (fl,C2)):∃k n p ps j,o=.c k/\i=.v (.int n)/\v=.v p/\C[k]? = some 8e6/\ixN ps.length n=some j/\fl=.nx ρ/\C2=C.set k (.lst (ps.set j p)):=by
 unfold setC at h
 split at h
 ·split at h
  ·split at h
   ·cases h;exact ⟨_,_,_,_,_,rfl,rfl,rfl,by assumption,by assumption,rfl,rfl⟩
   ·cases h
  ·cases h
 ·cases h
def mSetIx (fv fo fi:4e3):PSt->M PF:=fun ρ=>bnd (fv ρ) fun v=>bnd (fo ρ) fun o=>bnd (fi ρ) fun i=>setC v o i ρ
def itemsP:SV->Option 13e5
 | .v (.lst xs)=>some xs
 | .v (.tup xs)=>some xs
 | .v (.str z)=>some (z.cps.toList.map fun c=>.str ⟨#[c]⟩)
 | _=>none
def mItems (f:4e3):PSt->M 13e5:=fun ρ=>bnd (f ρ) fun x=>opM fun _=>itemsP x
theorem iter_list {K:W.Frag}{ι:3e7}{H:Hp}{C:Cs}{a:Addr}{xs:List PV}{vs:List V}(cr:11e5)(h:LsR K ι H a vs)(r:Reps K ι H xs vs):Iter K ι H xs (Itl K a):=by
 have keep:∀ι2 H2,Ex ι ι2 H H2->SqL K H2 a vs:=fun ι2 H2 x=>by
  rcases h with ⟨n,q | ⟨o,q⟩⟩ | q
  ·exact .inl (.inl (x.out _ _ n q).2)
  ·exact .inl (.inr ⟨o,(x.out _ _ n q).2⟩)
  ·exact .inr q
 refine ⟨fun ι2 H2 C2 x c i hi=>?_,fun ι2 H2 C2 x c i v H3 hi y=>?_,fun ι2 H2 C2 x c=>⟨vs,keep ι2 H2 x,by rw[r.length];exact Yj _⟩⟩
 ·obtain ⟨v,e,_⟩:=r.get (Yd hi)
  exact ⟨vs,v,keep ι2 H2 x,e⟩
 ·obtain ⟨rfl,y⟩:=y
  obtain ⟨p,hp,rp⟩:=r.get' (y vs (keep ι2 _ x))
  exact ⟨fun b o e=>e,p,hp,Rep.tr cr x.out p v rp⟩
theorem iter_tup {K:W.Frag}{ι:3e7}{H:Hp}{C:Cs}{a:Addr}{xs:List PV}{vs:List V}(cr:11e5)(h:SqT K H a vs)(r:Reps K ι H xs vs):Iter K ι H xs (Itt K a):=by
 have keep:∀ι2 H2,Ex ι ι2 H H2->SqT K H2 a vs:=fun ι2 H2 x=>by
  rcases h with (q | ⟨o,q⟩) | q
  ·exact .inl (.inl (x.out _ _ (cr.notup q (fun _ e=>nomatch e) fun _ e=>nomatch e) q).2)
  ·exact .inl (.inr ⟨o,(x.out _ _ (cr.notup q (fun _ e=>nomatch e) fun _ e=>nomatch e) q).2⟩)
  ·exact .inr q
 refine ⟨fun ι2 H2 C2 x c i hi=>?_,fun ι2 H2 C2 x c i v H3 hi y=>?_,fun ι2 H2 C2 x c=>⟨vs,keep ι2 H2 x,by rw[r.length];exact Yj _⟩⟩
 ·obtain ⟨v,e,_⟩:=r.get (Yd hi)
  exact ⟨vs,v,keep ι2 H2 x,e⟩
 ·obtain ⟨rfl,y⟩:=y
  obtain ⟨p,hp,rp⟩:=r.get' (y vs (keep ι2 _ x))
  exact ⟨fun b o e=>e,p,hp,Rep.tr cr x.out p v rp⟩
theorem iter_str {K:W.Frag}{ι:3e7}{H:Hp}{z:Str}:Iter K ι H (z.cps.toList.map fun c=>.str ⟨#[c]⟩) (Its z):=by
 refine ⟨fun ι2 H2 C2 x c i hi=>by show i < z.cps.size;simpa using hi,fun ι2 H2 C2 x c i v H3 hi y=>?_,fun ι2 H2 C2 x c=>by show _=_;simp⟩
 obtain ⟨rfl,d,hd,rfl⟩:=y
 refine ⟨fun b o e=>e,.str ⟨#[d]⟩,by simp[hd],?_⟩
 exact repS (by show 1<=Yt;rw[YU];decide)
theorem Zdz {K:W.Frag}{ι:3e7}{H:Hp}{lo:Int}{n:Nat}:Iter K ι H ((Yl n).map fun (k:Nat)=>.int (lo + k)) (Itr lo n):=by
 refine ⟨fun ι2 H2 C2 x c i hi=>by show i < n;simpa using hi,fun ι2 H2 C2 x c i v H3 hi y=>?_,fun ι2 H2 C2 x c=>by show n<=_;simp⟩
 obtain ⟨rfl,rfl⟩:=y
 have hi':i < n:=by simpa using hi
 exact ⟨fun b o e=>e,.int (lo + i),by simp[hi'],repI⟩
variable {tg l:Expr}
def rng1P:List SV->Option 13e5
 | [.v (.int j)]=>if -1000000<=j/\j<=1000000 then some ((Yl j.toNat).map fun (k:Nat)=>.int (0 + k)) else none
 | _=>none
def rng2P:List SV->Option 13e5
 | [.v (.int i),.v (.int j)]=>if (-1000000<=i/\i<=1000000)/\(-1000000<=j/\j<=1000000) then some ((Yl (j - i).toNat).map fun (k:Nat)=>.int (i + k)) else none
 | _=>none
def mRange1 (fs:2e9):PSt->M 13e5:=fun ρ=>bnd (fs ρ) fun xs=>opM fun _=>rng1P xs
def mRange2 (fs:2e9):PSt->M 13e5:=fun ρ=>bnd (fs ρ) fun xs=>opM fun _=>rng2P xs
theorem rng1_some {xs:List SV}{ys:List PV}(h:rng1P xs=some ys):∃j,xs=[.v (.int j)]/\(-1000000<=j/\j<=1000000)/\ys=(Yl j.toNat).map fun (k:Nat)=>.int (0 + k):=by
 unfold rng1P at h
 split at h
 ·split at h
  ·cases h;exact ⟨_,rfl,by assumption,rfl⟩
  ·cases h
 ·cases h
theorem rng2_some {xs:List SV}{ys:List PV}(h:rng2P xs=some ys):∃i j,xs=[.v (.int i),.v (.int j)]/\((-1000000<=i/\i<=1000000)/\(-1000000<=j/\j<=1000000))/\ys=(Yl (j - i).toNat).map fun (k:Nat)=>.int (i + k):=by
 unfold rng2P at h
 split at h
 ·split at h
  ·cases h;exact ⟨_,_,rfl,by assumption,rfl⟩
  ·cases h
 ·cases h
end
section
variable {prog:YC}{w:World}{A:Around}{E:1e5}{s:Shared}
theorem Zb4 {t sl:Addr}{items:Array Value}{vl vu:Value}{lo hi:Option Int}{Q:1e5}(ht:IsTup s.heap t items)(hs:s.heap.IsSliceOf sl vl vu .none)(pl:IsPart vl lo)(pu:IsPart vu hi)
  (hw:HT.sIx items.size 0 lo=0/\HT.sIx items.size items.size hi=items.size) (h:Q (.ref t) s):wpAny 2e5 A (UM (.ref t) (.ref sl)) Q E s:=by
 obtain ⟨os,hos,hcs,hds⟩:=id hs
 have hTs:s.TypeIs (.ref sl) "slice":=⟨os,hos,hcs⟩
 unfold UM
 try with_reducible refine Xc ?_
 first | refine Ya (Yc ?_) | skip
 refine Ya (wpAny_sequenceKey ht.typeIs 1e1 ?_)
 refine Ya (Xx (name:=WK "__getitem__") ht.typeIs Xi
  (Y9 Xi ht.typeIs entry_tuple_getitem ?_ (args_tuple_getitem _ _)))
 show wpAny _ _ (VV (.ref t) >>= _) _ _ s
 refine Ya (tupleItemsOf_ ht ?_)
 refine Ya (WL hTs ?_)
 rw[if_pos 1e1]
 refine Ya (HT.sliceApplied_gen hs pl pu ?_)
 have hyes:(((HT.sIx items.size 0 lo:Nat):Int)==0&&(1:Int)==1&&(HT.sIx items.size items.size hi - HT.sIx items.size 0 lo)==items.size)=true:=by
  rw[hw.1,hw.2];simp
 show wpAny _ _ (if (((HT.sIx items.size 0 lo:Nat):Int)==0&&(1:Int)==1&&(HT.sIx items.size items.size hi - HT.sIx items.size 0 lo)==items.size)=true then _ else _) _ _ s
 rw[if_pos hyes]
 unfold Builtin.Tuple.tupleIsExact
 refine Ya (Ya (WL ht.typeIs (Yc ?_)))
 rw[if_pos 1e1]
 refine Ya (wpAny_rule ?_)
 exact Ya (Yc (Yc ⟨_,rfl,Yc h⟩))
end
def rSlTW (K:W.Frag):V->Option Int->Option Int->Hp->VK->Prop:=fun x lo hi H Q=>∃a xs,x=.ref a/\SqT K H a xs/\(HT.sIx xs.length 0 lo=0/\HT.sIx xs.length xs.length hi=xs.length)/\Q (.ref a) H
def tMO (K:W.Frag)(f:PSt->M (Option Int)):TO:=fun σ H Q=>∃ι ρ C r C',SR K ι H ρ σ C/\f ρ C=some (r,C')/\∀H',Fr ι H H'->CR K ι H' C'->Q r H'
def OM (X:Cx)(e:Option Expr)(f:PSt->M (Option Int)):Prop:=PO X e (tMO X.K f)
def oNo:PSt->M (Option Int):=fun _=>ret none
def intD (C:Cs)(x:SV):Option (Option Int):=match deref C x with
 | some (.int i)=>some (some i)
 | _=>none
def oPart (f:4e3):PSt->M (Option Int):=fun ρ=>bnd (f ρ) fun x=>opM fun C=>intD C x
def cutP (xs:List PV)(lo hi:Option Int):List PV:=(xs.drop (HT.sIx xs.length 0 lo)).take (HT.sIx xs.length xs.length hi - HT.sIx xs.length 0 lo)
def sliceP (lo hi:Option Int):PV->Option PV
 | .lst xs=>some (.lst (cutP xs lo hi))
 | .tup xs=>some (.tup (cutP xs lo hi))
 | _=>none
def sliceD (C:Cs)(x:SV)(lo hi:Option Int):Option SV:=match deref C x with
 | some p=>(sliceP lo hi p).map .v
 | none=>none
def mSlice (f:4e3)(l h:PSt->M (Option Int)):PSt->M SV:=fun ρ=>bnd (f ρ) fun x=>bnd (l ρ) fun lo=>bnd (h ρ) fun hi=>opM fun C=>sliceD C x lo hi
theorem reps_cut {K:W.Frag}{ι:3e7}{H:Hp}{ps:List PV}{vs:List V}(r:Reps K ι H ps vs)(lo hi:Option Int):Reps K ι H (cutP ps lo hi) (cutV vs lo hi):=by
 unfold cutP cutV
 rw[r.length]
 exact (r.drop _).take _
theorem sliceD_some {C:Cs}{x z:SV}{lo hi:Option Int}(h:sliceD C x lo hi=some z):(∃xs,deref C x=some (.lst xs)/\z=.v (.lst (cutP xs lo hi)))\/∃xs,deref C x=some (.tup xs)/\z=.v (.tup (cutP xs lo hi)):=by
 unfold sliceD at h
 split at h
 ·rename_i p hd
  cases p with
  | lst xs=>cases h;exact .inl ⟨xs,hd,rfl⟩
  | tup xs=>cases h;exact .inr ⟨xs,hd,rfl⟩
  | _=>cases h
 ·cases h
section
variable {X:Cx}{a b e c o i:Expr}{es:5e9}{fa fb fc fo fi fv:4e3}{fs:2e9}{pos p apos cpos p2:Pos}{x:Str}{lo hi:Option Expr}{l h:PSt->M (Option Int)}
theorem PO.imp {e:Option Expr}{t t':TO}(h:PO X e t)(k:∀σ H Q,t' σ H Q->t σ H Q):PO X e t':=fun pins s σ H Q I q=>h pins s σ H Q I (k σ H Q q)
theorem sl_tupW:SlR X (rSlTW X.K):=by
 intro pins s σ H x v vl vu lo hi sl Q I rx hs pl pu h
 obtain ⟨a,xs,rfl,hx,hw,q⟩:=h
 cases rx
 obtain ⟨its,r,ht,hz⟩:=I.tuple hx
 have hlen:its.toArray.size=xs.length:=by rw[Ym];exact r.length.symm
 exact ⟨"tuple",_,Xi.lookup,ht.typeIs,Zb4 ht hs pl pu (by rw[hlen];exact hw) ⟨.ref a,H,I,rfl,q⟩⟩
theorem cut_whole {xs:List PV}{lo hi:Option Int}(h:HT.sIx xs.length 0 lo=0/\HT.sIx xs.length xs.length hi=xs.length):cutP xs lo hi=xs:=by
 unfold cutP;rw[h.1,h.2];simp
def tyP (T:String):PV->Bool
 | .str _=>T=="str"
 | .int _=>T=="int"
 | .lst _=>T=="list"
 | .dct _ _=>T=="dict"
 | .dtt _ _=>T=="dict"
 | _=>false
def isTy (T:String)(x:SV):M Unit:=fun C=>match deref C x with
 | some q=>if tyP T q then some ((),C) else none
 | none=>none
def mtD (h:PV->List PV->Option PV)(C:Cs)(x:SV)(xs:List SV):Option SV:=match deref C x,derefs C xs with
 | some q,some ps=>(h q ps).map .v
 | _,_=>none
def mMt (T:String)(h:PV->List PV->Option PV)(fo:4e3)(fs:2e9):PSt->M SV:=fun ρ=>bnd (fo ρ) fun x=>bnd (isTy T x) fun _=>bnd (fs ρ) fun xs=>opM fun C=>mtD h C x xs
end
section
variable {X:Cx}{a b e c o i:Expr}{es:5e9}{fa fb fc fo fi fv:4e3}{fs:2e9}{pos p apos cpos p2:Pos}{x:Str}
def strsP:List PV->Option (List Str)
 | []=>some []
 | .str b::r=>(strsP r).map (b::·)
 | _::_=>none
def joinH:PV->List PV->Option PV
 | .str z,[.lst xs]=>match strsP xs with
  | some ys=>if (ys.map (·.length)).sum + ys.length * z.length<=1000000 then some (.str (Txt.join z ys)) else none
  | none=>none
 | _,_=>none
def keyP:PV->Option Key
 | .int i=>some (.inl i)
 | .str z=>some (.inr z)
 | _=>none
theorem keyP_kP (k:Key):keyP (kP k)=some k:=by cases k<;>rfl
def lookP:List PV->List PV->Key->Option PV
 | k::ks,v::vs,q=>if keyP k=some q then some v else lookP ks vs q
 | _,_,_=>none
theorem look_rep {K:W.Frag}{ι:3e7}{H:Hp}{q:Key}:∀{qs:9e7} {ps:List PV} {vs:List V},qs.length=vs.length->Reps K ι H ps vs->
  (∀z,lookP (qs.map kP) ps q=some z->∃v,valV (qs.zip vs) q=some v/\Rep K ι H z v)/\(lookP (qs.map kP) ps q=none->valV (qs.zip vs) q=none)
 | [],ps,vs,hl,r=>by
  refine ⟨fun z h=>?_,fun _=>rfl⟩
  cases ps<;>cases h
 | k::qs,[],vs,hl,r=>by rw[r.inv0] at hl;cases hl
 | k::qs,p::ps,vs,hl,r=>by
  obtain ⟨v,w,rfl,h1,h2⟩:=r.inv
  have ih:=look_rep (q:=q) (qs:=qs) (ps:=ps) (vs:=w) (by simpa using hl) h2
  rw[Yw,Xe]
  unfold lookP
  rw[keyP_kP]
  by_cases h:k=q
  ·subst h
   rw[if_pos rfl,Zb6 (p:=(k,v)) rfl]
   exact ⟨fun z e=>by cases e;exact ⟨v,rfl,h1⟩,fun e=>nomatch e⟩
  ·rw[if_neg (fun e=>h (YN e)),Zb7 (p:=(k,v)) h]
   exact ih
theorem lies_key {K:W.Frag}{ι:3e7}{H:Hp}{x:PV}{v:V}{q:Key}(l:Lies K ι H x v)(h:keyP x=some q):v=kV q:=by
 cases l<;>first | (cases h;rfl) | cases h
theorem liesD {K:W.Frag}{ι:3e7}{H:Hp}{ks ps:List PV}{v:V}(l:Lies K ι H (.dct ks ps) v):∃(a:Addr) (qs:9e7) (vs:List V),v=.ref a/\ks=qs.map kP/\H a=some (.dK (qs.zip vs))/\qs.length=vs.length/\Reps K ι H ps vs:=by
 cases l;exact ⟨_,_,_,rfl,rfl,by assumption,by assumption,by assumption⟩
def rDGet:R2:=fun x y H Q=>∃a v,x=.ref a/\DGet H a y (some v)/\Q v H
theorem ix_dict (hu:X.A.units + 1 < cLine):IxR X rDGet:=by
 intro value slice pins s σ H x y v u Q I rx ry h hs
 obtain ⟨a,w,rfl,g,q⟩:=h
 cases rx
 exact tail_any (dict_typeIs I g) PySem.F.slot_dict_getitem.lookup (d_getItem hu I g ry fun w' s' I' r'=>⟨w,H,I',r',q⟩) hs
def ixQ (x y:PV):Option PV:=match x with
 | .dct ks vs=>match keyP y with
  | some q=>lookP ks vs q
  | none=>none
 | x=>ixP x y
theorem ixQ_ok:L2ok X.K (fun x y H Q=>rIx X.K x y H Q\/rDGet x y H Q) ixQ:=by
 sleep 13
 unfold ixQ at e
 split at e
 ·rename_i ks vs
  split at e
  ·rename_i key hk
   obtain ⟨a,qs,ws,rfl,rfl,hd,hl,r⟩:=liesD lx
   obtain ⟨v,hv,rv⟩:=(look_rep hl r).1 z e
   rw[lies_key ly hk]
   exact .inr ⟨a,v,rfl,by rw[←hv];exact DGet.k hd,k v H .refl cr rv⟩
  ·cases e
 ·exact .inl (ix_ok ι H C p q vx vy z Q cr lx ly e k)
theorem track {pins:2e0}{σ:St}{H:Hp}{s:Shared}{d:Addr}{ob:HO}(I:2e3)(hn:H d=none)(hd:X.s₀.heap.objs.size<=d)(hL:d≠X.env.locals)(hc:∀x c,X.env.cells.lookup x=some c->c≠d)
  (hp:∀p∈X.pn++pins,p.1≠d) (new:ObjOk X.prog X.w (upd H d ob) s.heap d ob):Inv X pins σ (upd H d ob) s:=by
 have u:=I.base
 refine ⟨I.ok,I.os,I.bare,⟨u.keep,u.slot,fun b o e q hx=>?_,u.there,fun b xs e=>?_,fun b o xs e=>?_,fun b ps e=>?_⟩,I.loc,I.cell,?_,fun x c e=>?_,fun p hp'=>?_,fun b o e=>?_,I.len⟩
 ·rw[Zax (Yq (Yk (Yv e) hd))];exact u.free b o e q hx
 ·rw[Zax (Zas (u.tups b xs e) hn)];exact u.tups b xs e
 ·rw[Zax (Zas (u.frzs b o xs e) hn)];exact u.frzs b o xs e
 ·obtain ⟨more,q⟩:=u.tbls b ps e
  exact ⟨more,by rw[Zax (Zas q hn)];exact q⟩
 ·rw[Zax (Xw hL)];exact I.free
 ·rw[Zax (hc x c e)];exact I.freeC x c e
 ·obtain ⟨h1,h2,h3⟩:=I.pin p hp'
  exact ⟨h1,by rw[Zax (hp p hp')];exact h2,h3⟩
 ·by_cases hb:b=d
  ·subst hb
   rw[ZaQ] at e;cases e;exact new
  ·rw[Zax hb] at e
   exact (I.hok b o e).stay (fun _ _ _ q=>q) (fun c q=>by rw[Zax (Zas q hn)];exact q) fun c xs q=>by rw[Zax (Zas q hn)];exact q
def PRel:List Str->List V->List (Value×Value)->Prop
 | [],[],[]=>True
 | k::ks,v::vs,(u,w)::r=>keyIs (.inr k) u=true/\RelV v w/\PRel ks vs r
 | _,_,_=>False
def DP (X:Cx)(ks:List (Option Expr))(es:5e9)(keys:5e6)(t:TA):Prop:=
 ∀(pos:Pos) (pins:2e0) (s:Shared) (σ:St) (H:Hp) (Q:List V->Hp->Prop),Inv X pins σ H s->t σ H Q->
  wpAny 2e4 X.A (evalPairs (pairTrees ks es X.env pos)) (fun us s'=>∃vs H',Inv X pins σ H' s'/\PRel keys vs us/\Q vs H') X.xe s
def DM (X:Cx)(ks:List (Option Expr))(es:5e9)(keys:5e6)(f:2e9):Prop:=DP X ks es keys (tMA X.K f)
def mDict (keys:5e6)(fs:2e9):PSt->M SV:=fun ρ=>bnd (fs ρ) fun xs=>opM fun _=>(plain xs).map fun ps=>.v (.dct (keys.map PV.str) ps)
end
section
variable {X:Cx}{a b e c o i:Expr}{es:5e9}{fa fb fc fo fi fv:4e3}{fs:2e9}{pos p apos cpos p2:Pos}{x:Str}{d:Addr}{tab:List (Str×Addr)}
def mDict0:PSt->M SV:=fun _=>ret (.v (.dct [] []))
end
inductive ZS where
 | l (a:Addr) | t (a:Addr) | s (z:Str) (tk:Tok) (wd:Bool)
section
variable {X:Cx}{pins:2e0}{σ:St}{H:Hp}{s:Shared}
theorem turnedL {t':Nat}{h':Heap}{ch:3e7}(I:2e3)(k:∀b o,b∉ch->s.heap.get? b=some o->h'.get? b=some o)(hf:∀b∈ch,FpOk X pins H b):Inv X pins σ H { s with heap:=h',toks:=t' }:=by
 have nit:∀b u,H b=some u->b∉ch:=fun b u e z=>by rw[(hf b z).1] at e;cases e
 refine I.step (g':=s.gens) (d':=s.drawn) (ch:=ch) (fun b hb=>⟨(hf b hb).2.2.2.1,(hf b hb).2.1,(hf b hb).2.2.2.2.1,(hf b hb).2.2.2.2.2⟩) (fun b o _ _ hc e _=>k b o hc e) (fun b o _ _ hc e _=>⟨o.slots,k b o hc e⟩) (fun _ _ _ _ n=>n)
  (fun b o hc e=>⟨o,k b o hc e⟩) (fun _ _ e=>e) (fun _ _ _ e=>e) (fun b ps e=>⟨#[],by rw[e];simp⟩) (fun m hm=>?_) (fun b u e=>?_) I.bare
 ·obtain ⟨o,es,ep,ho,r⟩:=hm
  exact ⟨o,es,ep,k _ o (fun z=>(hf _ z).2.1 rfl) ho,r⟩
 ·refine (I.hok b u e).stay (fun c v hc q=>k c v ?_ q) (fun _ q=>q) fun _ _ q=>q
  rcases hc with z | z
  ·rw[z];exact nit b u e
  ·exact nit c _ z
end
mutual
def HRep (h:Heap):PV->Value->Prop
 | .non,u=>u=.none
 | .bl b,u=>u=.bool b
 | .int i,u=>∃t,u=.int i t
 | .str x,u=>∃t,u=.str x t
 | .tup ps,u=>∃(a:Addr) (us:4e1),u=.ref a/\h.IsTuple a us.toArray/\HReps h ps us
 | .lst ps,u=>∃(a:Addr) (us:4e1),u=.ref a/\h.IsList a us.toArray/\HReps h ps us
 | _,_=>False
def HReps (h:Heap):List PV->List Value->Prop
 | [],us=>us=[]
 | p::ps,us=>∃v r,us=v::r/\HRep h p v/\HReps h ps r
end
mutual
def dat:PV->Bool
 | .tup ps=>dats ps
 | .lst ps=>dats ps
 | .dct _ _=>false
 | .dtt _ _=>false
 | .fn _=>false
 | .ty _=>false
 | _=>true
def dats:List PV->Bool
 | []=>true
 | p::ps=>dat p&&dats ps
end
mutual
def dep:PV->Nat
 | .tup ps=>deps ps + 1
 | .lst ps=>deps ps + 1
 | _=>0
def deps:List PV->Nat
 | []=>0
 | p::ps=>max (dep p) (deps ps)
end
mutual
theorem Rep.heap {X:Cx}{pins:2e0}{σ:St}{H:Hp}{s:Shared}{ι:3e7}(I:2e3):∀(p:PV) {v:V} {u:Value},Rep X.K ι H p v->RelV v u->dat p=true->HRep s.heap p u
 | .non,v,u,h,r,_=>by unfold Rep at h;subst h;unfold HRep;exact r
 | .bl b,v,u,h,r,_=>by unfold Rep at h;subst h;unfold HRep;exact r
 | .int i,v,u,h,r,_=>by unfold Rep at h;subst h;unfold HRep;exact r
 | .str x,v,u,h,r,_=>by unfold Rep at h;obtain ⟨rfl,h⟩:=h;unfold HRep;exact r
 | .tup ps,v,u,h,r,d=>by
  unfold Rep at h;obtain ⟨a,vs,rfl,h,rs⟩:=h
  cases r
  obtain ⟨its,r',pl,hz⟩:=I.tuple h.sq
  unfold HRep
  unfold dat at d
  exact ⟨a,its,rfl,pl,Reps.heap I ps rs r' d⟩
 | .lst ps,v,u,h,r,d=>by
  unfold Rep at h;obtain ⟨a,vs,rfl,h,rs⟩:=h
  cases r
  obtain ⟨its,r',pl,hz⟩:=I.list h.sq
  unfold HRep
  unfold dat at d
  exact ⟨a,its,rfl,pl.isList,Reps.heap I ps rs r' d⟩
 | .dct ks ps,v,u,h,r,d=>by unfold dat at d;cases d
 | .dtt ks ps,v,u,h,r,d=>by unfold dat at d;cases d
 | .fn a,v,u,h,r,d=>by unfold dat at d;cases d
 | .ty n,v,u,h,r,d=>by unfold dat at d;cases d
theorem Reps.heap {X:Cx}{pins:2e0}{σ:St}{H:Hp}{s:Shared}{ι:3e7}(I:2e3):∀(ps:List PV) {vs:List V} {us:4e1},Reps X.K ι H ps vs->Vals vs us->dats ps=true->HReps s.heap ps us
 | [],vs,us,h,r,_=>by unfold Reps at h;subst h;cases r;unfold HReps;rfl
 | p::ps,vs,us,h,r,d=>by
  unfold Reps at h;obtain ⟨v,w,rfl,h1,h2⟩:=h
  cases r with
  | cons r1 r2=>
   unfold dats at d
   rw[Ys] at d
   unfold HReps
   exact ⟨_,_,rfl,Rep.heap I p h1 r1 d.1,Reps.heap I ps h2 r2 d.2⟩
end
theorem Lies.heap {X:Cx}{pins:2e0}{σ:St}{H:Hp}{s:Shared}{ι:3e7}(I:2e3){p:PV}{v:V}{u:Value}(l:Lies X.K ι H p v)(r:RelV v u)(d:dat p=true):HRep s.heap p u:=by
 cases l with
 | non=>unfold HRep;exact r
 | bl b=>unfold HRep;exact r
 | int i=>unfold HRep;exact r
 | str x h=>unfold HRep;exact r
 | tup h rs=>
  cases r
  obtain ⟨its,r',pl,hz⟩:=I.tuple h.sq
  unfold HRep
  unfold dat at d
  exact ⟨_,its,rfl,pl,Reps.heap I _ rs r' d⟩
 | lst h rs=>
  cases r
  obtain ⟨its,r',pl,hz⟩:=I.list h
  unfold HRep
  unfold dat at d
  exact ⟨_,its,rfl,pl.isList,Reps.heap I _ rs r' d⟩
 | dct h hl rs=>unfold dat at d;cases d
 | dtt h hl rs=>unfold dat at d;cases d
 | fn a=>unfold dat at d;cases d
 | ty n=>unfold dat at d;cases d
mutual
def eqD:PV->PV->Bool
 | .non,.non=>true
 | .bl a,.bl b=>a==b
 | .bl a,.int b=>(if a then 1 else 0)==b
 | .int a,.bl b=>a==(if b then 1 else 0)
 | .int a,.int b=>a==b
 | .str a,.str b=>a==b
 | .tup xs,.tup ys=>eqDs xs ys
 | .lst xs,.lst ys=>eqDs xs ys
 | _,_=>false
def eqDs:List PV->List PV->Bool
 | [],[]=>true
 | x::xs,y::ys=>eqD x y&&eqDs xs ys
 | _,_=>false
end
theorem Zda {h:Heap}{a:Addr}{us vs:4e1}(h1:h.IsTuple a us.toArray)(h2:h.IsTuple a vs.toArray):us=vs:=by
 obtain ⟨o,e,_,n,d⟩:=h1
 obtain ⟨o',e',_,n',d'⟩:=h2
 rw[e] at e';cases e'
 rw[d] at d';injection d' with d1 _
 simpa using d1
theorem ZdA {h:Heap}{a:Addr}{us vs:4e1}(h1:h.IsList a us.toArray)(h2:h.IsList a vs.toArray):us=vs:=by
 obtain ⟨o,e,_,n,d⟩:=h1
 obtain ⟨o',e',_,n',d'⟩:=h2
 rw[e] at e';cases e'
 rw[d] at d';injection d' with d1 _
 simpa using d1
theorem ZcI {h:Heap}{a:Addr}{us vs:4e1}(h1:h.IsTuple a us.toArray)(h2:h.IsList a vs.toArray):False:=by
 obtain ⟨o,e,c,_⟩:=h1
 obtain ⟨o',e',c',_⟩:=h2
 rw[e] at e';cases e'
 rw[c] at c';injection c' with c';exact absurd c' (by decide)
mutual
theorem HRep.same {h:Heap}:∀(p:PV) {q:PV} {u:Value},HRep h p u->HRep h q u->eqD p q=true
 | .non,q,u,a,b=>by
  unfold HRep at a;subst a
  cases q<;>unfold HRep at b<;>first | rfl | (cases b;done) | (obtain ⟨_,e⟩:=b;cases e;done) | (obtain ⟨_,_,e,_⟩:=b;cases e;done) | exact b.elim
 | .bl x,q,u,a,b=>by
  unfold HRep at a;subst a
  cases q<;>unfold HRep at b<;>first | (cases b;done) | (cases b;unfold eqD;exact beq_self_eq_true _) | (obtain ⟨_,e⟩:=b;cases e;done) | (obtain ⟨_,_,e,_⟩:=b;cases e;done) | exact b.elim
 | .int x,q,u,a,b=>by
  unfold HRep at a;obtain ⟨t,rfl⟩:=a
  cases q<;>unfold HRep at b<;>first | (cases b;done) | (obtain ⟨_,e⟩:=b;cases e;done) | (obtain ⟨_,e⟩:=b;cases e;unfold eqD;exact beq_self_eq_true _) | (obtain ⟨_,_,e,_⟩:=b;cases e;done) | exact b.elim
 | .str x,q,u,a,b=>by
  unfold HRep at a;obtain ⟨t,rfl⟩:=a
  cases q<;>unfold HRep at b<;>first | (cases b;done) | (obtain ⟨_,e⟩:=b;cases e;done) | (obtain ⟨_,e⟩:=b;cases e;unfold eqD;exact beq_self_eq_true _) | (obtain ⟨_,_,e,_⟩:=b;cases e;done) | exact b.elim
 | .tup ps,q,u,a,b=>by
  unfold HRep at a;obtain ⟨l,us,rfl,h1,r1⟩:=a
  cases q with
  | tup qs=>
   unfold HRep at b;obtain ⟨l',vs,e,h2,r2⟩:=b
   cases e
   cases Zda h1 h2
   unfold eqD
   exact HReps.same ps r1 r2
  | lst qs=>unfold HRep at b;obtain ⟨l',vs,e,h2,r2⟩:=b;cases e;exact (ZcI h1 h2).elim
  | _=>unfold HRep at b;first | (cases b;done) | (obtain ⟨_,e⟩:=b;cases e;done) | exact b.elim
 | .lst ps,q,u,a,b=>by
  unfold HRep at a;obtain ⟨l,us,rfl,h1,r1⟩:=a
  cases q with
  | lst qs=>
   unfold HRep at b;obtain ⟨l',vs,e,h2,r2⟩:=b
   cases e
   cases ZdA h1 h2
   unfold eqD
   exact HReps.same ps r1 r2
  | tup qs=>unfold HRep at b;obtain ⟨l',vs,e,h2,r2⟩:=b;cases e;exact (ZcI h2 h1).elim
  | _=>unfold HRep at b;first | (cases b;done) | (obtain ⟨_,e⟩:=b;cases e;done) | exact b.elim
 | .dct _ _,q,u,a,b=>by unfold HRep at a;exact a.elim
 | .dtt _ _,q,u,a,b=>by unfold HRep at a;exact a.elim
 | .fn _,q,u,a,b=>by unfold HRep at a;exact a.elim
 | .ty _,q,u,a,b=>by unfold HRep at a;exact a.elim
theorem HReps.same {h:Heap}:∀(ps:List PV) {qs:List PV} {us:4e1},HReps h ps us->HReps h qs us->eqDs ps qs=true
 | [],qs,us,a,b=>by
  unfold HReps at a;subst a
  cases qs with
  | nil=>rfl
  | cons q qs=>unfold HReps at b;obtain ⟨_,_,e,_⟩:=b;cases e
 | p::ps,qs,us,a,b=>by
  unfold HReps at a;obtain ⟨v,r,rfl,a1,a2⟩:=a
  cases qs with
  | nil=>unfold HReps at b;cases b
  | cons q qs=>
   unfold HReps at b;obtain ⟨v',r',e,b1,b2⟩:=b
   cases e
   unfold eqDs
   rw[HRep.same p a1 b1,HReps.same ps a2 b2];rfl
end
end Pu
namespace Pu
open PySem PySem.Spec L2 PySem.SeqAt
open PyProof.Rows hiding St Fr
theorem HReps.length {h:Heap}:∀{ps:List PV} {us:4e1},HReps h ps us->ps.length=us.length
 | [],us,a=>by unfold HReps at a;subst a;rfl
 | p::ps,us,a=>by unfold HReps at a;obtain ⟨v,r,rfl,_,b⟩:=a;rw[YX,YX,b.length]
theorem ZbW:∀(ps qs:List PV),(((Yl (min ps.length qs.length)).all fun j=>eqD (ps.getD j .non) (qs.getD j .non))&&ps.length==qs.length)=eqDs ps qs
 | [],[]=>rfl
 | [],_::_=>by unfold eqDs;simp
 | _::_,[]=>by unfold eqDs;simp
 | p::ps,q::qs=>by
  rw[eqDs,←ZbW ps qs,YX,YX,Nat.succ_min_succ,List.range_succ_eq_map,Vj,V3]
  rw[show (ps.length + 1==qs.length + 1)=(ps.length==qs.length) by simp[BEq.beq]]
  rw[Bool.and_assoc]
  rfl
theorem Zde {ps qs:List PV}(e:ps.length=qs.length):((Yl ps.length).all fun j=>eqD (ps.getD j .non) (qs.getD j .non))=eqDs ps qs:=by
 have:=ZbW ps qs
 rw[←e,Nat.min_self,beq_self_eq_true,Bool.and_true] at this
 exact this
theorem eqDs_len:∀{ps qs:List PV},ps.length≠qs.length->eqDs ps qs=false
 | [],[],h=>absurd rfl h
 | [],_::_,_=>by unfold eqDs;rfl
 | _::_,[],_=>by unfold eqDs;rfl
 | p::ps,q::qs,h=>by unfold eqDs;rw[eqDs_len fun z=>h (by rw[YX,YX,z]),Bool.and_false]
section
variable {s:Shared}
theorem RcAt.tupD {A:Around}{a b:Addr}{us vs:4e1}{ps qs:List PV}(h1:s.heap.IsTuple a us.toArray)(h2:s.heap.IsTuple b vs.toArray)(l1:ps.length=us.length)(l2:qs.length=vs.length)(hu:4e6)
  (he:∀j (h1:j < us.length) (h2:j < vs.length),EqAt A.in1 s us[j] vs[j] (eqD (ps.getD j .non) (qs.getD j .non))):RcAt A s (.ref a) (.ref b) (eqDs ps qs):=by
 have:=RcAt.tuples h1 h2 hu (e:=fun j=>eqD (ps.getD j .non) (qs.getD j .non)) (fun j z1 z2=>by simpa using he j (by simpa using z1) (by simpa using z2))
 simp only[Ym,←l1,←l2] at this
 rw[ZbW] at this;exact this
theorem RcAt.lstD {A:Around}{a b:Addr}{us vs:4e1}{ps qs:List PV}(h1:s.heap.IsList a us.toArray)(h2:s.heap.IsList b vs.toArray)(l1:ps.length=us.length)(l2:qs.length=vs.length)(hu:4e6)
  (he:∀j (h1:j < us.length) (h2:j < vs.length),EqAt A.in1 s us[j] vs[j] (eqD (ps.getD j .non) (qs.getD j .non))):RcAt A s (.ref a) (.ref b) (eqDs ps qs):=by
 by_cases e:us.length=vs.length
 ·have:=RcAt.lists h1 h2 (by simpa using e) hu (e:=fun j=>eqD (ps.getD j .non) (qs.getD j .non)) (fun j z1 z2=>by simpa using he j (by simpa using z1) (by simpa using z2))
  simp only[Ym,←l1] at this
  rw[Zde 1e2] at this;exact this
 ·have:=RcAt.lists_lengths h1 h2 (by simpa using e) hu
  rw[eqDs_len 1e2];exact this
theorem RcNeAt.tupD {A:Around}{a b:Addr}{us vs:4e1}{ps qs:List PV}(h1:s.heap.IsTuple a us.toArray)(h2:s.heap.IsTuple b vs.toArray)(l1:ps.length=us.length)(l2:qs.length=vs.length)(hu:4e6)
  (he:∀j (h1:j < us.length) (h2:j < vs.length),EqAt A.in1 s us[j] vs[j] (eqD (ps.getD j .non) (qs.getD j .non))):RcNeAt A s (.ref a) (.ref b) (!eqDs ps qs):=by
 have:=RcNeAt.tuples h1 h2 hu (e:=fun j=>eqD (ps.getD j .non) (qs.getD j .non)) (fun j z1 z2=>by simpa using he j (by simpa using z1) (by simpa using z2))
 simp only[Ym,←l1,←l2] at this
 rw[ZbW] at this;exact this
theorem RcNeAt.lstD {A:Around}{a b:Addr}{us vs:4e1}{ps qs:List PV}(h1:s.heap.IsList a us.toArray)(h2:s.heap.IsList b vs.toArray)(l1:ps.length=us.length)(l2:qs.length=vs.length)(hu:4e6)
  (he:∀j (h1:j < us.length) (h2:j < vs.length),EqAt A.in1 s us[j] vs[j] (eqD (ps.getD j .non) (qs.getD j .non))):RcNeAt A s (.ref a) (.ref b) (!eqDs ps qs):=by
 by_cases e:us.length=vs.length
 ·have:=RcNeAt.lists h1 h2 (by simpa using e) hu (e:=fun j=>eqD (ps.getD j .non) (qs.getD j .non)) (fun j z1 z2=>by simpa using he j (by simpa using z1) (by simpa using z2))
  simp only[Ym,←l1] at this
  rw[Zde 1e2] at this;exact this
 ·have:=RcNeAt.lists_lengths h1 h2 (by simpa using e) hu
  rw[eqDs_len 1e2];exact this
end
section
variable {s:Shared}
theorem EqAt.x_non {q:PV}{u v:Value}{A:Around}(a:HRep s.heap .non u)(b:15e7)(hu':4e6):EqAt A s u v (eqD .non q):=by
 unfold HRep at a;subst a
 cases q<;>unfold HRep at b
 ·unfold eqD;subst b;exact EqAt.same _
 ·unfold eqD;subst b;exact EqAt.none_bool _
 ·unfold eqD;obtain ⟨_,rfl⟩:=b;exact EqAt.none_int _ _
 ·unfold eqD;obtain ⟨_,rfl⟩:=b;exact EqAt.none_str _ _
 ·unfold eqD;obtain ⟨_,_,rfl,h_b,_⟩:=b;exact EqAt.none_tuple h_b hu'
 ·unfold eqD;obtain ⟨_,_,rfl,h_b,_⟩:=b;exact EqAt.none_list h_b hu'
 ·exact b.elim
 ·exact b.elim
 ·exact b.elim
 ·exact b.elim
theorem EqAt.x_bl {x:Bool}{q:PV}{u v:Value}{A:Around}(a:HRep s.heap (.bl x) u)(b:15e7)(hu':4e6):EqAt A s u v (eqD (.bl x) q):=by
 unfold HRep at a;subst a
 cases q<;>unfold HRep at b
 ·unfold eqD;subst b;exact EqAt.bool_none _
 ·unfold eqD;subst b;exact EqAt.bool_bool _ _
 ·unfold eqD;obtain ⟨_,rfl⟩:=b;exact EqAt.bool_int _ _ _
 ·unfold eqD;obtain ⟨_,rfl⟩:=b;exact EqAt.bool_str _ _ _
 ·unfold eqD;obtain ⟨_,_,rfl,h_b,_⟩:=b;exact EqAt.bool_tuple _ h_b hu'
 ·unfold eqD;obtain ⟨_,_,rfl,h_b,_⟩:=b;exact EqAt.bool_list _ h_b hu'
 ·exact b.elim
 ·exact b.elim
 ·exact b.elim
 ·exact b.elim
theorem EqAt.x_int {x:Int}{q:PV}{u v:Value}{A:Around}(a:HRep s.heap (.int x) u)(b:15e7)(hu':4e6):EqAt A s u v (eqD (.int x) q):=by
 unfold HRep at a;obtain ⟨_,rfl⟩:=a
 cases q<;>unfold HRep at b
 ·unfold eqD;subst b;exact EqAt.int_none _ _
 ·unfold eqD;subst b;exact EqAt.int_bool _ _ _
 ·unfold eqD;obtain ⟨_,rfl⟩:=b;exact EqAt.int_int _ _ _ _
 ·unfold eqD;obtain ⟨_,rfl⟩:=b;exact EqAt.int_str _ _ _ _
 ·unfold eqD;obtain ⟨_,_,rfl,h_b,_⟩:=b;exact EqAt.int_tuple _ _ h_b hu'
 ·unfold eqD;obtain ⟨_,_,rfl,h_b,_⟩:=b;exact EqAt.int_list _ _ h_b hu'
 ·exact b.elim
 ·exact b.elim
 ·exact b.elim
 ·exact b.elim
theorem EqAt.x_str {x:Str}{q:PV}{u v:Value}{A:Around}(a:HRep s.heap (.str x) u)(b:15e7)(hu':4e6):EqAt A s u v (eqD (.str x) q):=by
 unfold HRep at a;obtain ⟨_,rfl⟩:=a
 cases q<;>unfold HRep at b
 ·unfold eqD;subst b;exact EqAt.str_none _ _
 ·unfold eqD;subst b;exact EqAt.str_bool _ _ _
 ·unfold eqD;obtain ⟨_,rfl⟩:=b;exact EqAt.str_int _ _ _ _
 ·unfold eqD;obtain ⟨_,rfl⟩:=b;exact EqAt.str_str _ _ _ _
 ·unfold eqD;obtain ⟨_,_,rfl,h_b,_⟩:=b;exact EqAt.str_tuple _ _ h_b hu'
 ·unfold eqD;obtain ⟨_,_,rfl,h_b,_⟩:=b;exact EqAt.str_list _ _ h_b hu'
 ·exact b.elim
 ·exact b.elim
 ·exact b.elim
 ·exact b.elim
theorem EqAt.x_tup_non {ps:List PV}{u v:Value}{A:Around}(a:14e0)(b:HRep s.heap .non v)(hu':4e6):EqAt A s u v (eqD 9e2 .non):=by
 unfold HRep at a b;unfold eqD;obtain ⟨_,_,rfl,h_a,_⟩:=a;subst b;exact EqAt.tuple_none h_a hu'
theorem EqAt.x_tup_bl {x:Bool}{ps:List PV}{u v:Value}{A:Around}(a:14e0)(b:HRep s.heap (.bl x) v)(hu':4e6):EqAt A s u v (eqD 9e2 (.bl x)):=by
 unfold HRep at a b;unfold eqD;obtain ⟨_,_,rfl,h_a,_⟩:=a;subst b;exact EqAt.tuple_bool _ h_a hu'
theorem EqAt.x_tup_int {x:Int}{ps:List PV}{u v:Value}{A:Around}(a:14e0)(b:HRep s.heap (.int x) v)(hu':4e6):EqAt A s u v (eqD 9e2 (.int x)):=by
 unfold HRep at a b;unfold eqD;obtain ⟨_,_,rfl,h_a,_⟩:=a;obtain ⟨_,rfl⟩:=b;exact EqAt.tuple_int _ _ h_a hu'
theorem EqAt.x_tup_str {x:Str}{ps:List PV}{u v:Value}{A:Around}(a:14e0)(b:HRep s.heap (.str x) v)(hu':4e6):EqAt A s u v (eqD 9e2 (.str x)):=by
 unfold HRep at a b;unfold eqD;obtain ⟨_,_,rfl,h_a,_⟩:=a;obtain ⟨_,rfl⟩:=b;exact EqAt.tuple_str _ _ h_a hu'
theorem EqAt.x_tup_lst {x:List PV}{ps:List PV}{u v:Value}{A:Around}(a:14e0)(b:HRep s.heap (.lst x) v)(hu':4e6):EqAt A s u v (eqD 9e2 (.lst x)):=by
 unfold HRep at a b;unfold eqD;obtain ⟨_,_,rfl,h_a,_⟩:=a;obtain ⟨_,_,rfl,h_b,_⟩:=b;exact EqAt.tuple_list h_a h_b hu'
theorem EqAt.x_lst_non {ps:List PV}{u v:Value}{A:Around}(a:13e9)(b:HRep s.heap .non v)(hu':4e6):EqAt A s u v (eqD 8e6 .non):=by
 unfold HRep at a b;unfold eqD;obtain ⟨_,_,rfl,h_a,_⟩:=a;subst b;exact EqAt.list_none h_a hu'
theorem EqAt.x_lst_bl {x:Bool}{ps:List PV}{u v:Value}{A:Around}(a:13e9)(b:HRep s.heap (.bl x) v)(hu':4e6):EqAt A s u v (eqD 8e6 (.bl x)):=by
 unfold HRep at a b;unfold eqD;obtain ⟨_,_,rfl,h_a,_⟩:=a;subst b;exact EqAt.list_bool _ h_a hu'
theorem EqAt.x_lst_int {x:Int}{ps:List PV}{u v:Value}{A:Around}(a:13e9)(b:HRep s.heap (.int x) v)(hu':4e6):EqAt A s u v (eqD 8e6 (.int x)):=by
 unfold HRep at a b;unfold eqD;obtain ⟨_,_,rfl,h_a,_⟩:=a;obtain ⟨_,rfl⟩:=b;exact EqAt.list_int _ _ h_a hu'
theorem EqAt.x_lst_str {x:Str}{ps:List PV}{u v:Value}{A:Around}(a:13e9)(b:HRep s.heap (.str x) v)(hu':4e6):EqAt A s u v (eqD 8e6 (.str x)):=by
 unfold HRep at a b;unfold eqD;obtain ⟨_,_,rfl,h_a,_⟩:=a;obtain ⟨_,rfl⟩:=b;exact EqAt.list_str _ _ h_a hu'
theorem EqAt.x_lst_tup {x:List PV}{ps:List PV}{u v:Value}{A:Around}(a:13e9)(b:HRep s.heap (.tup x) v)(hu':4e6):EqAt A s u v (eqD 8e6 (.tup x)):=by
 unfold HRep at a b;unfold eqD;obtain ⟨_,_,rfl,h_a,_⟩:=a;obtain ⟨_,_,rfl,h_b,_⟩:=b;exact EqAt.list_tuple h_a h_b hu'
theorem RcAt.x_non {q:PV}{u v:Value}{A:Around}(a:HRep s.heap .non u)(b:15e7)(hu':4e6):RcAt A s u v (eqD .non q):=by
 unfold HRep at a;subst a
 cases q<;>unfold HRep at b
 ·unfold eqD;subst b;exact RcAt.none_none
 ·unfold eqD;subst b;exact RcAt.none_bool _
 ·unfold eqD;obtain ⟨_,rfl⟩:=b;exact RcAt.none_int _ _
 ·unfold eqD;obtain ⟨_,rfl⟩:=b;exact RcAt.none_str _ _
 ·unfold eqD;obtain ⟨_,_,rfl,h_b,_⟩:=b;exact RcAt.none_tuple h_b hu'
 ·unfold eqD;obtain ⟨_,_,rfl,h_b,_⟩:=b;exact RcAt.none_list h_b hu'
 ·exact b.elim
 ·exact b.elim
 ·exact b.elim
 ·exact b.elim
theorem RcAt.x_bl {x:Bool}{q:PV}{u v:Value}{A:Around}(a:HRep s.heap (.bl x) u)(b:15e7)(hu':4e6):RcAt A s u v (eqD (.bl x) q):=by
 unfold HRep at a;subst a
 cases q<;>unfold HRep at b
 ·unfold eqD;subst b;exact RcAt.bool_none _
 ·unfold eqD;subst b;exact RcAt.bool_bool _ _
 ·unfold eqD;obtain ⟨_,rfl⟩:=b;exact RcAt.bool_int _ _ _
 ·unfold eqD;obtain ⟨_,rfl⟩:=b;exact RcAt.bool_str _ _ _
 ·unfold eqD;obtain ⟨_,_,rfl,h_b,_⟩:=b;exact RcAt.bool_tuple _ h_b hu'
 ·unfold eqD;obtain ⟨_,_,rfl,h_b,_⟩:=b;exact RcAt.bool_list _ h_b hu'
 ·exact b.elim
 ·exact b.elim
 ·exact b.elim
 ·exact b.elim
theorem RcAt.x_int {x:Int}{q:PV}{u v:Value}{A:Around}(a:HRep s.heap (.int x) u)(b:15e7)(hu':4e6):RcAt A s u v (eqD (.int x) q):=by
 unfold HRep at a;obtain ⟨_,rfl⟩:=a
 cases q<;>unfold HRep at b
 ·unfold eqD;subst b;exact RcAt.int_none _ _
 ·unfold eqD;subst b;exact RcAt.int_bool _ _ _
 ·unfold eqD;obtain ⟨_,rfl⟩:=b;exact RcAt.int_int _ _ _ _
 ·unfold eqD;obtain ⟨_,rfl⟩:=b;exact RcAt.int_str _ _ _ _
 ·unfold eqD;obtain ⟨_,_,rfl,h_b,_⟩:=b;exact RcAt.int_tuple _ _ h_b hu'
 ·unfold eqD;obtain ⟨_,_,rfl,h_b,_⟩:=b;exact RcAt.int_list _ _ h_b hu'
 ·exact b.elim
 ·exact b.elim
 ·exact b.elim
 ·exact b.elim
theorem RcAt.x_str {x:Str}{q:PV}{u v:Value}{A:Around}(a:HRep s.heap (.str x) u)(b:15e7)(hu':4e6):RcAt A s u v (eqD (.str x) q):=by
 unfold HRep at a;obtain ⟨_,rfl⟩:=a
 cases q<;>unfold HRep at b
 ·unfold eqD;subst b;exact RcAt.str_none _ _
 ·unfold eqD;subst b;exact RcAt.str_bool _ _ _
 ·unfold eqD;obtain ⟨_,rfl⟩:=b;exact RcAt.str_int _ _ _ _
 ·unfold eqD;obtain ⟨_,rfl⟩:=b;exact RcAt.str_str _ _ _ _
 ·unfold eqD;obtain ⟨_,_,rfl,h_b,_⟩:=b;exact RcAt.str_tuple _ _ h_b hu'
 ·unfold eqD;obtain ⟨_,_,rfl,h_b,_⟩:=b;exact RcAt.str_list _ _ h_b hu'
 ·exact b.elim
 ·exact b.elim
 ·exact b.elim
 ·exact b.elim
theorem RcAt.x_tup_non {ps:List PV}{u v:Value}{A:Around}(a:14e0)(b:HRep s.heap .non v)(hu':4e6):RcAt A s u v (eqD 9e2 .non):=by
 unfold HRep at a b;unfold eqD;obtain ⟨_,_,rfl,h_a,_⟩:=a;subst b;exact RcAt.tuple_none h_a hu'
theorem RcAt.x_tup_bl {x:Bool}{ps:List PV}{u v:Value}{A:Around}(a:14e0)(b:HRep s.heap (.bl x) v)(hu':4e6):RcAt A s u v (eqD 9e2 (.bl x)):=by
 unfold HRep at a b;unfold eqD;obtain ⟨_,_,rfl,h_a,_⟩:=a;subst b;exact RcAt.tuple_bool _ h_a hu'
theorem RcAt.x_tup_int {x:Int}{ps:List PV}{u v:Value}{A:Around}(a:14e0)(b:HRep s.heap (.int x) v)(hu':4e6):RcAt A s u v (eqD 9e2 (.int x)):=by
 unfold HRep at a b;unfold eqD;obtain ⟨_,_,rfl,h_a,_⟩:=a;obtain ⟨_,rfl⟩:=b;exact RcAt.tuple_int _ _ h_a hu'
theorem RcAt.x_tup_str {x:Str}{ps:List PV}{u v:Value}{A:Around}(a:14e0)(b:HRep s.heap (.str x) v)(hu':4e6):RcAt A s u v (eqD 9e2 (.str x)):=by
 unfold HRep at a b;unfold eqD;obtain ⟨_,_,rfl,h_a,_⟩:=a;obtain ⟨_,rfl⟩:=b;exact RcAt.tuple_str _ _ h_a hu'
theorem RcAt.x_tup_lst {x:List PV}{ps:List PV}{u v:Value}{A:Around}(a:14e0)(b:HRep s.heap (.lst x) v)(hu':4e6):RcAt A s u v (eqD 9e2 (.lst x)):=by
 unfold HRep at a b;unfold eqD;obtain ⟨_,_,rfl,h_a,_⟩:=a;obtain ⟨_,_,rfl,h_b,_⟩:=b;exact RcAt.tuple_list h_a h_b hu'
theorem RcAt.x_lst_non {ps:List PV}{u v:Value}{A:Around}(a:13e9)(b:HRep s.heap .non v)(hu':4e6):RcAt A s u v (eqD 8e6 .non):=by
 unfold HRep at a b;unfold eqD;obtain ⟨_,_,rfl,h_a,_⟩:=a;subst b;exact RcAt.list_none h_a hu'
theorem RcAt.x_lst_bl {x:Bool}{ps:List PV}{u v:Value}{A:Around}(a:13e9)(b:HRep s.heap (.bl x) v)(hu':4e6):RcAt A s u v (eqD 8e6 (.bl x)):=by
 unfold HRep at a b;unfold eqD;obtain ⟨_,_,rfl,h_a,_⟩:=a;subst b;exact RcAt.list_bool _ h_a hu'
theorem RcAt.x_lst_int {x:Int}{ps:List PV}{u v:Value}{A:Around}(a:13e9)(b:HRep s.heap (.int x) v)(hu':4e6):RcAt A s u v (eqD 8e6 (.int x)):=by
 unfold HRep at a b;unfold eqD;obtain ⟨_,_,rfl,h_a,_⟩:=a;obtain ⟨_,rfl⟩:=b;exact RcAt.list_int _ _ h_a hu'
theorem RcAt.x_lst_str {x:Str}{ps:List PV}{u v:Value}{A:Around}(a:13e9)(b:HRep s.heap (.str x) v)(hu':4e6):RcAt A s u v (eqD 8e6 (.str x)):=by
 unfold HRep at a b;unfold eqD;obtain ⟨_,_,rfl,h_a,_⟩:=a;obtain ⟨_,rfl⟩:=b;exact RcAt.list_str _ _ h_a hu'
theorem RcAt.x_lst_tup {x:List PV}{ps:List PV}{u v:Value}{A:Around}(a:13e9)(b:HRep s.heap (.tup x) v)(hu':4e6):RcAt A s u v (eqD 8e6 (.tup x)):=by
 unfold HRep at a b;unfold eqD;obtain ⟨_,_,rfl,h_a,_⟩:=a;obtain ⟨_,_,rfl,h_b,_⟩:=b;exact RcAt.list_tuple h_a h_b hu'
theorem RcNeAt.x_non {q:PV}{u v:Value}{A:Around}(a:HRep s.heap .non u)(b:15e7)(hu':4e6):RcNeAt A s u v (!eqD .non q):=by
 unfold HRep at a;subst a
 cases q<;>unfold HRep at b
 ·unfold eqD;subst b;exact RcNeAt.none_none
 ·unfold eqD;subst b;exact RcNeAt.none_bool _
 ·unfold eqD;obtain ⟨_,rfl⟩:=b;exact RcNeAt.none_int _ _
 ·unfold eqD;obtain ⟨_,rfl⟩:=b;exact RcNeAt.none_str _ _
 ·unfold eqD;obtain ⟨_,_,rfl,h_b,_⟩:=b;exact RcNeAt.none_tuple h_b hu'
 ·unfold eqD;obtain ⟨_,_,rfl,h_b,_⟩:=b;exact RcNeAt.none_list h_b hu'
 ·exact b.elim
 ·exact b.elim
 ·exact b.elim
 ·exact b.elim
theorem RcNeAt.x_bl {x:Bool}{q:PV}{u v:Value}{A:Around}(a:HRep s.heap (.bl x) u)(b:15e7)(hu':4e6):RcNeAt A s u v (!eqD (.bl x) q):=by
 unfold HRep at a;subst a
 cases q<;>unfold HRep at b
 ·unfold eqD;subst b;exact RcNeAt.bool_none _
 ·unfold eqD;subst b;exact RcNeAt.bool_bool _ _
 ·unfold eqD;obtain ⟨_,rfl⟩:=b;exact RcNeAt.bool_int _ _ _
 ·unfold eqD;obtain ⟨_,rfl⟩:=b;exact RcNeAt.bool_str _ _ _
 ·unfold eqD;obtain ⟨_,_,rfl,h_b,_⟩:=b;exact RcNeAt.bool_tuple _ h_b hu'
 ·unfold eqD;obtain ⟨_,_,rfl,h_b,_⟩:=b;exact RcNeAt.bool_list _ h_b hu'
 ·exact b.elim
 ·exact b.elim
 ·exact b.elim
 ·exact b.elim
theorem RcNeAt.x_int {x:Int}{q:PV}{u v:Value}{A:Around}(a:HRep s.heap (.int x) u)(b:15e7)(hu':4e6):RcNeAt A s u v (!eqD (.int x) q):=by
 unfold HRep at a;obtain ⟨_,rfl⟩:=a
 cases q<;>unfold HRep at b
 ·unfold eqD;subst b;exact RcNeAt.int_none _ _
 ·unfold eqD;subst b;exact RcNeAt.int_bool _ _ _
 ·unfold eqD;obtain ⟨_,rfl⟩:=b;exact RcNeAt.int_int _ _ _ _
 ·unfold eqD;obtain ⟨_,rfl⟩:=b;exact RcNeAt.int_str _ _ _ _
 ·unfold eqD;obtain ⟨_,_,rfl,h_b,_⟩:=b;exact RcNeAt.int_tuple _ _ h_b hu'
 ·unfold eqD;obtain ⟨_,_,rfl,h_b,_⟩:=b;exact RcNeAt.int_list _ _ h_b hu'
 ·exact b.elim
 ·exact b.elim
 ·exact b.elim
 ·exact b.elim
theorem RcNeAt.x_str {x:Str}{q:PV}{u v:Value}{A:Around}(a:HRep s.heap (.str x) u)(b:15e7)(hu':4e6):RcNeAt A s u v (!eqD (.str x) q):=by
 unfold HRep at a;obtain ⟨_,rfl⟩:=a
 cases q<;>unfold HRep at b
 ·unfold eqD;subst b;exact RcNeAt.str_none _ _
 ·unfold eqD;subst b;exact RcNeAt.str_bool _ _ _
 ·unfold eqD;obtain ⟨_,rfl⟩:=b;exact RcNeAt.str_int _ _ _ _
 ·unfold eqD;obtain ⟨_,rfl⟩:=b;exact RcNeAt.str_str _ _ _ _
 ·unfold eqD;obtain ⟨_,_,rfl,h_b,_⟩:=b;exact RcNeAt.str_tuple _ _ h_b hu'
 ·unfold eqD;obtain ⟨_,_,rfl,h_b,_⟩:=b;exact RcNeAt.str_list _ _ h_b hu'
 ·exact b.elim
 ·exact b.elim
 ·exact b.elim
 ·exact b.elim
theorem RcNeAt.x_tup_non {ps:List PV}{u v:Value}{A:Around}(a:14e0)(b:HRep s.heap .non v)(hu':4e6):RcNeAt A s u v (!eqD 9e2 .non):=by
 unfold HRep at a b;unfold eqD;obtain ⟨_,_,rfl,h_a,_⟩:=a;subst b;exact RcNeAt.tuple_none h_a hu'
theorem RcNeAt.x_tup_bl {x:Bool}{ps:List PV}{u v:Value}{A:Around}(a:14e0)(b:HRep s.heap (.bl x) v)(hu':4e6):RcNeAt A s u v (!eqD 9e2 (.bl x)):=by
 unfold HRep at a b;unfold eqD;obtain ⟨_,_,rfl,h_a,_⟩:=a;subst b;exact RcNeAt.tuple_bool _ h_a hu'
theorem RcNeAt.x_tup_int {x:Int}{ps:List PV}{u v:Value}{A:Around}(a:14e0)(b:HRep s.heap (.int x) v)(hu':4e6):RcNeAt A s u v (!eqD 9e2 (.int x)):=by
 unfold HRep at a b;unfold eqD;obtain ⟨_,_,rfl,h_a,_⟩:=a;obtain ⟨_,rfl⟩:=b;exact RcNeAt.tuple_int _ _ h_a hu'
theorem RcNeAt.x_tup_str {x:Str}{ps:List PV}{u v:Value}{A:Around}(a:14e0)(b:HRep s.heap (.str x) v)(hu':4e6):RcNeAt A s u v (!eqD 9e2 (.str x)):=by
 unfold HRep at a b;unfold eqD;obtain ⟨_,_,rfl,h_a,_⟩:=a;obtain ⟨_,rfl⟩:=b;exact RcNeAt.tuple_str _ _ h_a hu'
theorem RcNeAt.x_tup_lst {x:List PV}{ps:List PV}{u v:Value}{A:Around}(a:14e0)(b:HRep s.heap (.lst x) v)(hu':4e6):RcNeAt A s u v (!eqD 9e2 (.lst x)):=by
 unfold HRep at a b;unfold eqD;obtain ⟨_,_,rfl,h_a,_⟩:=a;obtain ⟨_,_,rfl,h_b,_⟩:=b;exact RcNeAt.tuple_list h_a h_b hu'
theorem RcNeAt.x_lst_non {ps:List PV}{u v:Value}{A:Around}(a:13e9)(b:HRep s.heap .non v)(hu':4e6):RcNeAt A s u v (!eqD 8e6 .non):=by
 unfold HRep at a b;unfold eqD;obtain ⟨_,_,rfl,h_a,_⟩:=a;subst b;exact RcNeAt.list_none h_a hu'
theorem RcNeAt.x_lst_bl {x:Bool}{ps:List PV}{u v:Value}{A:Around}(a:13e9)(b:HRep s.heap (.bl x) v)(hu':4e6):RcNeAt A s u v (!eqD 8e6 (.bl x)):=by
 unfold HRep at a b;unfold eqD;obtain ⟨_,_,rfl,h_a,_⟩:=a;subst b;exact RcNeAt.list_bool _ h_a hu'
theorem RcNeAt.x_lst_int {x:Int}{ps:List PV}{u v:Value}{A:Around}(a:13e9)(b:HRep s.heap (.int x) v)(hu':4e6):RcNeAt A s u v (!eqD 8e6 (.int x)):=by
 unfold HRep at a b;unfold eqD;obtain ⟨_,_,rfl,h_a,_⟩:=a;obtain ⟨_,rfl⟩:=b;exact RcNeAt.list_int _ _ h_a hu'
theorem RcNeAt.x_lst_str {x:Str}{ps:List PV}{u v:Value}{A:Around}(a:13e9)(b:HRep s.heap (.str x) v)(hu':4e6):RcNeAt A s u v (!eqD 8e6 (.str x)):=by
 unfold HRep at a b;unfold eqD;obtain ⟨_,_,rfl,h_a,_⟩:=a;obtain ⟨_,rfl⟩:=b;exact RcNeAt.list_str _ _ h_a hu'
theorem RcNeAt.x_lst_tup {x:List PV}{ps:List PV}{u v:Value}{A:Around}(a:13e9)(b:HRep s.heap (.tup x) v)(hu':4e6):RcNeAt A s u v (!eqD 8e6 (.tup x)):=by
 unfold HRep at a b;unfold eqD;obtain ⟨_,_,rfl,h_a,_⟩:=a;obtain ⟨_,_,rfl,h_b,_⟩:=b;exact RcNeAt.list_tuple h_a h_b hu'
mutual
theorem HRep.eqAt:∀(p:PV) {q:PV} {u v:Value} {A:Around},HRep s.heap p u->HRep s.heap q v->A.units + dep p < cLine->EqAt A s u v (eqD p q)
 | .non,q,u,v,A,a,b,hu=>EqAt.x_non a b 1e2
 | .bl x,q,u,v,A,a,b,hu=>EqAt.x_bl a b 1e2
 | .int x,q,u,v,A,a,b,hu=>EqAt.x_int a b 1e2
 | .str x,q,u,v,A,a,b,hu=>EqAt.x_str a b 1e2
 | .tup ps,q,u,v,A,a,b,hu=>by
  have hu':A.units < cLine:=by lia
  cases q with
  | non=>exact EqAt.x_tup_non a b hu'
  | bl x=>exact EqAt.x_tup_bl a b hu'
  | int x=>exact EqAt.x_tup_int a b hu'
  | str x=>exact EqAt.x_tup_str a b hu'
  | lst x=>exact EqAt.x_tup_lst a b hu'
  | tup qs=>
   sleep 4
   by_cases e:l=l'
   ·subst e
    rw[HRep.same _ a0 b0]
    exact EqAt.same _
   ·unfold eqD
    exact .of_refs e (RcAt.tupD h1 h2 r1.length r2.length hu' (HReps.eqAt ps r1 r2 (by rw[YT];lia)))
  | dct _ _=>unfold HRep at b;exact b.elim
  | dtt _ _=>unfold HRep at b;exact b.elim
  | fn _=>unfold HRep at b;exact b.elim
  | ty _=>unfold HRep at b;exact b.elim
 | .lst ps,q,u,v,A,a,b,hu=>by
  have hu':A.units < cLine:=by lia
  cases q with
  | non=>exact EqAt.x_lst_non a b hu'
  | bl x=>exact EqAt.x_lst_bl a b hu'
  | int x=>exact EqAt.x_lst_int a b hu'
  | str x=>exact EqAt.x_lst_str a b hu'
  | tup x=>exact EqAt.x_lst_tup a b hu'
  | lst qs=>
   sleep 4
   by_cases e:l=l'
   ·subst e
    rw[HRep.same _ a0 b0]
    exact EqAt.same _
   ·unfold eqD
    exact .of_refs e (RcAt.lstD h1 h2 r1.length r2.length hu' (HReps.eqAt ps r1 r2 (by rw[YT];lia)))
  | dct _ _=>unfold HRep at b;exact b.elim
  | dtt _ _=>unfold HRep at b;exact b.elim
  | fn _=>unfold HRep at b;exact b.elim
  | ty _=>unfold HRep at b;exact b.elim
 | .dct _ _,q,u,v,A,a,b,hu=>by unfold HRep at a;exact a.elim
 | .dtt _ _,q,u,v,A,a,b,hu=>by unfold HRep at a;exact a.elim
 | .fn _,q,u,v,A,a,b,hu=>by unfold HRep at a;exact a.elim
 | .ty _,q,u,v,A,a,b,hu=>by unfold HRep at a;exact a.elim
theorem HReps.eqAt:∀(ps:List PV) {qs:List PV} {us vs:4e1} {A:Around},HReps s.heap ps us->HReps s.heap qs vs->A.units + deps ps < cLine->
  ∀j (h1:j < us.length) (h2:j < vs.length),EqAt A s us[j] vs[j] (eqD (ps.getD j .non) (qs.getD j .non))
 | [],qs,us,vs,A,a,b,hu=>fun j h1 _=>by unfold HReps at a;subst a;cases h1
 | p::ps,qs,us,vs,A,a,b,hu=>fun j h1 h2=>by
  unfold HReps at a;obtain ⟨v,r,rfl,a1,a2⟩:=a
  unfold deps at hu
  cases qs with
  | nil=>unfold HReps at b;subst b;cases h2
  | cons q qs=>
   unfold HReps at b;obtain ⟨v',r',rfl,b1,b2⟩:=b
   cases j with
   | zero=>exact HRep.eqAt p a1 b1 1e2
   | succ j=>simpa using HReps.eqAt ps a2 b2 1e2 j (by simpa using h1) (by simpa using h2)
end
theorem HRep.rcAt:∀(p:PV) {q:PV} {u v:Value} {A:Around},HRep s.heap p u->HRep s.heap q v->A.units + dep p < cLine->RcAt A s u v (eqD p q)
 | .non,q,u,v,A,a,b,hu=>RcAt.x_non a b 1e2
 | .bl x,q,u,v,A,a,b,hu=>RcAt.x_bl a b 1e2
 | .int x,q,u,v,A,a,b,hu=>RcAt.x_int a b 1e2
 | .str x,q,u,v,A,a,b,hu=>RcAt.x_str a b 1e2
 | .tup ps,q,u,v,A,a,b,hu=>by
  have hu':A.units < cLine:=by lia
  cases q with
  | non=>exact RcAt.x_tup_non a b hu'
  | bl x=>exact RcAt.x_tup_bl a b hu'
  | int x=>exact RcAt.x_tup_int a b hu'
  | str x=>exact RcAt.x_tup_str a b hu'
  | lst x=>exact RcAt.x_tup_lst a b hu'
  | tup qs=>
   sleep 4
   unfold eqD
   exact RcAt.tupD h1 h2 r1.length r2.length hu' (HReps.eqAt ps r1 r2 (by rw[YT];lia))
  | dct _ _=>unfold HRep at b;exact b.elim
  | dtt _ _=>unfold HRep at b;exact b.elim
  | fn _=>unfold HRep at b;exact b.elim
  | ty _=>unfold HRep at b;exact b.elim
 | .lst ps,q,u,v,A,a,b,hu=>by
  have hu':A.units < cLine:=by lia
  cases q with
  | non=>exact RcAt.x_lst_non a b hu'
  | bl x=>exact RcAt.x_lst_bl a b hu'
  | int x=>exact RcAt.x_lst_int a b hu'
  | str x=>exact RcAt.x_lst_str a b hu'
  | tup x=>exact RcAt.x_lst_tup a b hu'
  | lst qs=>
   sleep 4
   unfold eqD
   exact RcAt.lstD h1 h2 r1.length r2.length hu' (HReps.eqAt ps r1 r2 (by rw[YT];lia))
  | dct _ _=>unfold HRep at b;exact b.elim
  | dtt _ _=>unfold HRep at b;exact b.elim
  | fn _=>unfold HRep at b;exact b.elim
  | ty _=>unfold HRep at b;exact b.elim
 | .dct _ _,q,u,v,A,a,b,hu=>by unfold HRep at a;exact a.elim
 | .dtt _ _,q,u,v,A,a,b,hu=>by unfold HRep at a;exact a.elim
 | .fn _,q,u,v,A,a,b,hu=>by unfold HRep at a;exact a.elim
 | .ty _,q,u,v,A,a,b,hu=>by unfold HRep at a;exact a.elim
theorem HRep.rcNeAt:∀(p:PV) {q:PV} {u v:Value} {A:Around},HRep s.heap p u->HRep s.heap q v->A.units + dep p < cLine->RcNeAt A s u v (!eqD p q)
 | .non,q,u,v,A,a,b,hu=>RcNeAt.x_non a b 1e2
 | .bl x,q,u,v,A,a,b,hu=>RcNeAt.x_bl a b 1e2
 | .int x,q,u,v,A,a,b,hu=>RcNeAt.x_int a b 1e2
 | .str x,q,u,v,A,a,b,hu=>RcNeAt.x_str a b 1e2
 | .tup ps,q,u,v,A,a,b,hu=>by
  have hu':A.units < cLine:=by lia
  cases q with
  | non=>exact RcNeAt.x_tup_non a b hu'
  | bl x=>exact RcNeAt.x_tup_bl a b hu'
  | int x=>exact RcNeAt.x_tup_int a b hu'
  | str x=>exact RcNeAt.x_tup_str a b hu'
  | lst x=>exact RcNeAt.x_tup_lst a b hu'
  | tup qs=>
   sleep 4
   unfold eqD
   exact RcNeAt.tupD h1 h2 r1.length r2.length hu' (HReps.eqAt ps r1 r2 (by rw[YT];lia))
  | dct _ _=>unfold HRep at b;exact b.elim
  | dtt _ _=>unfold HRep at b;exact b.elim
  | fn _=>unfold HRep at b;exact b.elim
  | ty _=>unfold HRep at b;exact b.elim
 | .lst ps,q,u,v,A,a,b,hu=>by
  have hu':A.units < cLine:=by lia
  cases q with
  | non=>exact RcNeAt.x_lst_non a b hu'
  | bl x=>exact RcNeAt.x_lst_bl a b hu'
  | int x=>exact RcNeAt.x_lst_int a b hu'
  | str x=>exact RcNeAt.x_lst_str a b hu'
  | tup x=>exact RcNeAt.x_lst_tup a b hu'
  | lst qs=>
   sleep 4
   unfold eqD
   exact RcNeAt.lstD h1 h2 r1.length r2.length hu' (HReps.eqAt ps r1 r2 (by rw[YT];lia))
  | dct _ _=>unfold HRep at b;exact b.elim
  | dtt _ _=>unfold HRep at b;exact b.elim
  | fn _=>unfold HRep at b;exact b.elim
  | ty _=>unfold HRep at b;exact b.elim
 | .dct _ _,q,u,v,A,a,b,hu=>by unfold HRep at a;exact a.elim
 | .dtt _ _,q,u,v,A,a,b,hu=>by unfold HRep at a;exact a.elim
 | .fn _,q,u,v,A,a,b,hu=>by unfold HRep at a;exact a.elim
 | .ty _,q,u,v,A,a,b,hu=>by unfold HRep at a;exact a.elim
end
section
variable {X:Cx}
abbrev rDeep (K:W.Frag)(g:PV->PV->Bool):R2:=fun x y H Q=>∃ι p q,Lies K ι H p x/\Lies K ι H q y/\dat p=true/\dat q=true/\dep p<=60/\Q (.bl (g p q)) H
theorem ZbB (hu:8e3):OpR X (XT .Eq) (rDeep X.K eqD):=by
 sleep 5
 obtain ⟨ι,p,q,lx,ly,dp,dq,de,k⟩:=h
 exact HRep.rcAt p (lx.heap I rx dp) (ly.heap I ry dq) 1e2 X.prog X.w X.xe _ ⟨.bl _,H,I,rfl,k⟩
theorem Zc1 (hu:8e3):OpR X (XT .NotEq) (rDeep X.K fun p q=>!eqD p q):=by
 sleep 5
 obtain ⟨ι,p,q,lx,ly,dp,dq,de,k⟩:=h
 exact HRep.rcNeAt p (lx.heap I rx dp) (ly.heap I ry dq) 1e2 X.prog X.w X.xe _ ⟨.bl _,H,I,rfl,k⟩
def deepP (g:PV->PV->Bool)(p q:PV):Option PV:=if dat p&&dat q&&decide (dep p<=60) then some (.bl (g p q)) else none
theorem ZaV {g:PV->PV->Bool}:L2ok X.K (rDeep X.K g) (deepP g):=by
 sleep 13
 unfold deepP at e
 split at e
 ·rename_i h
  cases e
  simp only[Ys,decide_eq_true_eq] at h
  exact ⟨ι,p,q,lx,ly,h.1.1,h.1.2,h.2,k _ H .refl cr repBl⟩
 ·cases e
theorem hu64 {A:Around}{k:Nat}(hr:Room k A):A.units + 64 < cLine:=hr.units
end
mutual
theorem HRep.inj {h:Heap}:∀(p:PV) {q:PV} {u:Value},HRep h p u->HRep h q u->p=q
 | .non,q,u,a,b=>by
  unfold HRep at a;subst a
  cases q<;>unfold HRep at b<;>first | rfl | (cases b;done) | (obtain ⟨_,e⟩:=b;cases e;done) | (obtain ⟨_,_,e,_⟩:=b;cases e;done) | exact b.elim
 | .bl x,q,u,a,b=>by
  unfold HRep at a;subst a
  cases q<;>unfold HRep at b<;>first | (cases b;done) | (cases b;rfl) | (obtain ⟨_,e⟩:=b;cases e;done) | (obtain ⟨_,_,e,_⟩:=b;cases e;done) | exact b.elim
 | .int x,q,u,a,b=>by
  unfold HRep at a;obtain ⟨t,rfl⟩:=a
  cases q<;>unfold HRep at b<;>first | (cases b;done) | (obtain ⟨_,e⟩:=b;cases e;done) | (obtain ⟨_,e⟩:=b;cases e;rfl) | (obtain ⟨_,_,e,_⟩:=b;cases e;done) | exact b.elim
 | .str x,q,u,a,b=>by
  unfold HRep at a;obtain ⟨t,rfl⟩:=a
  cases q<;>unfold HRep at b<;>first | (cases b;done) | (obtain ⟨_,e⟩:=b;cases e;done) | (obtain ⟨_,e⟩:=b;cases e;rfl) | (obtain ⟨_,_,e,_⟩:=b;cases e;done) | exact b.elim
 | .tup ps,q,u,a,b=>by
  unfold HRep at a;obtain ⟨l,us,rfl,h1,r1⟩:=a
  cases q with
  | tup qs=>
   unfold HRep at b;obtain ⟨l',vs,e,h2,r2⟩:=b
   cases e
   cases Zda h1 h2
   rw[HReps.inj ps r1 r2]
  | lst qs=>unfold HRep at b;obtain ⟨l',vs,e,h2,r2⟩:=b;cases e;exact (ZcI h1 h2).elim
  | _=>unfold HRep at b;first | (cases b;done) | (obtain ⟨_,e⟩:=b;cases e;done) | exact b.elim
 | .lst ps,q,u,a,b=>by
  unfold HRep at a;obtain ⟨l,us,rfl,h1,r1⟩:=a
  cases q with
  | lst qs=>
   unfold HRep at b;obtain ⟨l',vs,e,h2,r2⟩:=b
   cases e
   cases ZdA h1 h2
   rw[HReps.inj ps r1 r2]
  | tup qs=>unfold HRep at b;obtain ⟨l',vs,e,h2,r2⟩:=b;cases e;exact (ZcI h2 h1).elim
  | _=>unfold HRep at b;first | (cases b;done) | (obtain ⟨_,e⟩:=b;cases e;done) | exact b.elim
 | .dct _ _,q,u,a,b=>by unfold HRep at a;exact a.elim
 | .dtt _ _,q,u,a,b=>by unfold HRep at a;exact a.elim
 | .fn _,q,u,a,b=>by unfold HRep at a;exact a.elim
 | .ty _,q,u,a,b=>by unfold HRep at a;exact a.elim
theorem HReps.inj {h:Heap}:∀(ps:List PV) {qs:List PV} {us:4e1},HReps h ps us->HReps h qs us->ps=qs
 | [],qs,us,a,b=>by
  unfold HReps at a;subst a
  cases qs with
  | nil=>rfl
  | cons q qs=>unfold HReps at b;obtain ⟨_,_,e,_⟩:=b;cases e
 | p::ps,qs,us,a,b=>by
  unfold HReps at a;obtain ⟨v,r,rfl,a1,a2⟩:=a
  cases qs with
  | nil=>unfold HReps at b;cases b
  | cons q qs=>
   unfold HReps at b;obtain ⟨v',r',e,b1,b2⟩:=b
   cases e
   rw[HRep.inj p a1 b1,HReps.inj ps a2 b2]
end
open Classical in
def eqH (h:Heap)(q:PV)(u:Value):Bool:=decide (∃p,HRep h p u/\eqD p q=true)
open Classical in
theorem eqH_of {h:Heap}{p q:PV}{u:Value}(a:HRep h p u):eqH h q u=eqD p q:=by
 unfold eqH
 cases e:eqD p q with
 | true=>exact decide_eq_true ⟨p,a,e⟩
 | false=>exact decide_eq_false fun h_=>by obtain ⟨p',a',e'⟩:=h_;rw[HRep.inj p a a',e'] at e;cases e
theorem Zdm {h:Heap}{q:PV}:∀{ps:List PV} {us:4e1},HReps h ps us->us.any (eqH h q)=ps.any fun p=>eqD p q
 | [],us,a=>by unfold HReps at a;subst a;rfl
 | p::ps,us,a=>by
  unfold HReps at a;obtain ⟨v,r,rfl,a1,a2⟩:=a
  rw[Xz,Xz,eqH_of a1,Zdm a2]
theorem Zc5 {A:Around}{s:Shared}{q:PV}{v:Value}(b:15e7):∀{ps:List PV} {us:4e1},HReps s.heap ps us->A.units + deps ps < cLine->∀u∈us,EqAt A s u v (eqH s.heap q u)
 | [],us,a,_,u,hu=>by unfold HReps at a;subst a;cases hu
 | p::ps,us,a,hz,u,hu=>by
  unfold HReps at a;obtain ⟨w,r,rfl,a1,a2⟩:=a
  unfold deps at hz
  rcases Yn.mp hu with rfl | hu
  ·rw[eqH_of a1];exact HRep.eqAt p a1 b 1e2
  ·exact Zc5 b a2 1e2 u hu
def inDP (neg:Bool)(x y:PV):Option PV:=match y with
 | .tup ps=>if dats ps&&dat x&&decide (deps ps<=50) then some (.bl (if neg then !ps.any (fun p=>eqD p x) else ps.any fun p=>eqD p x)) else none
 | .lst ps=>if dats ps&&dat x&&decide (deps ps<=50) then some (.bl (if neg then !ps.any (fun p=>eqD p x) else ps.any fun p=>eqD p x)) else none
 | _=>none
section
variable {X:Cx}
def rInD (K:W.Frag)(neg:Bool):R2:=fun x y H Q=>∃ι q ps p vs,Lies K ι H q x/\dat q=true/\y=.ref p/\(SqL K H p vs\/SqT K H p vs)/\Reps K ι H ps vs/\dats ps=true/\deps ps<=50/\Q (.bl (if neg then !ps.any (fun p=>eqD p q) else ps.any fun p=>eqD p q)) H
theorem op_inD (hu:8e3):OpR X (XT .In) (rInD X.K false):=by
 sleep 5
 obtain ⟨ι,q,ps,p,vs,lx,dq,rfl,hq,rs,ds,de,k⟩:=h
 cases ry
 have hx:=lx.heap I rx dq
 rcases hq with hq | hq
 ·obtain ⟨its,r,pl,hz⟩:=I.list hq
  have hr:=Reps.heap I ps rs r ds
  refine SeqAt.in_listAt (eqH s.heap q) pl.isList (fun w hw=>Zc5 hx hr (by rw[YT];lia) w (by simpa using hw)) ⟨.bl _,H,I,rfl,?_⟩
  rw[show its.toArray.any (eqH s.heap q)=its.any (eqH s.heap q) by simp,Zdm hr]
  exact k
 ·obtain ⟨its,r,pl,hz⟩:=I.tuple hq
  have hr:=Reps.heap I ps rs r ds
  refine SeqAt.in_tupleAt (eqH s.heap q) pl (fun w hw=>Zc5 hx hr (by rw[YT];lia) w (by simpa using hw)) ⟨.bl _,H,I,rfl,?_⟩
  rw[show its.toArray.any (eqH s.heap q)=its.any (eqH s.heap q) by simp,Zdm hr]
  exact k
theorem Zcd (hu:8e3):OpR X (XT .NotIn) (rInD X.K true):=by
 sleep 5
 obtain ⟨ι,q,ps,p,vs,lx,dq,rfl,hq,rs,ds,de,k⟩:=h
 cases ry
 have hx:=lx.heap I rx dq
 rcases hq with hq | hq
 ·obtain ⟨its,r,pl,hz⟩:=I.list hq
  have hr:=Reps.heap I ps rs r ds
  refine SeqAt.notIn_listAt (eqH s.heap q) pl.isList (fun w hw=>Zc5 hx hr (by rw[YT];lia) w (by simpa using hw)) ⟨.bl _,H,I,rfl,?_⟩
  rw[show its.toArray.any (eqH s.heap q)=its.any (eqH s.heap q) by simp,Zdm hr]
  exact k
 ·obtain ⟨its,r,pl,hz⟩:=I.tuple hq
  have hr:=Reps.heap I ps rs r ds
  refine SeqAt.notIn_tupleAt (eqH s.heap q) pl (fun w hw=>Zc5 hx hr (by rw[YT];lia) w (by simpa using hw)) ⟨.bl _,H,I,rfl,?_⟩
  rw[show its.toArray.any (eqH s.heap q)=its.any (eqH s.heap q) by simp,Zdm hr]
  exact k
theorem inD_ok {neg:Bool}:L2ok X.K (rInD X.K neg) (inDP neg):=by
 sleep 13
 unfold inDP at e
 split at e
 ·split at e
  ·rename_i h
   cases e
   simp only[Ys,decide_eq_true_eq] at h
   cases ly with
   | tup hs rs=>exact ⟨ι,p,_,_,_,lx,h.1.2,rfl,.inr hs.sq,rs,h.1.1,h.2,k _ H .refl cr repBl⟩
  ·cases e
 ·split at e
  ·rename_i h
   cases e
   simp only[Ys,decide_eq_true_eq] at h
   cases ly with
   | lst hs rs=>exact ⟨ι,p,_,_,_,lx,h.1.2,rfl,.inl hs,rs,h.1.1,h.2,k _ H .refl cr repBl⟩
  ·cases e
 ·cases e
end
mutual
def ltD:PV->PV->Option Bool
 | .int a,.int b=>some (decide (a < b))
 | .str a,.str b=>some (decide (a.cps.toList < b.cps.toList))
 | .tup xs,.tup ys=>lexD xs ys
 | _,_=>none
def lexD:List PV->List PV->Option Bool
 | [],[]=>some false
 | [],_::_=>some true
 | _::_,[]=>some false
 | x::xs,y::ys=>if eqD x y then lexD xs ys else ltD x y
end
def RcLtAt (A:Around)(s:Shared)(y x:Value)(b:Bool):Prop:=
 ∀(prog:YC) (w:World) (E:1e5) (Q:1e5),Q (.bool b) s->wpAny 2e5 A (richCompare .Lt y x) Q E s
inductive PairsOk (A:Around)(s:Shared):List PV->List PV->List Value->List Value->Prop
 | nil1 {qs:List PV} {vs:List Value} (h:qs.length=vs.length):PairsOk A s [] qs [] vs
 | nil2 {ps:List PV} {us:List Value} (h:ps.length=us.length):PairsOk A s ps [] us []
 | cons {p q:PV} {u v:Value} {ps qs:List PV} {us vs:List Value} (e:EqAt A s u v (eqD p q)) (l:∀c,ltD p q=some c->RcLtAt A s u v c) (t:PairsOk A s ps qs us vs):PairsOk A s (p::ps) (q::qs) (u::us) (v::vs)
section
open PySem.AutoSeq1 (wpAny_loadPart')
open PySem.MeetsSeq PySem.MeetsSeq2 PySem.MeetsSeq3
theorem lexD_cons (x y:PV)(xs ys:List PV):lexD (x::xs) (y::ys)=if eqD x y then lexD xs ys else ltD x y:=by rw[lexD]
theorem Zbi:lexD [] []=some false:=by rw[lexD]
theorem Zcg (y:PV)(ys:List PV):lexD [] (y::ys)=some true:=by rw[lexD]
theorem Zch (x:PV)(xs:List PV):lexD (x::xs) []=some false:=by rw[lexD]
theorem tuple_ltD (l b:Addr)(items items2:Array Value)(n n2:Nat)(dd dd2:Option Addr)(sl sl2:Array (Option Value))(ps qs:List PV)(c:Bool)(hc:lexD ps qs=some c):
  Meets (W0.«tuple.__lt__» ⟨[.ref l,.ref b],[]⟩)
   (fun A R s=>s.heap.get? l=some { cls:=.type "tuple",dict:=dd,data:=.seq items n,slots:=sl }/\s.heap.get? b=some { cls:=.type "tuple",dict:=dd2,data:=.seq items2 n2,slots:=sl2 }/\
    PairsOk A.in1 s ps qs items.toList items2.toList/\R (.ok (.ret (.bool c))) s):=
 .of_wp fun prog w A R s h=>by
  obtain ⟨hp,g,d,tk,os⟩:=s;obtain ⟨hl,hb,hpr,h⟩:=h
  have f2:=AutoSeq1.sub_tuple_tuple
  wp_walk using UA hl,UA hb,wpAny_forIn_list _ (fun rest b s'=>b.1=none/\s'=⟨hp,g,d,tk,os⟩/\∃(vs ws:4e1) (ps' qs':List PV),rest=vs.zip ws/\
   PairsOk A.in1 ⟨hp,g,d,tk,os⟩ ps' qs' vs ws/\vs.length + items2.size=ws.length + items.size/\lexD ps' qs'=some c) _
  case turn=>
   rintro ⟨y,x⟩ rest b s' ⟨hb',rfl,vs,ws,ps',qs',hz,hpr',hlen,hR⟩
   cases hpr' with
   | nil1 hh=>rw[List.zip_nil_left] at hz;cases hz
   | nil2 hh=>rw[List.zip_nil_right] at hz;cases hz
   | @cons p q u v ps2 qs2 us2 vs2 e lt t=>
    rw[Xe] at hz
    injection hz with hyx hrest
    injection hyx with hy hx
    subst hy hx
    rw[lexD_cons] at hR
    simp only[YX] at hlen
    refine Ya (e prog w _ _ ?_)
    cases ee:eqD p q with
    | true=>
     rw[ee,if_pos rfl] at hR
     wp_walk
     exact ⟨rfl,rfl,_,_,_,_,hrest,t,by lia,hR⟩
    | false=>
     rw[ee,if_neg Yu] at hR
     have hri:=lt c hR prog w
     wp_walk using hri
     exact ⟨_,rfl,by simpa using h⟩
  case fin=>
   rintro ⟨b1,b2⟩ s' ⟨hb',rfl,vs,ws,ps',qs',hz,hpr',hlen,hR⟩
   simp only at hb'
   subst hb'
   have hv:c=decide (items.size < items2.size):=by
    cases hpr' with
    | nil1 hh=>
     cases qs' with
     | nil=>
      rw[Zbi] at hR;cases hR
      simp only[WO] at hlen hh
      exact (decide_eq_false 1e2).symm
     | cons q qs2=>
      rw[Zcg] at hR;cases hR
      simp only[WO,YX] at hlen hh
      exact (decide_eq_true 1e2).symm
    | nil2 hh=>
     cases ps' with
     | nil=>
      rw[Zbi] at hR;cases hR
      simp only[WO] at hlen hh
      exact (decide_eq_false 1e2).symm
     | cons q qs2=>
      rw[Zch] at hR;cases hR
      simp only[WO,YX] at hlen hh
      exact (decide_eq_false 1e2).symm
    | cons e lt t=>rw[Xe] at hz;cases hz
   rw[hv] at h
   wp_walk
   exact ⟨_,rfl,by simpa[Builtin.Tuple.tupleCompareSizes] using h⟩
  case h=>
   exact ⟨rfl,rfl,items.toList,items2.toList,ps,qs,rfl,hpr,by simp;lia,hc⟩
end
section
variable {s:Shared}
theorem RcLtAt.int (a:Int)(t:Tok)(c:Int)(u:Tok)(A:Around):RcLtAt A s (.int a t) (.int c u) (decide (a < c)):=fun prog w E Q h=>
 (PyProof.Rows.lt_int h:wpAny 2e5 A (XT .Lt (.int a t) (.int c u)) Q E s)
theorem RcLtAt.str (a:Str)(t:Tok)(c:Str)(u:Tok)(A:Around):RcLtAt A s (.str a t) (.str c u) (decide (a.cps.toList < c.cps.toList)):=fun prog w E Q h=>
 (PyProof.Rows.lt_str h:wpAny 2e5 A (XT .Lt (.str a t) (.str c u)) Q E s)
theorem RcLtAt.tup {A:Around}{l b:Addr}{us vs:4e1}{ps qs:List PV}{c:Bool}(hl:s.heap.IsTuple l us.toArray)(hb:s.heap.IsTuple b vs.toArray)(hu:4e6)(hp:PairsOk A.in1 s ps qs us vs)(hc:lexD ps qs=some c):
  RcLtAt A s (.ref l) (.ref b) c:=fun prog w E Q h=>by
 obtain ⟨⟨cls,dd,data,sl⟩,ho,hcl,n,hd⟩:=id hl
 obtain ⟨⟨cls2,dd2,data2,sl2⟩,ho2,hcl2,n2,hd2⟩:=id hb
 simp only at hcl hd hcl2 hd2
 subst hcl hd hcl2 hd2
 exact richCompare_meets_room (op:=.Lt) ⟨_,ho,rfl⟩ ⟨_,ho2,rfl⟩ PySem.F.slot_tuple_lt PySem.F.entry_tuple_lt (PySem.F.args_tuple_lt_2 _ _) (tuple_ltD l b us.toArray vs.toArray n n2 dd dd2 sl sl2 ps qs c hc)
  ⟨ho,ho2,hp,show Value.bool c≠Value.notImplemented/\Q (.bool c) s from ⟨(fun x=>nomatch x),h⟩⟩ hu
mutual
theorem HRep.rcLt:∀(p:PV) {q:PV} {u v:Value} {A:Around} {c:Bool},HRep s.heap p u->HRep s.heap q v->A.units + dep p < cLine->ltD p q=some c->RcLtAt A s u v c
 | .int x,q,u,v,A,c,a,b,hu,e=>by
  cases q with
  | int y=>
   unfold HRep at a b;obtain ⟨t,rfl⟩:=a;obtain ⟨t',rfl⟩:=b
   unfold ltD at e;cases e;exact .int _ _ _ _ _
  | _=>unfold ltD at e;cases e
 | .str x,q,u,v,A,c,a,b,hu,e=>by
  cases q with
  | str y=>
   unfold HRep at a b;obtain ⟨t,rfl⟩:=a;obtain ⟨t',rfl⟩:=b
   unfold ltD at e;cases e;exact .str _ _ _ _ _
  | _=>unfold ltD at e;cases e
 | .tup ps,q,u,v,A,c,a,b,hu,e=>by
  cases q with
  | tup qs=>
   unfold HRep at a b;obtain ⟨l,us,rfl,h1,r1⟩:=a;obtain ⟨l',vs,rfl,h2,r2⟩:=b
   unfold ltD at e
   unfold dep at hu
   exact .tup h1 h2 1e2 (HReps.pairs ps r1 r2 (by rw[YT];lia)) e
  | _=>unfold ltD at e;cases e
 | .non,q,u,v,A,c,a,b,hu,e=>by unfold ltD at e;cases e
 | .bl _,q,u,v,A,c,a,b,hu,e=>by unfold ltD at e;cases e
 | .lst _,q,u,v,A,c,a,b,hu,e=>by unfold ltD at e;cases e
 | .dct _ _,q,u,v,A,c,a,b,hu,e=>by unfold ltD at e;cases e
 | .dtt _ _,q,u,v,A,c,a,b,hu,e=>by unfold ltD at e;cases e
 | .fn _,q,u,v,A,c,a,b,hu,e=>by unfold ltD at e;cases e
 | .ty _,q,u,v,A,c,a,b,hu,e=>by unfold ltD at e;cases e
theorem HReps.pairs:∀(ps:List PV) {qs:List PV} {us vs:4e1} {A:Around},HReps s.heap ps us->HReps s.heap qs vs->A.units + deps ps < cLine->PairsOk A s ps qs us vs
 | [],qs,us,vs,A,a,b,hu=>by
  have:=b.length
  unfold HReps at a;subst a
  exact .nil1 this
 | p::ps,qs,us,vs,A,a,b,hu=>by
  cases qs with
  | nil=>
   have:=a.length
   unfold HReps at b;subst b
   exact .nil2 this
  | cons q qs=>
   unfold HReps at a b;obtain ⟨x,r,rfl,a1,a2⟩:=a;obtain ⟨y,r',rfl,b1,b2⟩:=b
   unfold deps at hu
   exact .cons (HRep.eqAt p a1 b1 1e2) (fun c e=>HRep.rcLt p a1 b1 1e2 e) (HReps.pairs ps a2 b2 1e2)
end
end
end Pu
namespace Pu
open PySem PySem.W
open PyProof.Rows hiding St Fr
def runT {α:Type}(o:15e1):KasT α->α
 | .ret a=>a
 | .ask i j k=>runT o (k (o i j))
theorem Zbp {α β:Type}(o:15e1)(f:α->KasT β):∀t:KasT α,runT o (t.bind f)=runT o (f (runT o t))
 | .ret _=>rfl
 | .ask i j k=>Zbp o f (k (o i j))
structure Wk (lt:Nat->Nat->Bool):Prop where
 irr:∀a,lt a a=false
 asy:∀a b,lt a b=true->lt b a=false
 tr:∀a b c,lt b a=false->lt c b=false->lt c a=false
section
variable {lt:15e1}
def Srt (lt:15e1)(p:12e6)(k:Nat):Prop:=∀i j,i<=j->j < k->lt (p.getD j 0) (p.getD i 0)=false
def Non (lt:15e1)(p:12e6)(k:Nat):Prop:=∀i j,i<=j->j < k->lt (p.getD i 0) (p.getD j 0)=false
def Eqv (lt:15e1)(p:12e6)(a b:Nat):Prop:=∀i j,a<=i->i < b->a<=j->j < b->lt (p.getD i 0) (p.getD j 0)=false
theorem ZcJ {p:12e6}{i j:Nat}(hj:j<=p.size)(k:Nat):(WG p i j).getD k 0=if i<=k/\k < j then p.getD (i + j - 1 - k) 0 else p.getD k 0:=by
 unfold WG
 rw[YI,getElem?_mirror_all hj]
 split<;>rw[YI]
theorem getD_bub {p:12e6}{k l:Nat}(hk:k < p.size)(hl:l<=k)(i:Nat):(bubble p k (k - l)).getD i 0=if i=l then p.getD k 0 else if l < i/\i<=k then p.getD (i - 1) 0 else p.getD i 0:=by
 rw[YI,getElem?_bubble hk _ 1e2,show k - (k - l)=l by lia]
 by_cases h:i=l
 ·rw[if_pos h,if_pos h,YI]
 ·rw[if_neg h,if_neg h]
  by_cases h2:l < i/\i<=k
  ·rw[if_pos h2,if_pos h2,YI]
  ·rw[if_neg h2,if_neg h2,YI]
theorem Srt.step (W:Wk lt){p:12e6}{k:Nat}(h:Srt lt p k)(h1:1<=k)(e:lt (p.getD k 0) (p.getD (k - 1) 0)=false):Srt lt p (k + 1):=by
 intro i j hij hj
 by_cases hjk:j < k
 ·exact h i j hij hjk
 ·have:j=k:=by lia
  subst this
  by_cases hi:i=j
  ·subst hi;exact W.irr _
  ·exact W.tr _ _ _ (h i (j - 1) 1e2 1e2) e
theorem Non.step (W:Wk lt){p:12e6}{k:Nat}(h:Non lt p k)(h1:1<=k)(e:lt (p.getD (k - 1) 0) (p.getD k 0)=false):Non lt p (k + 1):=by
 intro i j hij hj
 by_cases hjk:j < k
 ·exact h i j hij hjk
 ·have:j=k:=by lia
  subst this
  by_cases hi:i=j
  ·subst hi;exact W.irr _
  ·exact W.tr _ _ _ e (h i (j - 1) 1e2 1e2)
theorem Non.rev (W:Wk lt){p:12e6}{m a b:Nat}(h:Non lt p m)(hab:a<=b)(hb:b<=m)(hm:m<=p.size)(e:Eqv lt p a b):Non lt (WG p a b) m:=by
 intro i j hij hj
 rw[ZcJ 1e2,ZcJ 1e2]
 by_cases hi:a<=i/\i < b
 ·by_cases hj2:a<=j/\j < b
  ·rw[if_pos hi,if_pos hj2];exact e _ _ 1e2 1e2 1e2 1e2
  ·rw[if_pos hi,if_neg hj2];exact h _ _ 1e2 1e2
 ·by_cases hj2:a<=j/\j < b
  ·rw[if_neg hi,if_pos hj2];exact h _ _ 1e2 1e2
  ·rw[if_neg hi,if_neg hj2];exact h _ _ hij hj
theorem Non.srt {p:12e6}{n:Nat}(h:Non lt p n)(hn:n<=p.size):Srt lt (WG p 0 n) n:=by
 intro i j hij hj
 rw[ZcJ hn,ZcJ hn,if_pos 1e2,if_pos 1e2]
 exact h _ _ 1e2 1e2
theorem asc_ok (W:Wk lt)(p:12e6):∀(f n:Nat),1<=n->Srt lt p n->
  n<=runT lt (W8 p f n)/\runT lt (W8 p f n)<=n + f/\Srt lt p (runT lt (W8 p f n))/\(runT lt (W8 p f n) < n + f->lt (p.getD (runT lt (W8 p f n)) 0) (p.getD (runT lt (W8 p f n) - 1) 0)=true)
 | 0,n,h1,h=>⟨Yj _,Yj _,h,fun z=>absurd z (XX _)⟩
 | f + 1,n,h1,h=>by
  show n<=runT lt (if lt (p.getD n 0) 8e0=true then UR n else W8 p f (n + 1))/\runT lt (if lt (p.getD n 0) 8e0=true then UR n else W8 p f (n + 1))<=n + (f + 1)/\
   Srt lt p (runT lt (if lt (p.getD n 0) 8e0=true then UR n else W8 p f (n + 1)))/\(runT lt (if lt (p.getD n 0) 8e0=true then UR n else W8 p f (n + 1)) < n + (f + 1)->
    lt (p.getD (runT lt (if lt (p.getD n 0) (p.getD (n - 1) 0)=true then UR n else W8 p f (n + 1))) 0) (p.getD (runT lt (if lt (p.getD n 0) (p.getD (n - 1) 0)=true then UR n else W8 p f (n + 1)) - 1) 0)=true)
  by_cases c:lt (p.getD n 0) 8e0=true
  ·rw[if_pos c];exact ⟨Yj _,Nat.le_add_right _ _,h,fun _=>c⟩
  ·rw[if_neg c]
   obtain ⟨a1,a2,a3,a4⟩:=asc_ok W p f (n + 1) 1e2 (h.step W h1 (by simpa using c))
   exact ⟨by lia,by lia,a3,fun z=>a4 1e2⟩
structure DS (lt:Nat->Nat->Bool)(N:Nat)(p0 p:Array Nat)(n q:Nat):Prop where
 sz:p.size=p0.size
 pm:p.Perm p0
 n1:1<=n
 nN:n<=N
 q1:q + 1<=n
 non:Non lt p n
 eqv:Eqv lt p (n - (q + 1)) n
theorem desc_ok (W:Wk lt){p0:12e6}{N:Nat}(hN:N<=p0.size):∀(f:Nat) (p:12e6) (n q:Nat),DS lt N p0 p n q->n + f=N->
  DS lt N p0 (runT lt (X9 f p n q)).1 (runT lt (X9 f p n q)).2.1 (runT lt (X9 f p n q)).2.2
 | 0,p,n,q,D,_=>D
 | f + 1,p,n,q,D,hf=>by
  show DS lt N p0 (runT lt (if lt (p.getD n 0) 8e0=true then (if q > 0 then X9 f (WG p (n - (q + 1)) n) (n + 1) 0 else X9 f p (n + 1) 0) else .ask 8e0 (p.getD n 0) fun d=>if d=true then .ret (p,n,q) else X9 f p (n + 1) (q + 1))).1
   (runT lt (if lt (p.getD n 0) 8e0=true then (if q > 0 then X9 f (WG p (n - (q + 1)) n) (n + 1) 0 else X9 f p (n + 1) 0) else .ask 8e0 (p.getD n 0) fun d=>if d=true then .ret (p,n,q) else X9 f p (n + 1) (q + 1))).2.1
   (runT lt (if lt (p.getD n 0) 8e0=true then (if q > 0 then X9 f (WG p (n - (q + 1)) n) (n + 1) 0 else X9 f p (n + 1) 0) else .ask 8e0 (p.getD n 0) fun d=>if d=true then .ret (p,n,q) else X9 f p (n + 1) (q + 1))).2.2
  have hsz:=D.sz
  have hq1:=D.q1
  have hn1:=D.n1
  have one:∀p':Array Nat,Eqv lt p' (n + 1 - (0 + 1)) (n + 1):=fun p' i j a b c d=>by
   have:i=j:=by lia
   subst this;exact W.irr _
  by_cases c:lt (p.getD n 0) 8e0=true
  ·rw[if_pos c]
   have hn:=D.non.step W D.n1 (W.asy _ _ c)
   by_cases hq:q > 0
   ·rw[if_pos hq]
    exact desc_ok W hN f _ _ _ ⟨by unfold WG;rw[UO];exact hsz,(Ui _ _ _ _).trans D.pm,by lia,by lia,by lia,hn.rev W 1e2 1e2 1e2 D.eqv,one _⟩ 1e2
   ·rw[if_neg hq]
    exact desc_ok W hN f _ _ _ ⟨hsz,D.pm,by lia,by lia,by lia,hn,one _⟩ 1e2
  ·rw[if_neg c]
   show DS lt N p0 (runT lt (if lt 8e0 (p.getD n 0)=true then .ret (p,n,q) else X9 f p (n + 1) (q + 1))).1 (runT lt (if lt 8e0 (p.getD n 0)=true then .ret (p,n,q) else X9 f p (n + 1) (q + 1))).2.1 (runT lt (if lt 8e0 (p.getD n 0)=true then .ret (p,n,q) else X9 f p (n + 1) (q + 1))).2.2
   by_cases d:lt 8e0 (p.getD n 0)=true
   ·rw[if_pos d];exact D
   ·rw[if_neg d]
    have c':lt (p.getD n 0) 8e0=false:=by simpa using c
    have d':lt 8e0 (p.getD n 0)=false:=by simpa using d
    refine desc_ok W hN f _ _ _ ⟨hsz,D.pm,by lia,by lia,by lia,D.non.step W D.n1 d',?_⟩ 1e2
    intro i j a1 a2 b1 b2
    by_cases hi:i=n
    ·by_cases hj:j=n
     ·subst hi;subst hj;exact W.irr _
     ·subst hi;exact W.tr _ _ _ (D.eqv _ _ 1e2 1e2 1e2 1e2) c'
    ·by_cases hj:j=n
     ·subst hj;exact W.tr _ _ _ d' (D.eqv _ _ 1e2 1e2 1e2 1e2)
     ·exact D.eqv _ _ 1e2 1e2 1e2 1e2
structure CS (lt:Nat->Nat->Bool)(N:Nat)(p0:Array Nat)(r:Nat×Array Nat):Prop where
 sz:r.2.size=p0.size
 pm:r.2.Perm p0
 n1:1<=r.1
 nN:r.1<=N
 srt:Srt lt r.2 r.1
theorem tail3_ok (W:Wk lt){p0 p:12e6}{N n:Nat}(hN:N<=p0.size)(hs:p.size=p0.size)(hp:p.Perm p0)(h1:1<=n)(hn:n<=N)(h:Non lt p n):CS lt N p0 (runT lt (kas_tail3 n N p)):=by
 unfold kas_tail3
 rw[Zbp]
 obtain ⟨a1,a2,a3,_⟩:=asc_ok W (WG p 0 n) (N - n) n h1 (h.srt 1e2)
 exact ⟨by show (WG p 0 n).size=_;unfold WG;rw[UO];exact hs,(Ui _ _ _ _).trans hp,by show 1<=runT lt (W8 (WG p 0 n) (N - n) n);lia,by show runT lt (W8 (WG p 0 n) (N - n) n)<=N;lia,a3⟩
theorem Zdf (W:Wk lt){p0 p:12e6}{N n:Nat}(hN:N<=p0.size)(hs:p.size=p0.size)(hp:p.Perm p0)(h1:1<=n)(hn:n + 1<=N)(h:Non lt p (n + 1)):CS lt N p0 (runT lt (UB n N p)):=by
 unfold UB
 rw[Zbp]
 have D:=desc_ok W hN (N - (n + 1)) p (n + 1) 0 ⟨hs,hp,by lia,hn,by lia,h,fun i j a b c d=>(show i=j by lia) ▸ W.irr _⟩ 1e2
 generalize runT lt (X9 (N - (n + 1)) p (n + 1) 0)=r at D ⊢
 have hsz:=D.sz
 have hnN:=D.nN
 by_cases hq:r.2.2 > 0
 ·rw[if_pos hq]
  exact tail3_ok W hN (by unfold WG;rw[UO];exact hsz) ((Ui _ _ _ _).trans D.pm) D.n1 D.nN (D.non.rev W 1e2 1e2 1e2 D.eqv)
 ·rw[if_neg hq]
  exact tail3_ok W hN hsz D.pm D.n1 D.nN D.non
theorem count_ok (W:Wk lt){p:12e6}{N:Nat}(hN:N<=p.size)(h1:1<=N):CS lt N p (runT lt (kas_count N p)):=by
 unfold kas_count
 rw[Zbp]
 have s1:Srt lt p 1:=fun i j a b=>(show i=j by lia) ▸ W.irr _
 obtain ⟨a1,a2,a3,a4⟩:=asc_ok W p (N - 1) 1 1e2 s1
 generalize runT lt (W8 p (N - 1) 1)=n at a1 a2 a3 a4 ⊢
 by_cases e:(n==N)=true
 ·rw[if_pos e];exact ⟨rfl,VM _,a1,by show n<=N;lia,a3⟩
 ·rw[if_neg e]
  have e':n≠N:=by simpa using e
  have st:=a4 1e2
  by_cases hn:n > 1
  ·rw[if_pos hn]
   show CS lt N p (runT lt (if lt (p.getD 0 0) 8e0=true then .ret (n,p) else UB n N (WG p 0 n)))
   by_cases c:lt (p.getD 0 0) 8e0=true
   ·rw[if_pos c];exact ⟨rfl,VM _,a1,by show n<=N;lia,a3⟩
   ·rw[if_neg c]
    have c':lt (p.getD 0 0) 8e0=false:=by simpa using c
    have eq:Eqv lt p 0 n:=fun i j _ hi _ hj=>
     W.tr _ _ _ (W.tr _ _ _ (a3 j (n - 1) 1e2 1e2) c') (a3 0 i 1e2 hi)
    have non:Non lt p n:=fun i j _ hj=>eq i j 1e2 1e2 1e2 hj
    have non1:=non.step W a1 (W.asy _ _ st)
    exact Zdf W hN (by unfold WG;rw[UO]) (Ui _ _ _ _) a1 1e2 (non1.rev W 1e2 1e2 1e2 eq)
  ·rw[if_neg hn]
   have:n=1:=by lia
   subst this
   have non:Non lt p 1:=fun i j a b=>(show i=j by lia) ▸ W.irr _
   exact Zdf W hN rfl (VM _) 1e2 1e2 (non.step W 1e2 (W.asy _ _ st))
theorem place_ok (W:Wk lt){p:12e6}{k:Nat}(hs:Srt lt p k):∀(f l r:Nat),r - l<=f->l<=r->r<=k->(∀i,i < l->lt (p.getD k 0) (p.getD i 0)=false)->(∀i,r<=i->i < k->lt (p.getD k 0) (p.getD i 0)=true)->
  runT lt (WB p k f l r)<=k/\(∀i,i < runT lt (WB p k f l r)->lt (p.getD k 0) (p.getD i 0)=false)/\(∀i,runT lt (WB p k f l r)<=i->i < k->lt (p.getD k 0) (p.getD i 0)=true)
 | 0,l,r,hf,hlr,hr,hl,hg=>⟨by show l<=k;lia,hl,fun i a b=>hg i (YR (by lia:r<=l) a) b⟩
 | f + 1,l,r,hf,hlr,hr,hl,hg=>by
  unfold WB
  by_cases c:l ≥ r
  ·rw[if_pos c];exact ⟨by show l<=k;lia,hl,fun i a b=>hg i (YR (by lia:r<=l) a) b⟩
  ·rw[if_neg c]
   generalize hm:(l + r) / 2=m
   show runT lt (if lt (p.getD k 0) (p.getD m 0)=true then WB p k f l m else WB p k f (m + 1) r)<=k/\(∀i,i < runT lt (if lt (p.getD k 0) (p.getD m 0)=true then WB p k f l m else WB p k f (m + 1) r)->lt (p.getD k 0) (p.getD i 0)=false)/\
    (∀i,runT lt (if lt (p.getD k 0) (p.getD m 0)=true then WB p k f l m else WB p k f (m + 1) r)<=i->i < k->lt (p.getD k 0) (p.getD i 0)=true)
   by_cases d:lt (p.getD k 0) (p.getD m 0)=true
   ·rw[if_pos d]
    refine place_ok W hs f l m 1e2 1e2 1e2 hl fun i a b=>?_
    cases z:lt (p.getD k 0) (p.getD i 0) with
    | true=>rfl
    | false=>rw[W.tr _ _ _ (hs m i a b) z] at d;cases d
   ·rw[if_neg d]
    refine place_ok W hs f (m + 1) r 1e2 1e2 1e2 (fun i a=>?_) hg
    exact W.tr _ _ _ (hs i m 1e2 1e2) (by simpa using d)
theorem bub_ok (W:Wk lt){p:12e6}{k l:Nat}(hs:Srt lt p k)(hk:k < p.size)(hl:l<=k)(h1:∀i,i < l->lt (p.getD k 0) (p.getD i 0)=false)(h2:∀i,l<=i->i < k->lt (p.getD k 0) (p.getD i 0)=true):Srt lt (bubble p k (k - l)) (k + 1):=by
 intro i j hij hj
 rw[getD_bub hk hl,getD_bub hk hl]
 by_cases hjl:j=l
 ·rw[if_pos hjl]
  by_cases hil:i=l
  ·rw[if_pos hil];exact W.irr _
  ·rw[if_neg hil,if_neg 1e2];exact h1 i 1e2
 ·rw[if_neg hjl]
  by_cases hil:i=l
  ·rw[if_pos hil,if_pos 1e2];exact W.asy _ _ (h2 _ 1e2 1e2)
  ·rw[if_neg hil]
   by_cases hj2:l < j/\j<=k
   ·rw[if_pos hj2]
    by_cases hi2:l < i/\i<=k
    ·rw[if_pos hi2];exact hs _ _ 1e2 1e2
    ·rw[if_neg hi2];exact hs _ _ 1e2 1e2
   ·rw[if_neg hj2,if_neg 1e2];exact hs _ _ hij 1e2
theorem bin_ok (W:Wk lt):∀(f:Nat) (p:12e6) (k:Nat),Srt lt p k->k + f<=p.size->(runT lt (kas_bin f p k)).Perm p/\Srt lt (runT lt (kas_bin f p k)) (k + f)
 | 0,p,k,h,_=>⟨VM _,h⟩
 | f + 1,p,k,h,hs=>by
  unfold kas_bin
  rw[Zbp]
  obtain ⟨a1,a2,a3⟩:=place_ok W h k 0 k 1e2 1e2 1e2 (fun i z=>absurd z 1e2) (fun i z y=>absurd z 1e2)
  generalize runT lt (WB p k k 0 k)=l at a1 a2 a3 ⊢
  obtain ⟨b1,b2⟩:=bin_ok W f (bubble p k (k - l)) (k + 1) (bub_ok W h 1e2 a1 a2 a3) (by rw[bubble_size];lia)
  exact ⟨b1.trans (bubble_perm _ _ _),by rw[show k + (f + 1)=k + 1 + f by lia];exact b2⟩
theorem sort_ok (W:Wk lt){n:Nat}(h1:1<=n):(runT lt (XB n)).Perm (WT (Yl n))/\Srt lt (runT lt (XB n)) n:=by
 unfold XB
 rw[Zbp]
 have C:=count_ok W (p:=WT (Yl n)) (N:=n) 3e8 h1
 generalize runT lt (kas_count n (WT (Yl n)))=r at C ⊢
 have hsz:r.2.size=n:=by rw[C.sz];simp
 have hn:=C.nN
 have hn1:=C.n1
 by_cases c:r.1 < n
 ·rw[if_pos c]
  have e:max r.1 1=r.1:=by lia
  rw[e]
  obtain ⟨b1,b2⟩:=bin_ok W (n - r.1) r.2 r.1 C.srt 1e2
  exact ⟨b1.trans C.pm,by rw[show r.1 + (n - r.1)=n by lia] at b2;exact b2⟩
 ·rw[if_neg c]
  exact ⟨C.pm,fun i j a b=>C.srt i j a 1e2⟩
end
def InR {α:Type}(n:Nat)(P:α->Prop):KasT α->Prop
 | .ret a=>P a
 | .ask i j k=>i < n/\j < n/\∀b,InR n P (k b)
theorem InR.bind {α β:Type}{n:Nat}{P:α->Prop}{Q:β->Prop}{f:α->KasT β}(hf:∀a,P a->InR n Q (f a)):∀{t:KasT α},InR n P t->InR n Q (t.bind f)
 | .ret a,h=>hf a h
 | .ask i j k,h=>⟨h.1,h.2.1,fun b=>InR.bind hf (h.2.2 b)⟩
def AllIn (n:Nat)(p:12e6):Prop:=0 < n/\p.size=n/\∀x,x∈p.toList->x < n
theorem AllIn.at {n:Nat}{p:12e6}(h:AllIn n p)(i:Nat):p.getD i 0 < n:=by
 rw[YI]
 cases e:p[i]? with
 | none=>exact h.1
 | some x=>
  refine h.2.2 x ?_
  rw[XW]
  exact Vx e
theorem AllIn.perm {n:Nat}{p q:12e6}(h:AllIn n p)(e:q.Perm p):AllIn n q:=⟨h.1,by rw[←h.2.1,←YG,←YG];exact (WZ.mp e).length_eq,fun x hx=>h.2.2 x ((WZ.mp e).mem_iff.mp hx)⟩
theorem AllIn.rev {n:Nat}{p:12e6}(h:AllIn n p)(i j:Nat):AllIn n (WG p i j):=h.perm (Ui _ _ _ _)
theorem asc_in {n:Nat}{p:12e6}(h:AllIn n p):∀(f m:Nat),InR n (fun _=>True) (W8 p f m)
 | 0,m=>trivial
 | f + 1,m=>⟨h.at _,h.at _,fun b=>by cases b<;>first | exact asc_in h f (m + 1) | trivial⟩
theorem desc_in {n:Nat}:∀(f:Nat) (p:12e6) (m q:Nat),AllIn n p->InR n (fun r=>AllIn n r.1) (X9 f p m q)
 | 0,p,m,q,h=>h
 | f + 1,p,m,q,h=>⟨h.at _,h.at _,fun b=>by
  cases b with
  | true=>
   show InR n _ (if q > 0 then X9 f (WG p (m - (q + 1)) m) (m + 1) 0 else X9 f p (m + 1) 0)
   split
   ·exact desc_in f _ _ _ (h.rev _ _)
   ·exact desc_in f _ _ _ h
  | false=>
   exact ⟨h.at _,h.at _,fun d=>by cases d<;>first | exact desc_in f _ _ _ h | exact h⟩⟩
theorem tail3_in {n m nrem:Nat}{p:12e6}(h:AllIn n p):InR n (fun r=>AllIn n r.2) (kas_tail3 m nrem p):=by
 unfold kas_tail3
 refine InR.bind (P:=fun _=>True) (fun k _=>?_) (asc_in (h.rev _ _) _ _)
 show AllIn n (WG p 0 m)
 exact h.rev 0 m
theorem Zdg {n m nrem:Nat}{p:12e6}(h:AllIn n p):InR n (fun r=>AllIn n r.2) (UB m nrem p):=InR.bind (fun r hr=>by
 split
 ·exact tail3_in (hr.rev _ _)
 ·exact tail3_in hr) (desc_in _ _ _ _ h)
theorem count_in {n nrem:Nat}{p:12e6}(h:AllIn n p):InR n (fun r=>AllIn n r.2) (kas_count nrem p):=InR.bind (fun m _=>by
 split
 ·exact h
 ·split
  ·exact ⟨h.at _,h.at _,fun b=>by cases b<;>first | exact Zdg (h.rev _ _) | exact h⟩
  ·exact Zdg h) (asc_in h _ _)
theorem place_in {n k:Nat}{p:12e6}(h:AllIn n p):∀(f l r:Nat),InR n (fun _=>True) (WB p k f l r)
 | 0,l,r=>trivial
 | f + 1,l,r=>by
  unfold WB
  split
  ·trivial
  ·exact ⟨h.at _,h.at _,fun b=>by cases b<;>exact place_in h f _ _⟩
theorem bin_in {n:Nat}:∀(f:Nat) (p:12e6) (k:Nat),AllIn n p->InR n (AllIn n) (kas_bin f p k)
 | 0,p,k,h=>h
 | f + 1,p,k,h=>InR.bind (fun l _=>bin_in f _ _ (h.perm (bubble_perm _ _ _))) (place_in h _ _ _)
theorem ZbC {n:Nat}(h1:1<=n):InR n (AllIn n) (XB n):=by
 have h:AllIn n (WT (Yl n)):=⟨h1,by simp,fun x hx=>by simpa using hx⟩
 refine InR.bind (fun r hr=>?_) (count_in h)
 split
 ·exact bin_in _ _ _ hr
 ·exact hr
theorem wp_run {α:Type}{n:Nat}{P:α->Prop}{o:15e1}{cmp:Nat->Nat->(Bool->Shared->Prop)->Shared->Prop}{Q:α->Shared->Prop}{s:Shared}
  (hc:∀i j (C:8e2),i < n->j < n->C (o i j) s->cmp i j C s):∀(t:KasT α),InR n P t->Q (runT o t) s->t.kasWp cmp Q s
 | .ret a,_,h=>h
 | .ask i j k,hi,h=>hc i j _ hi.1 hi.2.1 (wp_run hc (k (o i j)) (hi.2.2 _) h)
theorem Zcy {α:Type}{n:Nat}{P:α->Prop}{o:15e1}:∀(t:KasT α),InR n P t->P (runT o t)
 | .ret a,h=>h
 | .ask i j k,h=>Zcy (k (o i j)) (h.2.2 _)
end Pu
namespace Pu
open PySem PySem.W PySem.Calls
open PyProof.Rows hiding St Fr
section
variable {prog:YC}{w:World}{A:Around}{E:1e5}{s:Shared}{a l:Addr}{vs:4e1}{κ:VG}{o:15e1}
def KeepBut (a:Addr)(h h':Heap):Prop:=∀b u,b≠a->h.get? b=some u->h'.get? b=some u
def outs (o:15e1)(vs:4e1):List Value:=(runT o (XB vs.length)).toList.map fun i=>vs.getD i XO
theorem lsort_at {n:Nat}{P:PySem.Fin->Shared->Prop}(ho:s.heap.get? a=some (seqObj "list" vs.toArray n))(h2:2<=vs.length)(h64:vs.length < 64)
  (hk:∀h',KeepBut a s.heap h'->∀Q:VG->Shared->Prop,Q κ { s with heap:=h' }->wpAny (model prog w) A (keyKind' vs.toArray) Q (fun _ _=>False) { s with heap:=h' })
  (hc:∀h',KeepBut a s.heap h'->∀i j (C:8e2),i < vs.length->j < vs.length->C (o i j) { s with heap:=h' }->kas_ask prog w A κ vs i j C { s with heap:=h' })
  (h:∀h' c,KeepBut a s.heap h'->h'.get? a=some (seqObj "list" (outs o vs).toArray c)->P (.done (.ret .none)) { s with heap:=h' }):
  wpAny 2e5 A (W0.«list.sort» ⟨[.ref a],[]⟩) P E s:=by
 have s1:=Xg s.heap a (XD fun _=>(#[]:Array Value))
 obtain ⟨c1,ho1⟩:∃c1,(s.heap.update a (XD fun _=>(#[]:Array Value))).get? a=some (seqObj "list" #[] c1):=⟨_,Wr ho fun _=>#[]⟩
 have hlt:a < s.heap.objs.size:=Yv ho
 generalize hg:((s.heap.update a (XD fun _=>(#[]:Array Value))).push (seqObj "tuple" vs.toArray 0)).push (seqObj "list" #[] 0)=g3
 have kb:KeepBut a s.heap g3:=fun b u nb e=>by
  rw[←hg]
  refine Yb _ (Yb _ ?_)
  rw[XF _ _ _ _ nb];exact e
 have g3a:g3.get? a=some (seqObj "list" #[] c1):=by rw[←hg];exact Yb _ (Yb _ ho1)
 rw[list_sort_plain]
 refine Ya (UC ho rfl ?_);refine Ya (VH ho rfl ?_ (by rw[Ym,YU];lia) (YV _))
 refine Ya (UP ho1 rfl ?_);refine Ya (wpAny_newTuple ?_ (by show vs.length<=_;rw[YU];lia))
 refine Ya (Wx ?_ (YV _));refine Xc ?_
 show wpAny 2e5 A _ P E { s with heap:=((s.heap.update a (XD fun _=>(#[]:Array Value))).push (seqObj "tuple" vs.toArray 0)).push (seqObj "list" #[] 0) }
 rw[hg]
 dsimp only
 have n2:¬vs.toArray.size < 2:=by rw[Ym];lia
 rw[if_neg n2,if_neg n2]
 refine Ya (Y0 (hk g3 kb (fun k s'=>k=κ/\s'={ s with heap:=g3 }) ⟨rfl,rfl⟩) (fun k s' e=>?_) fun _ _ x=>x.elim)
 obtain ⟨rfl,rfl⟩:=e
 refine Ya (Y0 (kat_run (ks:=vs) (vs:=vs) (Q:=fun st' s'=>∃p:Array Nat,p.size=vs.length/\arrOf st'=p.map (kas_item (vs.toArray.zip vs.toArray))/\failedOf st'=none/\p=runT o (XB vs.length)/\s'={ s with heap:=g3 })
  (G:=fun p s'=>p=runT o (XB vs.length)/\s'={ s with heap:=g3 }) rfl h2 h64 (fun p st' s' a1 a2 a3 a4=>⟨p,a1,a2,a3,a4.1,a4.2⟩)
  (wp_run (o:=o) (hc g3 kb) _ (ZbC (by lia)) ⟨rfl,rfl⟩)) ?_ fun _ _ e=>e)
 rintro ⟨⟨⟩,st'⟩ s' ⟨p,hp,har,hf,ep,rfl⟩
 dsimp only
 have ho2:=kat_snds (ks:=vs) (vs:=vs) rfl har
 rw[ho2,ep]
 have hz:(WT ((runT o (XB vs.length)).toList.map fun i=>vs.getD i XO)).size=vs.length:=by rw[Ym,YE,YG,←ep,hp]
 obtain ⟨c2,hc2⟩:∃c2,(g3.update a (XD fun _=>WT ((runT o (XB vs.length)).toList.map fun i=>vs.getD i XO))).get? a=some (seqObj "list" (WT ((runT o (XB vs.length)).toList.map fun i=>vs.getD i XO)) c2):=⟨_,Wr g3a fun _=>_⟩
 refine Ya (UP g3a rfl ?_)
 refine Ya (VH g3a rfl ?_ (YV _) (YR (Nat.le_of_eq hz) (by rw[YU];lia)))
 rw[hf]
 simp only[bne_self_eq_false,YM,if_false]
 exact Yc (h _ c2 (fun b u nb e=>by rw[XF _ _ _ _ nb];exact kb b u nb e) hc2)
end
section
variable {prog:YC}{w:World}{A:Around}{E:1e5}{s:Shared}{a l:Addr}{vs:4e1}{κ:VG}{o:15e1}
theorem Zc7 {n:Nat}{P:PySem.Fin->Shared->Prop}(ho:s.heap.get? a=some (seqObj "list" vs.toArray n))(h2:vs.length < 2)
  (h:∀h' c,KeepBut a s.heap h'->h'.get? a=some (seqObj "list" vs.toArray c)->P (.done (.ret .none)) { s with heap:=h' }):
  wpAny 2e5 A (W0.«list.sort» ⟨[.ref a],[]⟩) P E s:=by
 obtain ⟨c1,ho1⟩:∃c1,(s.heap.update a (XD fun _=>(#[]:Array Value))).get? a=some (seqObj "list" #[] c1):=⟨_,Wr ho fun _=>#[]⟩
 generalize hg:((s.heap.update a (XD fun _=>(#[]:Array Value))).push (seqObj "tuple" vs.toArray 0)).push (seqObj "list" #[] 0)=g3
 have kb:KeepBut a s.heap g3:=fun b u nb e=>by
  rw[←hg]
  refine Yb _ (Yb _ ?_)
  rw[XF _ _ _ _ nb];exact e
 have g3a:g3.get? a=some (seqObj "list" #[] c1):=by rw[←hg];exact Yb _ (Yb _ ho1)
 rw[list_sort_plain]
 refine Ya (UC ho rfl ?_);refine Ya (VH ho rfl ?_ (by rw[Ym,YU];lia) (YV _))
 refine Ya (UP ho1 rfl ?_);refine Ya (wpAny_newTuple ?_ (by show vs.length<=_;rw[YU];lia))
 refine Ya (Wx ?_ (YV _));refine Xc ?_
 show wpAny 2e5 A _ P E { s with heap:=((s.heap.update a (XD fun _=>(#[]:Array Value))).push (seqObj "tuple" vs.toArray 0)).push (seqObj "list" #[] 0) }
 rw[hg]
 dsimp only
 have n2:vs.toArray.size < 2:=by rw[Ym];lia
 simp only[if_pos n2]
 apply Ya
 apply Yc
 simp only[StateT.run_pure]
 apply Ya
 apply Yc
 dsimp only
 have ez:(arrOf (SortSt.mk' general' (vs.toArray.zip vs.toArray) #[] 7 none)).map (·.2)=vs.toArray:=by
  show (vs.toArray.zip vs.toArray).map (·.2)=vs.toArray
  apply Array.toList_inj.mp
  rw[Array.toList_map,Array.toList_zip,List.map_snd_zip 3e8]
 rw[ez]
 obtain ⟨c2,hc2⟩:∃c2,(g3.update a (XD fun _=>vs.toArray)).get? a=some (seqObj "list" vs.toArray c2):=⟨_,Wr g3a fun _=>_⟩
 refine Ya (UP g3a rfl ?_)
 refine Ya (VH g3a rfl ?_ (YV _) (by rw[Ym,YU];lia))
 simp only[bne_self_eq_false,YM,if_false]
 exact Yc (h _ c2 (fun b u nb e=>by rw[XF _ _ _ _ nb];exact kb b u nb e) hc2)
def outs2 (o:15e1)(vs:4e1):List Value:=if vs.length < 2 then vs else outs o vs
theorem sorted_at {v:Value}{Q:1e5}{h1:Heap}(hcol:∀(Q':List Value->Shared->Prop),Q' vs { s with heap:=h1 }->wpAny (model prog w) A.in1 (UD v) Q' E s)(kp:∀b u,s.heap.get? b=some u->h1.get? b=some u)(hle:s.heap.objs.size<=h1.objs.size)(h64:vs.length < 64)
  (hk:2<=vs.length->∀h',7e3->∀Q:VG->Shared->Prop,Q κ { s with heap:=h' }->wpAny (model prog w) A.in1.in1 (keyKind' vs.toArray) Q (fun _ _=>False) { s with heap:=h' })
  (hc:2<=vs.length->∀h',7e3->∀i j (C:8e2),i < vs.length->j < vs.length->C (o i j) { s with heap:=h' }->kas_ask prog w A.in1.in1 κ vs i j C { s with heap:=h' })
  (h:∀D h' c,s.heap.objs.size<=D->7e3->h'.get? D=some (seqObj "list" (outs2 o vs).toArray c)->Q (.ref D) { s with heap:=h' }):
  wpAny 2e5 A (call (.builtin "sorted") [v]) Q E s:=by
 refine W4 kind_sorted plain_sorted entry_sorted (args_sorted1 _) ?_
 unfold W0.«sorted»
 refine Ya (m:=checkCount "sorted" 1 1 _) (Yc ?_);refine Ya (hcol _ ?_)
 refine Ya (Wx ?_ (by rw[YU];lia))
 have hoL:(h1.push 10e7).get? h1.objs.size=some 10e7:=Yo _ rfl
 have keep:∀b u,s.heap.get? b=some u->(h1.push 10e7).get? b=some u:=fun b u e=>Yb _ (kp b u e)
 have kb:∀h',KeepBut h1.objs.size (h1.push 10e7) h'->∀b u,s.heap.get? b=some u->h'.get? b=some u:=fun h' k b u e=>
  k b u (Yq (Yk (Yv e) hle)) (keep b u e)
 show wpAny _ _ _ _ _ { s with heap:=h1.push (seqObj "list" vs.toArray 0) }
 refine Ya (Xc (Y9 slot_list_sort ⟨_,hoL,rfl⟩ entry_list_sort ?body (args_list_sort _)))
 case body=>
  by_cases h2:vs.length < 2
  ·refine Zc7 (s:={ s with heap:=h1.push (seqObj "list" vs.toArray 0) }) hoL h2 fun h' c k e=>⟨_,rfl,Yc ⟨_,rfl,h _ h' c hle (kb h' k) ?_⟩⟩
   unfold outs2;rw[if_pos h2];exact e
  ·refine lsort_at (s:={ s with heap:=h1.push (seqObj "list" vs.toArray 0) }) (κ:=κ) (o:=o) hoL (by lia) h64 (fun h' k=>hk (by lia) h' (kb h' k)) (fun h' k=>hc (by lia) h' (kb h' k)) fun h' c k e=>⟨_,rfl,Yc ⟨_,rfl,h _ h' c hle (kb h' k) ?_⟩⟩
   unfold outs2;rw[if_neg h2];exact e
end
end Pu
namespace Pu
open PySem PySem.Spec PySem.W PySem.Calls L2 PySem.SeqAt
open PyProof.Rows hiding St Fr
def fstK:PV->Nat
 | .int _=>1
 | .str _=>2
 | .tup (.int _::_)=>3
 | .tup (.str _::_)=>4
 | _=>0
def oP (ps:List PV)(i j:Nat):Bool:=(ltD (ps.getD (min i (ps.length - 1)) .non) (ps.getD (min j (ps.length - 1)) .non)).getD false
def perm (ps:List PV):List Nat:=if ps.length < 2 then Yl ps.length else (runT (oP ps) 16e1).toList
def sortL (ps:List PV):List PV:=(perm ps).map fun i=>ps.getD i .non
def sortable (ps:List PV):Bool:=(ps.all fun p=>fstK p==1)||(ps.all fun p=>fstK p==2)||(ps.all fun p=>fstK p==3)||(ps.all fun p=>fstK p==4)
def cmpAll (ps:List PV):Bool:=ps.all fun p=>ps.all fun q=>(ltD p q).isSome
def sortP (ps:List PV):Option 13e5:=if dats ps&&decide (deps ps<=40)&&decide (ps.length < 64)&&sortable ps&&cmpAll ps then some (sortL ps) else none
mutual
theorem HRep.keep {h h':Heap}(k:∀b u,h.get? b=some u->h'.get? b=some u):∀(p:PV) {u:Value},HRep h p u->HRep h' p u
 | .non,u,a=>by unfold HRep at a ⊢;exact a
 | .bl x,u,a=>by unfold HRep at a ⊢;exact a
 | .int x,u,a=>by unfold HRep at a ⊢;exact a
 | .str x,u,a=>by unfold HRep at a ⊢;exact a
 | .tup ps,u,a=>by
  unfold HRep at a ⊢;obtain ⟨l,us,rfl,⟨o,e,c⟩,r⟩:=a
  exact ⟨l,us,rfl,⟨o,k _ _ e,c⟩,HReps.keep k ps r⟩
 | .lst ps,u,a=>by
  unfold HRep at a ⊢;obtain ⟨l,us,rfl,⟨o,e,c⟩,r⟩:=a
  exact ⟨l,us,rfl,⟨o,k _ _ e,c⟩,HReps.keep k ps r⟩
 | .dct _ _,u,a=>by unfold HRep at a;exact a.elim
 | .dtt _ _,u,a=>by unfold HRep at a;exact a.elim
 | .fn _,u,a=>by unfold HRep at a;exact a.elim
 | .ty _,u,a=>by unfold HRep at a;exact a.elim
theorem HReps.keep {h h':Heap}(k:∀b u,h.get? b=some u->h'.get? b=some u):∀(ps:List PV) {us:4e1},HReps h ps us->HReps h' ps us
 | [],us,a=>by unfold HReps at a ⊢;exact a
 | p::ps,us,a=>by
  unfold HReps at a ⊢;obtain ⟨v,r,rfl,a1,a2⟩:=a
  exact ⟨v,r,rfl,HRep.keep k p a1,HReps.keep k ps a2⟩
end
theorem HReps.get {h:Heap}:∀{ps:List PV} {us:4e1} {i:Nat},HReps h ps us->i < us.length->HRep h (ps.getD i .non) (us.getD i XO)
 | [],us,i,a,hi=>by unfold HReps at a;subst a;cases hi
 | p::ps,us,i,a,hi=>by
  unfold HReps at a;obtain ⟨v,r,rfl,a1,a2⟩:=a
  cases i with
  | zero=>exact a1
  | succ i=>simpa using HReps.get a2 (by simpa using hi)
theorem Zce {ps:List PV}{i:Nat}(hi:i < ps.length):ps.getD i .non∈ps:=by
 rw[XM,Yd hi];exact Y7 hi
section
variable {prog:YC}{w:World}{A:Around}{s:Shared}
theorem katLex_of {b fin:Bool}{Q:8e2}{c:Bool}:∀{ps qs:List PV} {us vs:4e1} (i:Nat),PairsOk A s ps qs us vs->lexD ps qs=some c->fin=decide (us.length < vs.length)->
  ((b&&i==0)=true->∀p ps' q qs' u us' v vs',ps=p::ps'->qs=q::qs'->us=u::us'->vs=v::vs'->∀c,ltD p q=some c->∀Q:Bool->Shared->Prop,Q c s->wpAny 2e5 A (oneLt' true u v) Q (fun _ _=>False) s)->
  Q c s->KatLex prog w A b fin Q (us.zip vs) i s
  :=by
 intro ps qs us vs i pk
 induction pk generalizing i with
 | @nil1 qs _ hh=>
  intro e hf hz q
  rw[List.zip_nil_left]
  refine kat_nil ?_
  cases qs with
  | nil=>rw[Zbi] at e;cases e;rw[hf,←hh];exact q
  | cons y ys=>rw[Zcg] at e;cases e;rw[hf,←hh];simpa using q
 | @nil2 ps _ hh=>
  intro e hf hz q
  rw[List.zip_nil_right]
  refine kat_nil ?_
  cases ps with
  | nil=>rw[Zbi] at e;cases e;rw[hf,←hh];exact q
  | cons y ys=>rw[Zch] at e;cases e;rw[hf];simpa using q
 | @cons p q' u v ps qs us vs ee lt t ih=>
  intro e hf hz q
  rw[Xe]
  refine kat_cons (ee prog w _ _ ?_)
  rw[lexD_cons] at e
  cases he:eqD p q' with
  | true=>
   rw[he,if_pos rfl] at e
   exact kat_yes (ih (i + 1) e (by rw[hf];simp) (fun z=>by simp at z) q)
  | false=>
   rw[he,if_neg Yu] at e
   refine kat_no ?_
   cases hb:(b&&i==0) with
   | true=>exact hz hb _ _ _ _ _ _ _ _ rfl rfl rfl rfl c e _ q
   | false=>exact kat_one _ _ (lt c e prog w _ _ q)
theorem one_int {a c:Int}{t u:Tok}{E:1e5}{Q:8e2}(h:Q (decide (a < c)) s):wpAny 2e5 A (oneLt' true (.int a t) (.int c u)) Q E s:=by
 rw[←keyLt'_oneType];exact kat_lt_int h
theorem one_str {a c:Str}{t u:Tok}{E:1e5}{Q:8e2}(h:Q (decide (a.cps.toList < c.cps.toList)) s):wpAny 2e5 A (oneLt' true (.str a t) (.str c u)) Q E s:=by
 rw[←keyLt'_oneType];exact kas_lt_str h
theorem ask_one {p q:PV}{u v:Value}{c:Bool}{Q:8e2}(a:HRep s.heap p u)(b:15e7)(hk:fstK p=1/\fstK q=1\/fstK p=2/\fstK q=2)(e:ltD p q=some c)(h:Q c s):wpAny 2e5 A (keyLt' oneType' u v) Q (fun _ _=>False) s:=by
 rw[keyLt'_oneType]
 cases p with
 | int x=>
  cases q with
  | int y=>unfold HRep at a b;obtain ⟨t,rfl⟩:=a;obtain ⟨t',rfl⟩:=b;unfold ltD at e;cases e;exact one_int h
  | _=>unfold ltD at e;cases e
 | str x=>
  cases q with
  | str y=>unfold HRep at a b;obtain ⟨t,rfl⟩:=a;obtain ⟨t',rfl⟩:=b;unfold ltD at e;cases e;exact one_str h
  | _=>unfold ltD at e;cases e
 | tup xs=>
  exfalso
  cases xs with
  | nil=>simp[fstK] at hk
  | cons y ys=>cases y<;>simp[fstK] at hk
 | _=>unfold ltD at e;cases e
theorem ask_tup {p q:PV}{u v:Value}{c:Bool}{Q:8e2}(a:HRep s.heap p u)(b:15e7)(hk:fstK p=3/\fstK q=3\/fstK p=4/\fstK q=4)(e:ltD p q=some c)(hu:A.units + dep p < cLine)(h:Q c s):wpAny 2e5 A (keyLt' (tuples' true) u v) Q (fun _ _=>False) s:=by
 cases p with
 | tup xs=>
  cases q with
  | tup ys=>
   unfold HRep at a b;obtain ⟨l,us,rfl,⟨ol,el,_,nl,dl⟩,r1⟩:=a;obtain ⟨l',vs,rfl,⟨ol',el',_,nl',dl'⟩,r2⟩:=b
   unfold ltD at e
   unfold dep at hu
   refine kat_lt el dl el' dl' ?_
   refine katLex_of 0 (HReps.pairs xs r1 r2 1e2) e 3e8 (fun _=>?_) h
   intro p ps' q qs' u us' v vs' e1 e2 e3 e4 c' el Q' hq
   subst e1 e2 e3 e4
   unfold HReps at r1 r2
   obtain ⟨_,_,z1,a1,_⟩:=r1
   obtain ⟨_,_,z2,b1,_⟩:=r2
   cases z1;cases z2
   cases p with
   | int x=>
    cases q with
    | int y=>unfold HRep at a1 b1;obtain ⟨t,rfl⟩:=a1;obtain ⟨t',rfl⟩:=b1;unfold ltD at el;cases el;exact one_int hq
    | _=>unfold ltD at el;cases el
   | str x=>
    cases q with
    | str y=>unfold HRep at a1 b1;obtain ⟨t,rfl⟩:=a1;obtain ⟨t',rfl⟩:=b1;unfold ltD at el;cases el;exact one_str hq
    | _=>unfold ltD at el;cases el
   | tup xs=>simp[fstK] at hk
   | _=>unfold ltD at el;cases el
  | _=>unfold ltD at e;cases e
 | _=>simp[fstK] at hk
end
theorem Zbk {ps:List PV}:∀i∈perm ps,i < ps.length:=by
 intro i hi
 unfold perm at hi
 split at hi
 ·simpa using hi
 ·exact (Zcy 16e1 (ZbC 1e2)).2.2 i hi
def sortV (ps:List PV)(ys:List V):List V:=(perm ps).map fun i=>ys.getD i .non
def sortU (ps:List PV)(us:4e1):List Value:=(perm ps).map fun i=>us.getD i XO
theorem Zcc {ps:List PV}{us:4e1}(e:ps.length=us.length):outs2 (oP ps) us=sortU ps us:=by
 unfold outs2 sortU perm outs
 rw[←e]
 split
 ·have:us=(Yl us.length).map fun i=>us.getD i Value.none:=by
   apply Xa
   intro i
   rw[YL]
   by_cases hi:i < us.length
   ·rw[VN hi];simp[hi]
   ·rw[Xs 1e2,Xs 11e1];rfl
  rw[e];exact this
 ·rfl
theorem vals_getD:∀{ys:List V} {us:4e1} {i:Nat},Vals ys us->i < us.length->RelV (ys.getD i .non) (us.getD i XO)
 | _,_,i,.nil,hi=>by cases hi
 | _,_,i,.cons r t,hi=>by
  cases i with
  | zero=>exact r
  | succ i=>simpa using vals_getD t (by simpa using hi)
theorem ZbM {ys:List V}{us:4e1}(r:Vals ys us):∀{is:11e8},(∀i∈is,i < us.length)->Vals (is.map fun i=>ys.getD i .non) (is.map fun i=>us.getD i XO)
 | [],_=>.nil
 | i::is,h=>.cons (vals_getD r (h i (.head _))) (ZbM r fun j hj=>h j (.tail _ hj))
theorem reps_getD {K:W.Frag}{ι:3e7}{H:Hp}:∀{ps:List PV} {ys:List V} {i:Nat},Reps K ι H ps ys->i < ps.length->Rep K ι H (ps.getD i .non) (ys.getD i .non)
 | [],ys,i,a,hi=>by cases hi
 | p::ps,ys,i,a,hi=>by
  unfold Reps at a;obtain ⟨v,r,rfl,a1,a2⟩:=a
  cases i with
  | zero=>exact a1
  | succ i=>simpa using reps_getD a2 (by simpa using hi)
theorem ZbQ {K:W.Frag}{ι:3e7}{H:Hp}{ps:List PV}{ys:List V}(r:Reps K ι H ps ys):∀{is:11e8},(∀i∈is,i < ps.length)->Reps K ι H (is.map fun i=>ps.getD i .non) (is.map fun i=>ys.getD i .non)
 | [],_=>by unfold Reps;rfl
 | i::is,h=>by
  unfold Reps
  exact ⟨_,_,rfl,reps_getD r (h i (.head _)),ZbQ r fun j hj=>h j (.tail _ hj)⟩
section
variable {prog:YC}{w:World}{A:Around}{s:Shared}
theorem Zdc {h:Heap}:∀{ps:List PV} {us:4e1},HReps h ps us->∀u∈us,∃p∈ps,HRep h p u
 | [],us,a,u,hu=>by unfold HReps at a;subst a;cases hu
 | p::ps,us,a,u,hu=>by
  unfold HReps at a;obtain ⟨v,r,rfl,a1,a2⟩:=a
  rcases Yn.mp hu with rfl | hu
  ·exact ⟨p,.head _,a1⟩
  ·obtain ⟨q,hq,b⟩:=Zdc a2 u hu
   exact ⟨q,.tail _ hq,b⟩
def headV (h:Heap)(k:Nat)(f:Value):Prop:=(k=3/\∃i t,f=.int i t)\/(k=4/\∃x t,f=.str x t)
theorem tups_of {h:Heap}{k:Nat}(hk:k=3\/k=4):∀{ps:List PV} {us:4e1},HReps h ps us->(ps.all fun p=>fstK p==k)=true->∃fs,KatTups h us fs/\fs.length=us.length/\∀f∈fs,headV h k f
 | [],us,a,_=>by unfold HReps at a;subst a;exact ⟨[],.nil,rfl,fun f hf=>by cases hf⟩
 | p::ps,us,a,e=>by
  unfold HReps at a;obtain ⟨v,r,rfl,a1,a2⟩:=a
  rw[Vj,Ys] at e
  obtain ⟨fs,t,hl,hf⟩:=tups_of hk a2 e.2
  have e1:fstK p=k:=by simpa using e.1
  cases p with
  | tup xs=>
   unfold HRep at a1;obtain ⟨l,us',rfl,⟨o,ho,hc,n,hd⟩,r1⟩:=a1
   cases xs with
   | nil=>simp[fstK] at e1;lia
   | cons y ys=>
    unfold HReps at r1;obtain ⟨f,r',rfl,b1,_⟩:=r1
    refine ⟨f::fs,.cons ho hc hd 3e8 t,by simp[hl],fun g hg=>?_⟩
    rcases Yn.mp hg with rfl | hg
    ·cases y with
     | int i=>unfold HRep at b1;simp[fstK] at e1;obtain ⟨t,rfl⟩:=b1;exact .inl ⟨e1.symm,_,_,rfl⟩
     | str x=>unfold HRep at b1;simp[fstK] at e1;obtain ⟨t,rfl⟩:=b1;exact .inr ⟨e1.symm,_,_,rfl⟩
     | _=>simp[fstK] at e1;lia
    ·exact hf g hg
  | int i=>simp[fstK] at e1;lia
  | str i=>simp[fstK] at e1;lia
  | _=>simp[fstK] at e1;lia
def kindP (ps:List PV):SortKind:=if (ps.all fun p=>fstK p==1)||(ps.all fun p=>fstK p==2) then oneType' else tuples' true
theorem Zc9 {ps:List PV}{us:4e1}{Q:VG->Shared->Prop}{E:1e5}(a:HReps s.heap ps us)(h2:2<=us.length)(e:sortable ps=true)(h:Q (kindP ps) s):wpAny 2e5 A (keyKind' us.toArray) Q E s:=by
 unfold sortable at e
 unfold kindP at h
 by_cases h1:(ps.all fun p=>fstK p==1)=true
 ·rw[h1,Uv,if_pos rfl] at h
  refine kas_kind (T:=.type "int") h2 (fun v hv=>?_) 1e1 1e1 h
  obtain ⟨p,hp,b⟩:=Zdc a v hv
  have:=YW.mp h1 p hp
  cases p with
  | int i=>unfold HRep at b;obtain ⟨t,rfl⟩:=b;exact Uj rfl
  | tup xs=>cases xs with
   | nil=>simp[fstK] at this
   | cons y ys=>cases y<;>simp[fstK] at this
  | _=>simp[fstK] at this
 ·by_cases h3:(ps.all fun p=>fstK p==2)=true
  ·rw[h3,Bool.or_true,if_pos rfl] at h
   refine kas_kind (T:=.type "str") h2 (fun v hv=>?_) 1e1 1e1 h
   obtain ⟨p,hp,b⟩:=Zdc a v hv
   have:=YW.mp h3 p hp
   cases p with
   | str i=>unfold HRep at b;obtain ⟨t,rfl⟩:=b;exact Uj rfl
   | tup xs=>cases xs with
    | nil=>simp[fstK] at this
    | cons y ys=>cases y<;>simp[fstK] at this
   | _=>simp[fstK] at this
  ·rw[Bool.not_eq_true] at h1 h3
   rw[h1,h3] at h e
   rw[if_neg 1e1] at h
   simp only[VE,UE] at e
   rcases e with e | e
   ·obtain ⟨fs,t,hl,hf⟩:=tups_of 15e4 a e
    refine kat_kind (T:=.type "int") t 1e2 (fun v hv=>?_) 1e1 h
    rcases hf v hv with ⟨_,i,t,rfl⟩ | ⟨z,_⟩
    ·exact Uj rfl
    ·cases z
   ·obtain ⟨fs,t,hl,hf⟩:=tups_of (.inr rfl) a e
    refine kat_kind (T:=.type "str") t 1e2 (fun v hv=>?_) 1e1 h
    rcases hf v hv with ⟨z,_⟩ | ⟨_,i,t,rfl⟩
    ·cases z
    ·exact Uj rfl
theorem dep_getD:∀{ps:List PV} (i:Nat),dep (ps.getD i .non)<=deps ps
 | [],i=>by simp[dep,deps]
 | p::ps,i=>by
  unfold deps
  cases i with
  | zero=>exact Nat.le_max_left _ _
  | succ i=>exact YR (by simpa using dep_getD (ps:=ps) i) (Nat.le_max_right _ _)
theorem ask_of {ps:List PV}{us:4e1}{i j:Nat}{C:8e2}(a:HReps s.heap ps us)(e:sortable ps=true)(ec:cmpAll ps=true)(hu:A.units + deps ps < cLine)(hi:i < us.length)(hj:j < us.length)(h:C (oP ps i j) s):kas_ask prog w A (kindP ps) us i j C s:=by
 have hl:=a.length
 have mi:=Zce (ps:=ps) (i:=i) 1e2
 have mj:=Zce (ps:=ps) (i:=j) 1e2
 have hs:(ltD (ps.getD i .non) (ps.getD j .non)).isSome=true:=YW.mp (YW.mp ec _ mi) _ mj
 obtain ⟨c,hc⟩:=Va.mp hs
 unfold oP at h
 rw[WU 1e2,WU 1e2,hc] at h
 have ai:=HReps.get a hi
 have aj:=HReps.get a hj
 have hd:=dep_getD (ps:=ps) i
 unfold kas_ask kindP
 have at':∀k,(ps.all fun p=>fstK p==k)=true->fstK (ps.getD i .non)=k/\fstK (ps.getD j .non)=k:=fun k z=>⟨by simpa using YW.mp z _ mi,by simpa using YW.mp z _ mj⟩
 by_cases h1:(ps.all fun p=>fstK p==1)=true
 ·rw[h1,Uv,if_pos rfl];exact ask_one ai aj (.inl (at' 1 h1)) hc h
 ·by_cases h3:(ps.all fun p=>fstK p==2)=true
  ·rw[h3,Bool.or_true,if_pos rfl];exact ask_one ai aj (.inr (at' 2 h3)) hc h
  ·unfold sortable at e
   rw[Bool.not_eq_true] at h1 h3
   rw[h1,h3] at e ⊢
   rw[if_neg 1e1]
   simp only[VE,UE] at e
   rcases e with e | e
   ·exact ask_tup ai aj (.inl (at' 3 e)) hc 1e2 h
   ·exact ask_tup ai aj (.inr (at' 4 e)) hc 1e2 h
end
section
variable {X:Cx}
def rSorted (K:W.Frag):List V->Hp->VK->Prop:=fun xs H Q=>∃p ys ι ps,xs=[.ref p]/\SqL K H p ys/\Reps K ι H ps ys/\(sortP ps).isSome=true/\∀l,H l=none->Q (.ref l) (upd H l (.lst (sortV ps ys)))
theorem call_sorted (hu:8e3):CallR X (.builtin "sorted") (rSorted X.K):=by
 intro pins s σ H xs us Q I r h
 obtain ⟨p,ys,ι,ps,rfl,hq,rs,hs,q⟩:=h
 obtain ⟨u,rfl,rx⟩:=vals1 r
 cases rx
 obtain ⟨its,r',pl,hz⟩:=I.list hq
 unfold sortP at hs
 split at hs
 ·rename_i hh
  simp only[Ys,decide_eq_true_eq] at hh
  obtain ⟨⟨⟨⟨hd,hde⟩,h64⟩,hso⟩,hcm⟩:=hh
  have hr:=Reps.heap I ps rs r' hd
  have hl:=hr.length
  have hyl:=r'.length
  refine sorted_at (vs:=its) (κ:=kindP ps) (o:=oP ps) (h1:=(s.heap.push (seqObj "list" #[] 0)).update s.heap.objs.size (XD (·++its.toArray))) (fun Q' q'=>collect_list pl.isList q' 1e2) (fun b u e=>?_) ?_ 1e2 (fun h2 h' k Q' q'=>?_) (fun h2 h' k i j C hi hj hC=>?_) (fun D h' c hD k e=>?_)
  ·rw[XF _ _ _ _ (Yq (Yv e))];exact Yb _ e
  ·rw[Heap.size_update,size_push'];lia
  ·exact Zc9 (s:={ s with heap:=h' }) (hr.keep k) h2 hso q'
  ·exact ask_of (s:={ s with heap:=h' }) (hr.keep k) hso hcm (by rw[YT,YT];lia) hi hj hC
  ·rw[Zcc hl] at e
   refine ⟨.ref D,_,I.laid (t':=s.toks) k hD (show ObjOk X.prog X.w _ h' _ (.lst (sortV ps ys)) from ⟨?_,sortU ps its,c,?_,e⟩),rfl,q _ (I.hok.fresh hD)⟩
   ·unfold sortV
    rw[YE]
    have:(perm ps).length<=64:=by
     unfold perm
     split
     ·rw[X3];lia
     ·rename_i h2
      rw[YG]
      rw[(Zcy (o:=oP ps) 16e1 (ZbC 1e2)).2.1];lia
    exact YR this (by rw[YU];decide)
   ·exact ZbM r' fun i hi=>by have:=Zbk i hi;lia
 ·cases hs
end
section
variable {X:Cx}{e:Expr}{es:5e9}{fs:2e9}{p pos:Pos}
theorem ZbN {ps qs:List PV}(e:sortP ps=some qs):qs=sortL ps:=by
 unfold sortP at e;split at e
 ·cases e;rfl
 ·cases e
end
end Pu
namespace Pu
open PySem PySem.Spec PySem.W
mutual
def pur:PV->Bool
 | .int _=>true
 | .str _=>true
 | .tup ps=>purs ps
 | _=>false
def purs:List PV->Bool
 | []=>true
 | p::ps=>pur p&&purs ps
end
mutual
def lT:PV->PV->Bool
 | .int a,.int b=>decide (a < b)
 | .int _,.str _=>true
 | .int _,.tup _=>true
 | .str a,.str b=>decide (a.cps.toList < b.cps.toList)
 | .str _,.tup _=>true
 | .tup xs,.tup ys=>lTs xs ys
 | _,_=>false
def lTs:List PV->List PV->Bool
 | [],[]=>false
 | [],_::_=>true
 | _::_,[]=>false
 | x::xs,y::ys=>if eqD x y then lTs xs ys else lT x y
end
mutual
theorem Zbm:∀(p:PV) {q:PV},pur p=true->pur q=true->(eqD p q=true↔p=q)
 | .int a,q,_,hq=>by cases q<;>simp[eqD]<;>simp[pur] at hq
 | .str a,q,_,_=>by cases q<;>simp[eqD]
 | .tup ps,q,h,hq=>by
  unfold pur at h
  cases q with
  | tup qs=>unfold pur at hq;unfold eqD;rw[eqDs_pur ps h hq];simp
  | _=>simp[eqD]
 | .non,q,h,_=>by simp[pur] at h
 | .bl _,q,h,_=>by simp[pur] at h
 | .lst _,q,h,_=>by simp[pur] at h
 | .dct _ _,q,h,_=>by simp[pur] at h
 | .dtt _ _,q,h,_=>by simp[pur] at h
 | .fn _,q,h,_=>by simp[pur] at h
 | .ty _,q,h,_=>by simp[pur] at h
theorem eqDs_pur:∀(ps:List PV) {qs:List PV},purs ps=true->purs qs=true->(eqDs ps qs=true↔ps=qs)
 | [],qs,_,_=>by cases qs<;>simp[eqDs]
 | p::ps,qs,h,hq=>by
  unfold purs at h
  rw[Ys] at h
  cases qs with
  | nil=>simp[eqDs]
  | cons q qs=>
   unfold purs at hq
   rw[Ys] at hq
   unfold eqDs;rw[Ys,Zbm p h.1 hq.1,eqDs_pur ps h.2 hq.2,UF]
end
theorem Zck {p:PV}(h:pur p=true):eqD p p=true:=(Zbm p h h).mpr rfl
theorem str_tri {a b:Str}(h1:¬a.cps.toList < b.cps.toList)(h2:¬b.cps.toList < a.cps.toList):a=b:=by
 obtain ⟨⟨x⟩⟩:=a
 obtain ⟨⟨y⟩⟩:=b
 have:x=y:=List.le_antisymm (List.not_lt.mp h2) (List.not_lt.mp h1)
 rw[this]
mutual
theorem lT_irr:∀(p:PV),pur p=true->lT p p=false
 | .int a,_=>by simp[lT]
 | .str a,_=>by simp[lT,List.lt_irrefl]
 | .tup ps,h=>by unfold pur at h;unfold lT;exact lTs_irr ps h
 | .non,_=>by simp[lT]
 | .bl _,_=>by simp[lT]
 | .lst _,_=>by simp[lT]
 | .dct _ _,_=>by simp[lT]
 | .dtt _ _,_=>by simp[lT]
 | .fn _,_=>by simp[lT]
 | .ty _,_=>by simp[lT]
theorem lTs_irr:∀(ps:List PV),purs ps=true->lTs ps ps=false
 | [],_=>by simp[lTs]
 | p::ps,h=>by
  unfold purs at h;rw[Ys] at h
  unfold lTs;rw[Zck h.1,if_pos rfl];exact lTs_irr ps h.2
end
mutual
theorem lT_tri:∀(p:PV) {q:PV},pur p=true->pur q=true->lT p q=false->lT q p=false->p=q
 | .int a,q,_,hq,h1,h2=>by
  cases q<;>simp[lT,pur] at h1 h2 hq ⊢
  lia
 | .str a,q,_,hq,h1,h2=>by
  cases q with
  | str b=>
   unfold lT at h1 h2
   have:a=b:=str_tri (of_decide_eq_false h1) (of_decide_eq_false h2)
   rw[this]
  | int _=>simp[lT] at h2
  | tup _=>simp[lT] at h1
  | _=>simp[pur] at hq
 | .tup ps,q,h,hq,h1,h2=>by
  unfold pur at h
  cases q with
  | tup qs=>unfold pur at hq;unfold lT at h1 h2;rw[lTs_tri ps h hq h1 h2]
  | int _=>simp[lT] at h2
  | str _=>simp[lT] at h2
  | _=>simp[pur] at hq
 | .non,q,h,_,_,_=>by simp[pur] at h
 | .bl _,q,h,_,_,_=>by simp[pur] at h
 | .lst _,q,h,_,_,_=>by simp[pur] at h
 | .dct _ _,q,h,_,_,_=>by simp[pur] at h
 | .dtt _ _,q,h,_,_,_=>by simp[pur] at h
 | .fn _,q,h,_,_,_=>by simp[pur] at h
 | .ty _,q,h,_,_,_=>by simp[pur] at h
theorem lTs_tri:∀(ps:List PV) {qs:List PV},purs ps=true->purs qs=true->lTs ps qs=false->lTs qs ps=false->ps=qs
 | [],qs,_,_,h1,h2=>by cases qs<;>simp[lTs] at h1 h2 ⊢
 | p::ps,qs,h,hq,h1,h2=>by
  unfold purs at h;rw[Ys] at h
  cases qs with
  | nil=>simp[lTs] at h2
  | cons q qs=>
   unfold purs at hq;rw[Ys] at hq
   unfold lTs at h1 h2
   by_cases e:p=q
   ·subst e
    rw[Zck h.1,if_pos rfl] at h1 h2
    rw[lTs_tri ps h.2 hq.2 h1 h2]
   ·rw[if_neg (fun z=>e ((Zbm p h.1 hq.1).mp z))] at h1
    rw[if_neg (fun z=>e ((Zbm q hq.1 h.1).mp z).symm)] at h2
    exact absurd (lT_tri p h.1 hq.1 h1 h2) e
end
mutual
theorem lT_tr:∀(p:PV) {q r:PV},pur p=true->pur q=true->pur r=true->lT p q=true->lT q r=true->lT p r=true
 | .int a,q,r,_,hq,hr,h1,h2=>by
  cases q<;>cases r<;>simp[lT,pur] at h1 h2 hq hr ⊢
  lia
 | .str a,q,r,_,hq,hr,h1,h2=>by
  cases q<;>cases r<;>simp[lT,pur] at h1 h2 hq hr ⊢
  exact List.lt_trans h1 h2
 | .tup ps,q,r,h,hq,hr,h1,h2=>by
  unfold pur at h
  cases q with
  | tup qs=>
   cases r with
   | tup rs=>unfold pur at hq hr;unfold lT at h1 h2 ⊢;exact lTs_tr ps h hq hr h1 h2
   | _=>simp[lT] at h2
  | _=>simp[lT] at h1
 | .non,q,r,h,_,_,_,_=>by simp[pur] at h
 | .bl _,q,r,h,_,_,_,_=>by simp[pur] at h
 | .lst _,q,r,h,_,_,_,_=>by simp[pur] at h
 | .dct _ _,q,r,h,_,_,_,_=>by simp[pur] at h
 | .dtt _ _,q,r,h,_,_,_,_=>by simp[pur] at h
 | .fn _,q,r,h,_,_,_,_=>by simp[pur] at h
 | .ty _,q,r,h,_,_,_,_=>by simp[pur] at h
theorem lTs_tr:∀(ps:List PV) {qs rs:List PV},purs ps=true->purs qs=true->purs rs=true->lTs ps qs=true->lTs qs rs=true->lTs ps rs=true
 | [],qs,rs,_,_,_,h1,h2=>by cases qs<;>cases rs<;>simp[lTs] at h1 h2 ⊢
 | p::ps,qs,rs,h,hq,hr,h1,h2=>by
  unfold purs at h;rw[Ys] at h
  cases qs with
  | nil=>simp[lTs] at h1
  | cons q qs=>
   cases rs with
   | nil=>simp[lTs] at h2
   | cons r rs=>
    unfold purs at hq hr;rw[Ys] at hq hr
    unfold lTs at h1 h2 ⊢
    by_cases e:p=q
    ·subst e
     rw[Zck h.1,if_pos rfl] at h1
     by_cases e2:p=r
     ·subst e2
      rw[Zck h.1,if_pos rfl] at h2 ⊢
      exact lTs_tr ps h.2 hq.2 hr.2 h1 h2
     ·have ne:=fun z=>e2 ((Zbm p h.1 hr.1).mp z)
      rw[if_neg ne] at h2 ⊢;exact h2
    ·rw[if_neg (fun z=>e ((Zbm p h.1 hq.1).mp z))] at h1
     by_cases e2:q=r
     ·subst e2
      rw[if_neg (fun z=>e ((Zbm p h.1 hq.1).mp z))];exact h1
     ·rw[if_neg (fun z=>e2 ((Zbm q hq.1 hr.1).mp z))] at h2
      have t:=lT_tr p h.1 hq.1 hr.1 h1 h2
      by_cases e3:p=r
      ·subst e3;rw[lT_irr p h.1] at t;cases t
      ·rw[if_neg (fun z=>e3 ((Zbm p h.1 hr.1).mp z))];exact t
end
mutual
theorem ltD_lT:∀(p:PV) {q:PV} {c:Bool},ltD p q=some c->c=lT p q
 | .int a,q,c,e=>by cases q<;>simp[ltD,lT] at e ⊢<;>exact e.symm
 | .str a,q,c,e=>by cases q<;>simp[ltD,lT] at e ⊢<;>exact e.symm
 | .tup ps,q,c,e=>by
  cases q with
  | tup qs=>unfold ltD at e;unfold lT;exact lexD_lT ps e
  | _=>simp[ltD] at e
 | .non,q,c,e=>by simp[ltD] at e
 | .bl _,q,c,e=>by simp[ltD] at e
 | .lst _,q,c,e=>by simp[ltD] at e
 | .dct _ _,q,c,e=>by simp[ltD] at e
 | .dtt _ _,q,c,e=>by simp[ltD] at e
 | .fn _,q,c,e=>by simp[ltD] at e
 | .ty _,q,c,e=>by simp[ltD] at e
theorem lexD_lT:∀(ps:List PV) {qs:List PV} {c:Bool},lexD ps qs=some c->c=lTs ps qs
 | [],qs,c,e=>by cases qs<;>simp[lexD,lTs] at e ⊢<;>simp[e]
 | p::ps,qs,c,e=>by
  cases qs with
  | nil=>simp[lexD,lTs] at e ⊢;simp[e]
  | cons q qs=>
   unfold lexD at e;unfold lTs
   split at e
   ·rename_i z;rw[if_pos z];exact lexD_lT ps e
   ·rename_i z;rw[if_neg z];exact ltD_lT p e
end
theorem ZcH:∀{ps:List PV},purs ps=true->∀p∈ps,pur p=true
 | [],_,p,hp=>by cases hp
 | q::ps,h,p,hp=>by
  unfold purs at h;rw[Ys] at h
  rcases Yn.mp hp with rfl | hp
  ·exact h.1
  ·exact ZcH h.2 p hp
theorem oP_eq {ps:List PV}(h1:1<=ps.length)(hc:cmpAll ps=true)(i j:Nat):oP ps i j=lT (ps.getD (min i (ps.length - 1)) .non) (ps.getD (min j (ps.length - 1)) .non):=by
 have mi:=Zce (ps:=ps) (i:=min i (ps.length - 1)) 1e2
 have mj:=Zce (ps:=ps) (i:=min j (ps.length - 1)) 1e2
 obtain ⟨c,e⟩:=Va.mp (YW.mp (YW.mp hc _ mi) _ mj)
 unfold oP;rw[e];exact ltD_lT _ e
theorem wk_of {ps:List PV}(h1:1<=ps.length)(hc:cmpAll ps=true)(hp:purs ps=true):Wk (oP ps):=by
 have P:∀i,pur (ps.getD (min i (ps.length - 1)) .non)=true:=fun i=>ZcH hp _ (Zce 1e2)
 have irr:∀a,oP ps a a=false:=fun a=>by rw[oP_eq h1 hc];exact lT_irr _ (P a)
 have asy:∀a b,oP ps a b=true->oP ps b a=false:=fun a b h=>by
  rw[oP_eq h1 hc] at h ⊢
  cases e:lT (ps.getD (min b (ps.length - 1)) .non) (ps.getD (min a (ps.length - 1)) .non) with
  | false=>rfl
  | true=>
   have t:=lT_tr _ (P a) (P b) (P a) h e
   rw[lT_irr _ (P a)] at t;cases t
 refine ⟨irr,asy,fun a b c h2 h3=>?_⟩
 rw[oP_eq h1 hc] at h2 h3 ⊢
 cases e:lT (ps.getD (min c (ps.length - 1)) .non) (ps.getD (min a (ps.length - 1)) .non) with
 | false=>rfl
 | true=>
  cases e2:lT (ps.getD (min a (ps.length - 1)) .non) (ps.getD (min b (ps.length - 1)) .non) with
  | true=>rw[lT_tr _ (P c) (P a) (P b) e e2] at h3;cases h3
  | false=>rw[lT_tri _ (P a) (P b) e2 h2] at e;rw[e] at h3;cases h3
theorem Zbl (ps:List PV):(Yl ps.length).map (fun i=>ps.getD i .non)=ps:=by
 apply Xa
 intro i
 rw[YL]
 by_cases hi:i < ps.length
 ·rw[VN hi];simp[hi]
 ·rw[Xs 11e1,Xs 1e2];rfl
theorem Zbn {ps:List PV}(hc:cmpAll ps=true)(hp:purs ps=true):(sortL ps).Perm ps:=by
 unfold sortL perm
 split
 ·rw[Zbl]
 ·rename_i h2
  have S:=(sort_ok (wk_of 1e2 hc hp) (n:=ps.length) 1e2).1
  have:=(WZ.mp S).map fun i=>ps.getD i .non
  rw[show (WT (Yl ps.length)).toList=Yl ps.length by simp,Zbl] at this
  exact this
def Rising (qs:List PV):Prop:=qs.Pairwise fun a b=>lT b a=false
theorem ZbD {ps:List PV}(hc:cmpAll ps=true)(hp:purs ps=true):Rising (sortL ps):=by
 unfold Rising sortL perm
 split
 ·rename_i h2
  rw[Zbl]
  match ps,h2 with
  | [],_=>exact .nil
  | [p],_=>exact List.pairwise_singleton _ _
 ·rename_i h2
  have W:=wk_of 1e2 hc hp
  have S:=(sort_ok W (n:=ps.length) 1e2).2
  have B:=Zcy (o:=oP ps) 16e1 (ZbC 1e2)
  rw[XR,List.pairwise_iff_getElem]
  intro i j hi hj hij
  have hz:(runT (oP ps) 16e1).size=ps.length:=B.2.1
  rw[YG] at hi hj
  have s:=S i j 1e2 1e2
  have g:∀k,k < (runT (oP ps) 16e1).size->(runT (oP ps) 16e1).getD k 0=(runT (oP ps) 16e1).toList[k]!:=fun k hk=>by
   rw[YI];simp[hk]
  rw[g i hi,g j hj] at s
  have b:∀k,(hk:k < (runT (oP ps) 16e1).toList.length)->(runT (oP ps) 16e1).toList[k]! = (runT (oP ps) 16e1).toList[k]:=fun k hk=>by
   rw[List.getElem!_eq_getElem?_getD,Yd hk];rfl
  rw[b i (by simpa using hi),b j (by simpa using hj)] at s
  have l:∀k,(hk:k < (runT (oP ps) 16e1).toList.length)->(runT (oP ps) 16e1).toList[k] < ps.length:=fun k hk=>B.2.2 _ (Y7 hk)
  have l1:=l i (by simpa using hi)
  have l2:=l j (by simpa using hj)
  rw[oP_eq 1e2 hc,WU 1e2,WU 1e2] at s
  exact s
theorem Zb9:∀{xs ys:List PV},purs xs=true->xs.Perm ys->Rising xs->Rising ys->xs=ys
 | [],ys,_,hp,_,_=>by rw[hp.symm.eq_nil]
 | x::xs,ys,h,hp,h1,h2=>by
  cases ys with
  | nil=>exact absurd hp.length_eq 3e8
  | cons y ys=>
   have hm:∀z∈x::xs,pur z=true:=ZcH h
   have my:pur y=true:=hm y (hp.mem_iff.mpr (.head _))
   have mx:pur x=true:=hm x (.head _)
   unfold Rising at h1 h2
   rw[List.pairwise_cons] at h1 h2
   have e:x=y:=by
    have a:lT y x=false:=by
     rcases Yn.mp (hp.mem_iff.mpr (YA (a:=y) (l:=ys))) with e | e
     ·rw[e];exact lT_irr _ mx
     ·exact h1.1 y e
    have b:lT x y=false:=by
     rcases Yn.mp (hp.mem_iff.mp (YA (a:=x) (l:=xs))) with e | e
     ·rw[e];exact lT_irr _ my
     ·exact h2.1 x e
    exact lT_tri x mx my b a
   subst e
   unfold purs at h;rw[Ys] at h
   rw[Zb9 h.2 (List.perm_cons _ |>.mp hp) h1.2 h2.2]
theorem sortL_eq {ps ys:List PV}(hc:cmpAll ps=true)(hp:purs ps=true)(e:ps.Perm ys)(r:Rising ys):sortL ps=ys:=by
 have pl:=Zbn hc hp
 refine Zb9 ?_ (pl.trans e) (ZbD hc hp) r
 have m:=ZcH hp
 have:∀{l:List PV},(∀p∈l,pur p=true)->purs l=true:=fun {l}=>by
  intro h
  induction l with
  | nil=>rfl
  | cons q l ih=>unfold purs;rw[h q (.head _),ih fun p hp=>h p (.tail _ hp)];rfl
 exact this fun p h=>m p (pl.mem_iff.mp h)
end Pu
namespace Pu
open PySem PySem.W PySem.Calls
open PyProof.Rows hiding St Fr
def RawD (h:Heap)(d:Addr)(es:Array Ua)(ep:Nat):Prop:=∃o,h.get? d=some o/\o.ExactDict/\o.data=.dict es ep
section
variable {prog:YC}{w:World}{A:Around}{E:1e5}{s:Shared}{d it:Addr}{es:Array Ua}{ep i:Nat}
theorem RawD.at {h h':Heap}(x:RawD h d es ep)(e:∀o,h.get? d=some o->h'.get? d=some o):RawD h' d es ep:=let ⟨o,ho,r⟩:=x;⟨o,e _ ho,r⟩
theorem RawD.ty (x:RawD s.heap d es ep):s.TypeIs (.ref d) "dict":=let ⟨o,ho,hc,_⟩:=x;⟨o,ho,hc.1⟩
theorem RawD.lt {h:Heap}(x:RawD h d es ep):d < h.objs.size:=let ⟨_,ho,_⟩:=x;Yv ho
theorem raw_iter {Q:1e5}(lo:(d==Wa)=false)(hm:RawD s.heap d es ep)
  (q:Q 9e5 { s with heap:=s.heap.push { cls:=.type "dict_keyiterator",data:=.fields #[.ref d,.int 0 0,.int es.size 0,.int ep 0] } }):wpAny (model prog w) A (pyIter (.ref d)) Q E s:=by
 obtain ⟨o1,b1,b2,b3⟩:=id hm
 have shows:Builtin.Dict.showsAll d=pure ():=by delta Builtin.Dict.showsAll;simp only[lo];rfl
 have own:∀{P:1e5} {B:1e5} {A':Around},P (.ref d) s->wpAny 2e5 A' (Builtin.Dict.dictSlotNone "__iter__" ⟨[.ref d],[]⟩) P B s:=fun z=>by
  delta Builtin.Dict.dictSlotNone
  exact Ya (wpAny_notOrdered_dict hm.ty (Yc z))
 apply Ud hm.ty F.slot_dict_iter
 apply Y9 F.slot_dict_iter hm.ty F.entry_dict_iter _ (F.args_dict_iter_1 _)
 delta W0.«dict.__iter__»
 apply Ya
 apply own
 repeat first
  | refine wpAny_of_eq shows ?_
  | refine wpAny_dictEntries b1 b3 ?_
  | refine wpAny_dictEpoch b1 b3 ?_
  | refine Xy ?_
  | apply Ya
  | apply Yc
 exact ⟨_,rfl,"dict_keyiterator",_,⟨_,Yo _ rfl,rfl⟩,WH.lookup,by simpa[rawInt] using q⟩
theorem raw_next {Q:Option Value->Shared->Prop}(hh:es[i]? = none->A.handled=none)(hit:s.heap.IsKeyIter it d i es.size ep)(hm:RawD s.heap d es ep)
  (q1:∀e,es[i]? = some e->∀h',h'.IsKeyIter it d (i + 1) es.size ep->Wc it s.heap h'->Q (some e.key) { s with heap:=h' })
  (q2:es[i]? = none->∀h',UQ it s.heap h'->Q none { s with heap:=h' }):wpAny (model prog w) A (pyNext (.ref it)) Q E s:=by
 obtain ⟨o1,a1,a2,a3⟩:=id hit
 obtain ⟨o2,b1,b2,b3⟩:=hm
 have one:Builtin.Dict_items.ownsTuple "dict_keyiterator"=false:=by decide
 have there:(YF d==XO)=false:=rfl
 delta pyNext
 apply Ya
 apply VI
 apply Xx (name:=WK "__next__") hit.typeIs WH
 apply Y9 WH hit.typeIs F.entry_dict_keyiterator_next _ (F.args_dict_keyiterator_next_1 _)
 repeat first
  | refine WC hit.typeIs ?_
  | refine Vu a1 a3 ?_
  | refine wpAny_dictEntries b1 b3 ?_
  | refine wpAny_dictEpoch b1 b3 ?_
  | simp only[one,there,bne_self_eq_false,YM,if_false]
  | apply Ya
  | apply Yc
 have up:¬(i:Int) < 0:=by lia
 simp only[up,if_false,XG]
 cases hx:es[i]? with
 | some e=>
  have on:(s.heap.update it (Wg (·.setIfInBounds 1 (rawInt ((i:Int) + 1))))).IsKeyIter it d (i + 1) es.size ep:=⟨_,Xr _ a1 (Wh (Xp a3 _)),(Vq ..).trans a2,by rw[Xp a3];simp[rawInt]⟩
  have ty:({ s with heap:=s.heap.update it (Wg (·.setIfInBounds 1 (rawInt ((i:Int) + 1)))) }:Shared).TypeIs (.ref it) "dict_keyiterator":=Heap.IsKeyIter.typeIs on
  dsimp only
  repeat first
   | refine WC hit.typeIs ?_
   | refine wpAny_isOneOf_keyiter hit.typeIs ?_
   | refine wpAny_isOneOf_keyiter ty ?_
   | simp only[one,YM,if_false,WQ]
   | refine Wj a1 a3 (by simp) ?_
   | apply Xc
   | apply Ya
   | apply Yc
  exact ⟨_,rfl,Yc (q1 e hx _ on (Xg ..))⟩
 | none=>
  have calm:A.in1.handled=none:=hh hx
  dsimp only
  repeat first
   | refine WC hit.typeIs ?_
   | simp only[one,YM,if_false,WQ]
   | refine Wj a1 a3 (by simp) ?_
   | refine wpAny_alloc' ?_
   | refine VO calm ?_
   | apply Ya
   | apply Yc
  refine wpAny_loadPart (Yo _ rfl) (Yc ?_)
  have stop:UT (.type "StopIteration") (.type "StopIteration")=pure true:=isSubtype_stop
  dsimp only
  rw[stop]
  exact Yc (Yc (q2 hx _ (((Xg ..).extBut.push _).push _)))
theorem raw_item {e:Ua}{Q:Option Value->Shared->Prop}(hit:s.heap.IsKeyIter it d i es.size ep)(hm:RawD s.heap d es ep)(hx:es[i]? = some e)
  (q:∀h',h'.IsKeyIter it d (i + 1) es.size ep->Wc it s.heap h'->Q (some e.key) { s with heap:=h' }):wpAny (model prog w) A (pyNext (.ref it)) Q E s:=
 raw_next (fun z=>by rw[hx] at z;cases z) hit hm (fun e' z=>by rw[hx] at z;cases z;exact q) fun z=>by rw[hx] at z;cases z
theorem raw_end {Q:Option Value->Shared->Prop}(hh:13e6)(hit:s.heap.IsKeyIter it d i es.size ep)(hm:RawD s.heap d es ep)(hx:es.size<=i)
  (q:∀h',UQ it s.heap h'->Q none { s with heap:=h' }):wpAny (model prog w) A (pyNext (.ref it)) Q E s:=
 raw_next (fun _=>hh) hit hm (fun e' z=>by rw[YK hx] at z;cases z) fun _=>q
theorem raw_walks (hh:13e6)(I:Addr)(hne:d≠I):
  Walks prog w A I [I,d] [I] es.size (fun i v=>∃e,es[i]? = some e/\v=e.key) (fun i h=>h.IsKeyIter I d i es.size ep/\RawD h d es ep) where
 sub:=fun b hb=>by rw[Yh.mp hb];exact YA
 frame:=fun _ _ _ st hk=>⟨st.1.at (hk I (.head _)),st.2.at (hk d (.tail _ (.head _)))⟩
 item:=fun i s Q E hi st hQ=>by
  have hx:es[i]? = some es[i]:=Yg hi
  exact raw_item st.1 st.2 hx fun h' k2 sb=>hQ _ h' s.toks ⟨_,hx,rfl⟩ ⟨k2,st.2.at fun o e=>sb.extBut d o hne e⟩ fun b o hb e=>sb.extBut b o (fun z=>hb (Yh.mpr z)) e
 done:=fun s Q E st hQ=>raw_end hh st.1 st.2 (Yj _) fun h' x=>hQ h' s.toks fun b o hb e=>x b o (fun z=>hb (Yh.mpr z)) e
 self:=fun _ _ _ _ st hQ=>wpAny_pyIter_keyiter st.1 hQ
theorem raw_src (lo:(d==Wa)=false):KdlSrc prog w "dict" d d es.size (fun i v=>∃e,es[i]? = some e/\v=e.key) (fun h=>RawD h d es ep) where
 type:=fun _ hm=>hm.ty
 there:=fun _ hm=>⟨hm.lt,hm.lt⟩
 keep:=fun _ _ hm hk=>hm.at (hk d 15e4)
 notList:=by decide
 notTuple:=by decide
 hint:=fun _ _ _ _ hm hq=>kdl_hint_dict hm.ty hq
 iter:=fun _ _ hh hm=>⟨_,_,fun _ _ hq=>raw_iter lo hm hq,raw_walks hh _ (Yq hm.lt),⟨_,Yo _ rfl,rfl,rfl⟩,hm.at fun o e=>Yb _ e⟩
end
section
variable {prog:YC}{w:World}{A:Around}{E:1e5}{s:Shared}{T:String}{r d:Addr}{n:Nat}{P:Nat->Value->Prop}{OK:Heap->Prop}
theorem ext_src {R:12e3}(K:KdlSrc prog w T r d n P OK)(hh:13e6)(hok:OK s.heap)(S:Addr)(hSr:S≠r)(hSd:S≠d)(c₀:Nat)(hS:s.heap.get? S=some { cls:=.type "list",data:=.seq #[] c₀ })(hn:n<=Yt)
  (hR:∀h' tk acc c,(∀b o,b≠S->s.heap.get? b=some o->h'.get? b=some o)->h'.get? S=some { cls:=.type "list",dict:=none,data:=.seq acc c,slots:=#[] }->UX P acc n->R (.ok (.ret (.ref S))) { s with heap:=h',toks:=tk }):
  XU 2e5 A (.builtin "list.__iadd__" ⟨[.ref S,.ref r],[]⟩) R s:=by
 refine WV Um ?_
 rw[Around.under_plainId (show plainId "list.__iadd__"=true by decide +kernel) _]
 exact kdl_extend K hh hok S hSr hSd (.ref S) c₀ hS hR hn
theorem Zdj {Q:List Value->Shared->Prop}(K:KdlSrc prog w T r d n P OK)(hh:13e6)(hok:OK s.heap)(hn:n<=Yt)
  (h:∀h' tk acc,(∀b o,s.heap.get? b=some o->h'.get? b=some o)->s.heap.objs.size<=h'.objs.size->UX P acc n->Q acc.toList { s with heap:=h',toks:=tk }):wpAny (model prog w) A (UD (.ref r)) Q E s:=by
 unfold UD
 refine Ya (wpAny_runValue (WV VD ?_))
 refine Ya (Wx (Yc ⟨V4 _ 7e9,?_⟩))
 have hS:(s.heap.push (seqObj "list" #[] 0)).get? s.heap.objs.size=some { cls:=.type "list",data:=.seq #[] 0 }:=Yo _ rfl
 have hlt:=K.there _ hok
 refine ext_src (s:={ s with heap:=s.heap.push (seqObj "list" #[] 0) }) K hh (K.keep _ _ hok fun b _ o e=>Yb _ e) s.heap.objs.size (X0 hlt.1) (X0 hlt.2) 0 hS hn fun h' tk acc c k e ai=>?_
 refine Ya (wpAny_load e ?_)
 exact Yc (h h' tk acc (fun b o z=>k b o (Yq (Yv z)) (Yb _ z)) (XA (Yv e)) ai)
end
section
variable {prog:YC}{w:World}{A:Around}{E:1e5}{s:Shared}{vs:4e1}{κ:VG}{o:15e1}
theorem Zco {v:Value}{Q:1e5}(hcol:∀(Q':List Value->Shared->Prop),(∀h1 tk,(∀b u,s.heap.get? b=some u->h1.get? b=some u)->s.heap.objs.size<=h1.objs.size->Q' vs { s with heap:=h1,toks:=tk })->wpAny (model prog w) A.in1 (UD v) Q' E s)(h64:vs.length < 64)
  (hk:2<=vs.length->∀h' tk,7e3->∀Q:VG->Shared->Prop,Q κ { s with heap:=h',toks:=tk }->wpAny (model prog w) A.in1.in1 (keyKind' vs.toArray) Q (fun _ _=>False) { s with heap:=h',toks:=tk })
  (hc:2<=vs.length->∀h' tk,7e3->∀i j (C:8e2),i < vs.length->j < vs.length->C (o i j) { s with heap:=h',toks:=tk }->kas_ask prog w A.in1.in1 κ vs i j C { s with heap:=h',toks:=tk })
  (h:∀D h' tk c,s.heap.objs.size<=D->7e3->h'.get? D=some (seqObj "list" (outs2 o vs).toArray c)->Q (.ref D) { s with heap:=h',toks:=tk }):
  wpAny 2e5 A (call (.builtin "sorted") [v]) Q E s:=by
 refine W4 kind_sorted plain_sorted entry_sorted (args_sorted1 _) ?_
 unfold W0.«sorted»
 refine Ya (m:=checkCount "sorted" 1 1 _) (Yc ?_);refine Ya (hcol _ fun h1 tk kp hle=>?_)
 refine Ya (Wx ?_ (by rw[YU];lia))
 have hoL:(h1.push 10e7).get? h1.objs.size=some 10e7:=Yo _ rfl
 have keep:∀b u,s.heap.get? b=some u->(h1.push 10e7).get? b=some u:=fun b u e=>Yb _ (kp b u e)
 have kb:∀h',KeepBut h1.objs.size (h1.push 10e7) h'->∀b u,s.heap.get? b=some u->h'.get? b=some u:=fun h' k b u e=>
  k b u (Yq (Yk (Yv e) hle)) (keep b u e)
 show wpAny _ _ _ _ _ { s with heap:=h1.push (seqObj "list" vs.toArray 0),toks:=tk }
 refine Ya (Xc (Y9 slot_list_sort ⟨_,hoL,rfl⟩ entry_list_sort ?body (args_list_sort _)))
 case body=>
  by_cases h2:vs.length < 2
  ·refine Zc7 (s:={ s with heap:=h1.push (seqObj "list" vs.toArray 0),toks:=tk }) hoL h2 fun h' c k e=>⟨_,rfl,Yc ⟨_,rfl,h _ h' tk c hle (kb h' k) ?_⟩⟩
   unfold outs2;rw[if_pos h2];exact e
  ·refine lsort_at (s:={ s with heap:=h1.push (seqObj "list" vs.toArray 0),toks:=tk }) (κ:=κ) (o:=o) hoL (by lia) h64 (fun h' k=>hk (by lia) h' tk (kb h' k)) (fun h' k=>hc (by lia) h' tk (kb h' k)) fun h' c k e=>⟨_,rfl,Yc ⟨_,rfl,h _ h' tk c hle (kb h' k) ?_⟩⟩
   unfold outs2;rw[if_neg h2];exact e
end
end Pu
namespace Pu
open PySem PySem.Spec PySem.W PySem.Calls L2 PySem.SeqAt
open PyProof.Rows hiding St Fr
def tupK (k:9e7):PV:=.tup (k.map kP)
def keyOk:Key->Bool
 | .inl _=>true
 | .inr x=>decide (x.length<=1000)
def keysOk (ks:4e9):Bool:=ks.all fun k=>k.all keyOk
theorem rep_kP {K:W.Frag}{ι:3e7}{H:Hp}:∀{k:Key},keyOk k=true->Rep K ι H (kP k) (kV k)
 | .inl i,_=>repI
 | .inr x,h=>repS (k1000 (of_decide_eq_true h))
theorem reps_kP {K:W.Frag}{ι:3e7}{H:Hp}:∀{k:9e7},k.all keyOk=true->Reps K ι H (k.map kP) (k.map kV)
 | [],_=>.nil
 | x::k,h=>by
  rw[Vj,Ys] at h
  exact .cons (rep_kP h.1) (reps_kP h.2)
theorem rep_tupK {K:W.Frag}{ι:3e7}{H:Hp}{k:9e7}{b:Addr}(h:k.all keyOk=true)(e:H b=some (.tup (k.map kV))):Rep K ι H (tupK k) (.ref b):=by
 unfold tupK Rep;exact ⟨b,_,rfl,e,reps_kP h⟩
theorem kt_reps {K:W.Frag}{ι:3e7}{H:Hp}{kvs:List (List Key×V)}{xs:List 13e8}(r:KT H kvs xs)(h:keysOk (kvs.map (·.1))=true):Reps K ι H (kvs.map fun q=>tupK q.1) (xs.map fun x=>V.ref x.2.1):=by
 induction r with
 | nil=>exact .nil
 | @cons p q ps qs a t ih=>
  rw[Yw] at h
  unfold keysOk at h
  rw[Vj,Ys] at h
  exact .cons (rep_tupK h.1 a.2.1) (ih h.2)
theorem ZcP:∀(xs:List 13e8),Vals (xs.map fun x=>V.ref x.2.1) (xs.map fun x=>YF x.2.1)
 | []=>.nil
 | x::xs=>.cons rfl (ZcP xs)
theorem items_raw {xs:List 13e8}{es:Array Ua}{prog:YC}{w:World}{acc:Array Value}(he:es.toList=xs.map (entryOfKey (WI (mixKind prog w))))(h:UX (fun i v=>∃e,es[i]? = some e/\v=e.key) acc es.size):acc.toList=xs.map fun x=>YF x.2.1:=by
 have hl:es.size=xs.length:=size_of_entries he
 apply Xa
 intro i
 rw[Y3,YL]
 by_cases hi:i < acc.size
 ·obtain ⟨e,e1,e2⟩:=h.2 i _ (Yg hi)
  rw[Yg hi,e2]
  rw[entry_at he] at e1
  cases hx:xs[i]? with
  | none=>rw[hx] at e1;cases e1
  | some x=>rw[hx] at e1;cases e1;rfl
 ·rw[YK 1e2,Xs (by have:=h.1;lia)];rfl
section
variable {X:Cx}
def rSortedD (K:W.Frag):List V->Hp->VK->Prop:=fun xs H Q=>∃p kvs,xs=[.ref p]/\Rd H p (.dT kvs)/\keysOk (kvs.map (·.1))=true/\(sortP (kvs.map fun q=>tupK q.1)).isSome=true/\
 ∀ys:List V,(∀ι,Reps K ι H (kvs.map fun q=>tupK q.1) ys)->∀l,H l=none->Q (.ref l) (upd H l (.lst (sortV (kvs.map fun q=>tupK q.1) ys)))
theorem call_sortedD (hcm:9e9)(hu:8e3):CallR X (.builtin "sorted") (rSortedD X.K):=by
 intro pins s σ H xs us Q I r h
 obtain ⟨p,kvs,rfl,hq,hko,hs,q⟩:=h
 obtain ⟨u,rfl,rx⟩:=vals1 r
 cases rx
 obtain ⟨hz,lo,xs,kt,o,es,ep,ho,hex,hda,he,his,hnd⟩:=dt_rd I.hok hq
 have hl:es.size=xs.length:=size_of_entries he
 have hkl:kvs.length=xs.length:=Vd kt
 generalize hps:(kvs.map fun q=>tupK q.1)=ps at hs q
 have hpl:ps.length=kvs.length:=by rw[←hps,YE]
 have rs:∀ι,Reps X.K ι H ps (xs.map fun x=>V.ref x.2.1):=fun ι=>by rw[←hps];exact kt_reps kt hko
 unfold sortP at hs
 split at hs
 ·rename_i hh
  simp only[Ys,decide_eq_true_eq] at hh
  obtain ⟨⟨⟨⟨hd,hde⟩,h64⟩,hso⟩,hcm'⟩:=hh
  have hr:=Reps.heap I ps (rs []) (ZcP xs) hd
  have hvl:(xs.map fun x=>YF x.2.1).length=ps.length:=by rw[YE];lia
  refine Zco (vs:=xs.map fun x=>YF x.2.1) (κ:=kindP ps) (o:=oP ps) (fun Q' q'=>?_) 1e2 (fun h2 h' tk k Q' q'=>?_) (fun h2 h' tk k i j C hi hj hC=>?_) (fun D h' tk c hD k e=>?_)
  ·refine Zdj (raw_src (es:=es) (ep:=ep) lo) (I.ok.hd hcm) ⟨o,ho,hex,hda⟩ (by rw[YU];lia) fun h' tk acc k hle ai=>?_
   rw[items_raw he ai]
   exact q' h' tk k hle
  ·exact Zc9 (s:={ s with heap:=h',toks:=tk }) (hr.keep k) h2 hso q'
  ·exact ask_of (s:={ s with heap:=h',toks:=tk }) (hr.keep k) hso hcm' (by rw[YT,YT];lia) hi hj hC
  ·rw[Zcc hvl.symm] at e
   refine ⟨.ref D,_,I.laid (t':=tk) k hD (show ObjOk X.prog X.w _ h' _ (.lst (sortV ps (xs.map fun x=>V.ref x.2.1))) from ⟨?_,sortU ps (xs.map fun x=>YF x.2.1),c,?_,e⟩),rfl,q _ rs _ (I.hok.fresh hD)⟩
   ·unfold sortV
    rw[YE]
    have:(perm ps).length<=64:=by
     unfold perm
     split
     ·rw[X3];lia
     ·rw[YG,(Zcy (o:=oP ps) 16e1 (ZbC 1e2)).2.1];lia
    exact YR this (by rw[YU];decide)
   ·exact ZbM (ZcP xs) fun i hi=>by have:=Zbk i hi;lia
 ·cases hs
theorem collect_tup {prog:YC}{w:World}{A:Around}{E:1e5}{s:Shared}{l:Addr}{vs:4e1}{Q:List Value->Shared->Prop}(ht:s.heap.IsTuple l vs.toArray)(hsz:vs.length<=Yt)
  (h:∀h',(∀b o,s.heap.get? b=some o->h'.get? b=some o)->s.heap.objs.size<=h'.objs.size->Q vs { s with heap:=h' }):wpAny (model prog w) A (UD (.ref l)) Q E s:=by
 obtain ⟨o,ho,hc,n,hd⟩:=ht
 have new:(s.heap.push (seqObj "list" #[] 0)).get? s.heap.objs.size=some (seqObj "list" #[] 0):=Yo _ rfl
 have hk:=Yb (seqObj "list" #[] 0) ho
 unfold UD
 refine Ya (wpAny_runValue (WV VD (Ya (Wx (Yc ⟨V4 _ 7e9,WV Um ?_⟩)))))
 show wpAny _ _ (Xu 9e5 (.ref l) 9e5) _ _ { s with heap:=s.heap.push (seqObj "list" #[] 0) }
 unfold Xu
 refine Ya (WL (T:="tuple") ⟨o,hk,hc⟩ ?_)
 have yes:(XV 9e5 (.ref l)||XQ "tuple"==XQ "list"||XQ "tuple"==XQ "tuple")=true:=by rw[show (XQ "tuple"==XQ "tuple")=true by rfl,Bool.or_true]
 rw[if_pos yes]
 refine Ya (UC hk hd (Ya (UC new rfl ?_)))
 rw[if_neg 3e8];refine Ya (VH new rfl ?_ (YV _) (by show (#[]++vs.toArray).size<=Yt + 1;simp;lia))
 have e2:=Wr new (fun a=>a++vs.toArray)
 refine Yc (Ya (wpAny_load e2 ?_))
 show wpAny _ _ (pure ((#[]:Array Value)++vs.toArray).toList) Q E _
 rw[show ((#[]:Array Value)++vs.toArray).toList=vs by simp]
 refine Yc (h _ (fun b u e=>?_) ?_)
 ·rw[XF _ _ _ _ (Yq (Yv e))];exact Yb _ e
 ·rw[Heap.size_update,size_push'];lia
def rSortedT (K:W.Frag):List V->Hp->VK->Prop:=fun xs H Q=>∃p ys ι ps,xs=[.ref p]/\SqT K H p ys/\Reps K ι H ps ys/\(sortP ps).isSome=true/\∀l,H l=none->Q (.ref l) (upd H l (.lst (sortV ps ys)))
theorem call_sortedT (hu:8e3):CallR X (.builtin "sorted") (rSortedT X.K):=by
 intro pins s σ H xs us Q I r h
 obtain ⟨p,ys,ι,ps,rfl,hq,rs,hs,q⟩:=h
 obtain ⟨u,rfl,rx⟩:=vals1 r
 cases rx
 obtain ⟨its,r',pl,hz⟩:=I.tuple hq
 unfold sortP at hs
 split at hs
 ·rename_i hh
  simp only[Ys,decide_eq_true_eq] at hh
  obtain ⟨⟨⟨⟨hd,hde⟩,h64⟩,hso⟩,hcm⟩:=hh
  have hr:=Reps.heap I ps rs r' hd
  have hl:=hr.length
  have hyl:=r'.length
  refine Zco (vs:=its) (κ:=kindP ps) (o:=oP ps) (fun Q' q'=>collect_tup pl (by rw[YU];lia) fun h' k hle=>q' h' s.toks k hle) 1e2 (fun h2 h' tk k Q' q'=>?_) (fun h2 h' tk k i j C hi hj hC=>?_) (fun D h' tk c hD k e=>?_)
  ·exact Zc9 (s:={ s with heap:=h',toks:=tk }) (hr.keep k) h2 hso q'
  ·exact ask_of (s:={ s with heap:=h',toks:=tk }) (hr.keep k) hso hcm (by rw[YT,YT];lia) hi hj hC
  ·rw[Zcc hl] at e
   refine ⟨.ref D,_,I.laid (t':=tk) k hD (show ObjOk X.prog X.w _ h' _ (.lst (sortV ps ys)) from ⟨?_,sortU ps its,c,?_,e⟩),rfl,q _ (I.hok.fresh hD)⟩
   ·unfold sortV
    rw[YE]
    have:(perm ps).length<=64:=by
     unfold perm
     split
     ·rw[X3];lia
     ·rw[YG,(Zcy (o:=oP ps) 16e1 (ZbC 1e2)).2.1];lia
    exact YR this (by rw[YU];decide)
   ·exact ZbM r' fun i hi=>by have:=Zbk i hi;lia
 ·cases hs
def sortedH2 (C:Cs):List SV->Option 13e5
 | [x]=>match deref C x with
  | some (.lst xs)=>sortP xs
  | some (.tup xs)=>sortP xs
  | some (.dtt ks _)=>if keysOk ks then sortP (ks.map tupK) else none
  | _=>none
 | _=>none
def mSorted2 (fs:2e9):PSt->M 13e5:=fun ρ=>bnd (fs ρ) fun xs=>opM fun C=>sortedH2 C xs
theorem fm_sorted2 {e:Expr}{es:5e9}{fs:2e9}{p pos:Pos}(hcm:9e9)(hu:8e3)(hgl:Gl X "sorted")(hm:X.mg "sorted"=none)(hv:Xb "sorted"=some (.builtin "sorted"))(ha:AM X 6e8 fs)
  (he:1e8:=by rfl) (hpl:2e8:=by rfl):FM X (.Call (.Name "sorted" p) 6e8 [] pos) (mSorted2 fs):=
 PE.imp (pe_callB ((call_sorted hu).or ((call_sortedT hu).or (call_sortedD hcm hu))) hgl hm hv ha 1e1 1e1 he hpl) fun σ H Q h_=>by
  sleep 11
  sleep 9
  obtain ⟨e2,rfl⟩:=ZaN e
  refine ⟨ι,ρ,C,xs,_,sr,e1,fun vs H1 f1 c1 r1=>?_⟩
  unfold sortedH2 at e2
  split at e2
  ·rename_i x
   obtain ⟨v,w,rfl,r1,hw⟩:=r1
   cases (show w=[] from hw)
   split at e2
   ·rename_i ps hd
    obtain ⟨a,ws,rfl,h1,r2⟩:=liesL (r1.lies c1 hd)
    refine .inl ⟨a,ws,ι,ps,rfl,h1,r2,by rw[e2];rfl,fun l hl=>?_⟩
    refine q l _ H1 f1 c1 hl ?_
    rw[ZbN e2]
    exact ZbQ r2 fun i hi=>Zbk i hi
   ·rename_i ps hd
    obtain ⟨a,ws,rfl,h1,r2⟩:=liesT (r1.lies c1 hd)
    refine .inr (.inl ⟨a,ws,ι,ps,rfl,h1.sq,r2,by rw[e2];rfl,fun l hl=>?_⟩)
    refine q l _ H1 f1 c1 hl ?_
    rw[ZbN e2]
    exact ZbQ r2 fun i hi=>Zbk i hi
   ·rename_i ks ps hd
    have li:=r1.lies c1 hd
    cases li with
    | @dtt a _ _ ws h1 hl r2=>
     by_cases hk:keysOk ks=true
     ·rw[if_pos hk] at e2
      have ek:((ks.zip ws).map fun q=>tupK q.1)=ks.map tupK:=by
       have:(ks.zip ws).map UJ=ks:=W7 1e2
       exact (Xf (f:=UJ) (g:=tupK) (l:=ks.zip ws)).symm.trans (by rw[this])
      have ef:(ks.zip ws).map (·.1)=ks:=W7 1e2
      refine .inr (.inr ⟨a,ks.zip ws,rfl,h1,by rw[ef];exact hk,by rw[ek,e2];rfl,fun ys ry l hl=>?_⟩)
      refine q l _ H1 f1 c1 hl ?_
      rw[ZbN e2,ek]
      have ry':=ry ι
      rw[ek] at ry'
      exact ZbQ ry' fun i hi=>Zbk i hi
     ·rw[if_neg hk] at e2;cases e2
   ·cases e2
  ·cases e2
end
def inK {κ:Type} [DecidableEq κ](k:κ)(ks:List κ):Bool:=ks.any fun a=>decide (a=k)
def putKs {κ:Type} [DecidableEq κ](ks:List κ)(k:κ):List κ:=if inK k ks then ks else ks++[k]
def putVs {κ:Type} [DecidableEq κ]{α:Type}(ks:List κ)(xs:List α)(k:κ)(x:α):List α:=if inK k ks then (ks.zip xs).map (fun q=>if q.1=k then x else q.2) else xs++[x]
theorem ZbK {κ:Type} [DecidableEq κ]{k:κ}{ks:List κ}:inK k ks=true↔k∈ks:=by
 unfold inK;rw[VB]
 constructor
 ·rintro ⟨a,h,e⟩;rw[←of_decide_eq_true e];exact h
 ·intro h;exact ⟨k,h,decide_eq_true rfl⟩
theorem ZcO {κ:Type} [DecidableEq κ]{k:κ}{v:V}:∀{ks:List κ} {vs:List V},ks.length=vs.length->((ks.zip vs).map fun kv=>if kv.1=k then (kv.1,v) else kv)=ks.zip ((ks.zip vs).map fun q=>if q.1=k then v else q.2)
 | [],vs,_=>by simp
 | a::ks,[],h=>by simp at h
 | a::ks,b::vs,h=>by
  rw[Xe,Yw,Yw,Xe,ZcO 13e1]
  by_cases e:a=k
  ·simp[e]
  ·simp[e]
theorem zip_any {κ:Type} [DecidableEq κ]{k:κ}:∀{ks:List κ} {vs:List V},ks.length=vs.length->((ks.zip vs).any fun kv=>decide (kv.1=k))=inK k ks
 | [],vs,_=>by simp[inK]
 | a::ks,[],h=>by simp at h
 | a::ks,b::vs,h=>by
  rw[Xe,Xz,zip_any 13e1]
  unfold inK;rw[Xz]
theorem put_zip {κ:Type} [DecidableEq κ]{k:κ}{v:V}{ks:List κ}{vs:List V}(h:ks.length=vs.length):putK (ks.zip vs) k v=(putKs ks k).zip (putVs ks vs k v)/\(putKs ks k).length=(putVs ks vs k v).length:=by
 unfold putK putKs putVs
 rw[zip_any h]
 cases e:inK k ks with
 | true=>
  simp only[if_true]
  refine ⟨ZcO h,?_⟩
  rw[YE,VP];lia
 | false=>
  simp only[YM,if_false]
  refine ⟨?_,by simp[h]⟩
  rw[List.zip_append h];rfl
theorem reps_put {κ:Type} [DecidableEq κ]{K:W.Frag}{ι:3e7}{H:Hp}{k:κ}{p:PV}{v:V}(hp:Rep K ι H p v){ks:List κ}{ps:List PV}{vs:List V}(r:Reps K ι H ps vs):Reps K ι H (putVs ks ps k p) (putVs ks vs k v):=by
 unfold putVs
 by_cases e:inK k ks=true
 ·rw[if_pos e,if_pos e]
  clear e
  induction ks generalizing ps vs with
  | nil=>simp;exact .nil
  | cons a ks ih=>
   cases ps with
   | nil=>rw[r.inv0];simp;exact .nil
   | cons q ps=>
    obtain ⟨w,ws,rfl,h1,h2⟩:=r.inv
    rw[Xe,Xe,Yw,Yw]
    refine .cons ?_ (ih h2)
    by_cases z:a=k
    ·simp only[z,if_true];exact hp
    ·simp only[z,if_false];exact h1
 ·rw[if_neg e,if_neg e];exact r.append (.cons hp .nil)
def dFold {α:Type}:List (List Key×α)->List (List Key)->List α->List (List Key)×List α
  | [],ks,xs=>(ks,xs)
  | (k,x)::r,ks,xs=>dFold r (putKs ks k) (putVs ks xs k x)
def keysP:List PV->Option (List Key)
 | []=>some []
 | p::r=>match keyP p,keysP r with
  | some k,some ks=>some (k::ks)
  | _,_=>none
def pairP:PV->Option (List Key×PV)
 | .tup [.tup qs,v]=>(keysP qs).map fun k=>(k,v)
 | _=>none
section
variable {K:W.Frag}{ι:3e7}{H:Hp}
theorem rep_key {x:PV}{v:V}{q:Key}(l:Rep K ι H x v)(h:keyP x=some q):v=kV q:=lies_key (Rep.lies l) h
theorem ZcZ:∀{qs:List PV} {ws:List V} {k:9e7},Reps K ι H qs ws->keysP qs=some k->ws=k.map kV
 | [],ws,k,r,e=>by cases e;exact r.inv0
 | p::qs,ws,k,r,e=>by
  obtain ⟨v,w,rfl,h1,h2⟩:=r.inv
  unfold keysP at e
  split at e
  ·rename_i a b e1 e2
   cases e
   rw[rep_key h1 e1,ZcZ h2 e2];rfl
  ·cases e
theorem Zb1 {qs:List PV}{k:9e7}{v:V}(r:Rep K ι H (.tup qs) v)(e:keysP qs=some k):∃b,v=.ref b/\H b=some (.tup (k.map kV)):=by
 unfold Rep at r
 obtain ⟨b,ws,rfl,h,rs⟩:=r
 rw[ZcZ rs e] at h
 exact ⟨b,rfl,h⟩
end
section
variable {X:Cx}{e o i:Expr}{es:5e9}{fs:2e9}{p pos pos':Pos}{x:Str}{fv fo fi:4e3}
def mNewT (i:Nat):PSt->M PF:=fun ρ C=>some (.nx (ρ.set i (some (.c C.length))),C++[.dtt [] []])
def setT (v o i:SV)(ρ:PSt):M PF:=fun C=>match o,i,v with
 | .c k,.v (.tup qs),.v p=>match C[k]?,keysP qs with
  | some (.dtt ks ps),some key=>if ks.length < 1000 then some (.nx ρ,C.set k (.dtt (putKs ks key) (putVs ks ps key p))) else none
  | _,_=>none
 | _,_,_=>none
def mSetIxT (fv fo fi:4e3):PSt->M PF:=fun ρ=>bnd (fv ρ) fun v=>bnd (fo ρ) fun o=>bnd (fi ρ) fun i=>setT v o i ρ
theorem setT_some {v o i:SV}{ρ:PSt}{C C2:Cs}{fl:PF}(h:setT v o i ρ C=some (fl,C2)):∃k qs p ks ps key,o=.c k/\i=.v (.tup qs)/\v=.v p/\C[k]? = some (.dtt ks ps)/\keysP qs=some key/\ks.length < 1000/\fl=.nx ρ/\C2=C.set k (.dtt (putKs ks key) (putVs ks ps key p)):=by
 unfold setT at h
 split at h
 ·split at h
  ·split at h
   ·cases h;exact ⟨_,_,_,_,_,_,rfl,rfl,rfl,by assumption,by assumption,by assumption,rfl,rfl⟩
   ·cases h
  ·cases h
 ·cases h
end
def lookT:List (List Key)->List PV->List Key->Option PV
 | k::ks,v::vs,q=>if k=q then some v else lookT ks vs q
 | _,_,_=>none
theorem lookT_rep {K:W.Frag}{ι:3e7}{H:Hp}{q:9e7}:∀{ks:4e9} {ps:List PV} {vs:List V},ks.length=vs.length->Reps K ι H ps vs->
  (∀z,lookT ks ps q=some z->∃v,valV (ks.zip vs) q=some v/\Rep K ι H z v)/\(valV (ks.zip vs) q).isSome=inK q ks:=by
 intro ks
 induction ks with
 | nil=>
  intro ps vs hl r
  refine ⟨fun z h=>?_,rfl⟩
  cases ps<;>cases h
 | cons k ks ih=>
  intro ps vs hl r
  cases ps with
  | nil=>rw[r.inv0] at hl;cases hl
  | cons p ps=>
   obtain ⟨v,w,rfl,h1,h2⟩:=r.inv
   have ih:=ih (by simpa using hl) h2
   rw[Xe]
   unfold lookT inK
   rw[Xz]
   by_cases h:k=q
   ·rw[if_pos h,Zb6 (p:=(k,v)) h,decide_eq_true h]
    exact ⟨fun z e=>by cases e;exact ⟨v,rfl,h1⟩,rfl⟩
   ·rw[if_neg h,Zb7 (p:=(k,v)) h,decide_eq_false h]
    exact ⟨ih.1,by rw[ih.2];rfl⟩
theorem dgetT {H:Hp}{a b:Addr}{kvs:List (List Key×V)}{k:9e7}(e:Rd H a (.dT kvs))(eb:H b=some (.tup (k.map kV))):DGet H a (.ref b) (valV kvs k):=.inr ⟨kvs,k,b,e,rfl,eb,rfl⟩
theorem liesTT {K:W.Frag}{ι:3e7}{H:Hp}{ks:4e9}{ps:List PV}{v:V}(l:Lies K ι H (.dtt ks ps) v):∃(a:Addr) (vs:List V),v=.ref a/\Rd H a (.dT (ks.zip vs))/\ks.length=vs.length/\Reps K ι H ps vs:=by
 cases l;exact ⟨_,_,rfl,by assumption,by assumption,by assumption⟩
theorem lies_keys {K:W.Frag}{ι:3e7}{H:Hp}{qs:List PV}{k:9e7}{v:V}(l:Lies K ι H (.tup qs) v)(e:keysP qs=some k):∃b,v=.ref b/\H b=some (.tup (k.map kV)):=by
 obtain ⟨b,ws,rfl,h,rs⟩:=liesT l
 rw[ZcZ rs e] at h
 exact ⟨b,rfl,h⟩
def inTP (neg:Bool)(x y:PV):Option PV:=match x,y with
 | .tup qs,.dtt ks _=>match keysP qs with
  | some k=>some (.bl (if neg then !inK k ks else inK k ks))
  | none=>none
 | _,_=>none
section
variable {X:Cx}{a b:Expr}{fa fb:4e3}{pos:Pos}
def rInT (neg:Bool):R2:=fun x y H Q=>∃p o,y=.ref p/\DGet H p x o/\Q (.bl (if neg then !o.isSome else o.isSome)) H
theorem op_inT (hu:8e3):OpR X (XT .In) (rInT false):=by
 sleep 5
 obtain ⟨p,o,rfl,g,q⟩:=h
 cases ry
 exact d_in 1e2 I g rx fun s' I'=>⟨.bl o.isSome,H,I',rfl,q⟩
theorem op_notInT (hu:8e3):OpR X (XT .NotIn) (rInT true):=by
 sleep 5
 obtain ⟨p,o,rfl,g,q⟩:=h
 cases ry
 exact d_notIn 1e2 I g rx fun s' I'=>⟨.bl (!o.isSome),H,I',rfl,q⟩
theorem inT_ok {neg:Bool}:L2ok X.K (rInT neg) (inTP neg):=by
 sleep 13
 unfold inTP at e
 split at e
 ·split at e
  ·rename_i key hk
   cases e
   obtain ⟨b,rfl,hb⟩:=lies_keys lx hk
   obtain ⟨a,vs,rfl,hd,hl,r⟩:=liesTT ly
   refine ⟨a,_,rfl,dgetT hd hb,?_⟩
   rw[(lookT_rep hl r).2]
   exact k _ H .refl cr repBl
  ·cases e
 ·cases e
def ixT (x y:PV):Option PV:=match x with
 | .dtt ks vs=>match y with
  | .tup qs=>match keysP qs with
   | some q=>lookT ks vs q
   | none=>none
  | _=>none
 | x=>ixQ x y
end
end Pu
namespace Se
open PySem PySem.Spec L2
section
variable {prog:YC}{w:World}{A:Around}{E:1e5}{s:Shared}
theorem TI.fresh (led:Bool):TI (.fresh 0 0 led) #[]:=⟨⟨.inl rfl,rfl,fun a b x y _ h=>by simp[SetTable.fresh] at h,rfl,fun i j h=>by simp[SetTable.fresh] at h,fun i j e h=>by simp[SetTable.fresh] at h⟩,by show 0 * 5 < 7 * 3;decide⟩
end
end Se
namespace Se
open PySem PySem.SetTable
section
variable {prog:YC}{w:World}{K:Type} [DecidableEq K]{knd:KeyKind prog w K}{A:Around}{E:1e5}{s:Shared}
def SetU (knd:KeyKind prog w K)(h:Heap)(a:Addr)(L:Bool)(bs:List (List K×Addr)):Prop:=∃o es ep t,h.get? a=some o/\o.ExactSet/\o.data=.set es ep t/\t.led=L/\TI t es/\(bs.map (·.1)).Nodup/\
 es.toList.Perm (bs.map fun p=>(Yr knd p.1,YF p.2))
def insU (bs:List (List K×Addr))(k:List K)(x:Addr):List (List K×Addr):=if k∈bs.map (·.1) then bs else bs++[(k,x)]
theorem insU_in {bs:List (List K×Addr)}{k:List K}{x:Addr}(h:k∈bs.map (·.1)):insU bs k x=bs:=if_pos h
theorem insU_new {bs:List (List K×Addr)}{k:List K}{x:Addr}(h:k∉bs.map (·.1)):insU bs k x=bs++[(k,x)]:=if_neg h
theorem SetU.at {h h':Heap}{a:Addr}{L:Bool}{bs:List (List K×Addr)}(x:SetU knd h a L bs)(g:∀o,h.get? a=some o->h'.get? a=some o):SetU knd h' a L bs:=by
 obtain ⟨o,es,ep,t,ho,r⟩:=x
 exact ⟨o,es,ep,t,g _ ho,r⟩
theorem addU {a x:Addr}{k:List K}{bs:List (List K×Addr)}{L:Bool}{Q:8e2}(hu:4e6)(hS:SetU knd s.heap a L bs)(hbk:∀p∈bs,X1 knd s.heap p.1 p.2)(hk:X1 knd s.heap k x)(hroom:bs.length + 1 < 77)
  (h:∀(b:Bool) h',Wc a s.heap h'->SetU knd h' a L (insU bs k x)->Q b { s with heap:=h' }):
  wpAny 2e5 A (setAddHashed a (.ref x) (Yr knd k)) Q E s:=by
 obtain ⟨o,es,ep,t,ho,hex,hd,hL,T,nd,hpm⟩:=hS
 have hf:t.fits es.size=true:=T.fits (XA T.few)
 have hlen:es.size=bs.length:=by rw[←YG,hpm.length_eq];simp
 have he:Els knd s.heap es:=fun i e q=>by
  have hm:e∈es.toList:=XW.mpr (Vx q)
  obtain ⟨p,hp,rfl⟩:=YB.mp (hpm.mem_iff.mp hm)
  exact ⟨p.1,p.2,rfl,hbk p hp⟩
 unfold setAddHashed setAddHashedIn
 refine Xc (Ya (YY ho hd hf ?_))
 dsimp only
 rw[show byScan (YF x) es=false from rfl]
 simp only[YM,↓reduceIte]
 have stay:k∈bs.map (·.1)->Q false s:=fun hin=>by
  have q:=h false s.heap (Heap.SameBut.refl a s.heap)
  rw[insU_in hin] at q
  exact q ⟨o,es,ep,t,ho,hex,hd,hL,T,nd,hpm⟩
 refine Ya ?_
 unfold setSearch
 obtain ⟨j0,hj0,e0⟩:=T.room (Vp T.few)
 obtain ⟨c,hc,ec⟩:=(Wf.start t.mask (Yr knd k)).meets T.mm hj0
 refine search hu ho hd T he hk (fun i u b eb hb=>?_) (fun n hn hun=>?_) 100000 0 none rfl ⟨c,YV _,?_,(congrArg t.slot ec).trans e0⟩ (fun m hm=>absurd hm (X6 _))
 ·-- it is there
  have hm:(u,YF b)∈es.toList:=XW.mpr (Vx eb)
  obtain ⟨p,hp,q⟩:=YB.mp (hpm.mem_iff.mp hm)
  cases q
  have:=(hbk p hp).inj hb
  exact Yc (stay (by rw[←this];exact Wy hp))
 ·-- it is new
  have hnew:k∉bs.map (·.1):=by
   intro hin
   obtain ⟨p,hp,rfl⟩:=YB.mp hin
   have hm:(Yr knd p.1,YF p.2)∈es.toList:=hpm.mem_iff.mpr (YB.mpr ⟨p,hp,rfl⟩)
   obtain ⟨i,hi,q⟩:=Array.getElem_of_mem (XW.mp hm)
   have ei:es[i]? = some (Yr knd p.1,YF p.2):=by rw[Yg hi,q]
   obtain ⟨j,pj⟩:∃j,t.place[i]? = some j:=⟨_,Yg (by rw[T.sz];exact hi)⟩
   obtain ⟨m,h1,h2⟩:=T.rc i j _ pj ei
   have h1:(it t.mask m (start t.mask (Yr knd p.1))).j=j:=h1
   rcases Vo m n with z | z | z
   ·obtain ⟨i',q1,q2⟩:=hun m z
    rw[h1,Zb8 T.rs pj] at q1
    cases q1
    exact q2 _ _ ei (hbk p hp)
   ·subst z
    rw[h1,Zb8 T.rs pj] at hn;cases hn
   ·obtain ⟨i',q1⟩:=h2 n z
    rw[Zb8 T.rs q1] at hn;cases hn
  have hway:∀m,m < n->∃i:Nat,t.place[i]? = some (it t.mask m 8e5).j:=fun m hm=>let ⟨i,q,_⟩:=hun m hm;⟨i,live_slot q⟩
  dsimp only
  refine Ya (YY ho hd hf ?_)
  dsimp only
  obtain ⟨t1,p,hput⟩:∃t1 p,t.put (it t.mask n (start t.mask (Yr knd k))).j=(t1,p):=⟨_,_,rfl⟩
  obtain ⟨hp,hmk,hld,T1⟩:=T.toT0.put (x:=YF x) (it_lt T.mm n) hn hway t1 p hput
  rw[hput]
  dsimp only
  have tail:∀b:Bool,wpAny 2e5 A (do
    storeSet a (insertAt es p (Yr knd k,YF x)) (if b=true then t1 else { t1 with plain:=false })
    if (!false&&(if b=true then t1 else { t1 with plain:=false }).tooFull)=true then do
      setRelay a (Vv (es.size + 1))
      pure true
     else pure true) Q E s:=by
   intro b
   have T2:=T1.plainOff b
   obtain ⟨m1,m2,m3⟩:=mask_off t1 b
   have m4:(if b=true then t1 else { t1 with plain:=false }).led=L:=by rw[←hL,←hld];cases b<;>rfl
   generalize (if b=true then t1 else { t1 with plain:=false })=t2 at T2 m1 m2 m3 m4 ⊢
   have hmk2:t2.mask=t.mask:=m1.trans hmk
   have hz:(insertAt es p (Yr knd k,YF x)).size=es.size + 1:=ins_size _ _ _
   have hbig:=T.few
   have hM:=T.mm.pos
   refine Ya (wpAny_storeSet_of ho hd ?_ (by rw[hz,YU];lia))
   have g1:=get_store ho hd (insertAt es p (Yr knd k,YF x)) t2
   have sb1:=Xg s.heap a (Obj.putSet (insertAt es p (Yr knd k,YF x)) t2)
   generalize hh1:s.heap.update a (Obj.putSet (insertAt es p (Yr knd k,YF x)) t2)=h1 at g1 sb1
   have done_:∀(h':Heap) (es':7e5) (ep':Nat) (t':XH),Wc a s.heap h'->h'.get? a=some { o with data:=.set es' ep' t' }->TI t' es'->t'.led=L->es'.toList.Perm (es.toList++[(Yr knd k,YF x)])->Q true { s with heap:=h' }:=by
    intro h' es' ep' t' sb g Ti hl pm
    have q:=h true h' sb
    rw[insU_new hnew] at q
    refine q ⟨_,es',ep',t',g,hex,rfl,hl,Ti,?_,?_⟩
    ·rw[Xv,X2]
     exact ⟨nd,by simp,fun y hy z hz e=>by rw[List.map_singleton,Yh] at hz;subst hz;subst e;exact hnew hy⟩
    ·rw[Xv]
     exact pm.trans (hpm.append_right _)
   by_cases hfull:(es.size + 1) * 5 < t2.mask * 3
   ·have:t2.tooFull=false:=by
     unfold SetTable.tooFull SetTable.fill
     rw[T2.dm,T2.sz,hz]
     simp;lia
    rw[this]
    simp only[Bool.and_false,YM,↓reduceIte]
    exact Yc (done_ h1 _ _ t2 sb1 g1 ⟨T2,by rw[hz];exact hfull⟩ m4 (perm_ins _ _ _))
   ·have:t2.tooFull=true:=by
     unfold SetTable.tooFull SetTable.fill
     rw[T2.dm,T2.sz,hz]
     simp;lia
    rw[this]
    simp only[Bool.not_false,Bool.and_self,↓reduceIte]
    refine Ya ?_
    unfold setRelay
    have hf2:t2.fits (insertAt es p (Yr knd k,YF x)).size=true:=T2.fits (by rw[hz,hmk2];lia)
    have hd1:({ o with data:=.set (insertAt es p (Yr knd k,YF x)) (ep + 1) t2 }:Obj).data=.set (insertAt es p (Yr knd k,YF x)) (ep + 1) t2:=rfl
    refine Ya (YY (s:={ s with heap:=h1 }) g1 hd1 hf2 ?_)
    dsimp only
    obtain ⟨gM,gS⟩:=grown_ok T.mm T.fl (by rw[hmk2] at hfull;exact hfull) (by rw[hlen];exact hroom)
    have hsl:¬V5 (Vv (es.size + 1)) > sizeLine:=by
     have:=gM.pos;rw[YU];lia
    rw[if_neg hsl]
    obtain ⟨t',order,e1,e2,e3,e4,_,e6⟩:=laid_ok (mask:=V5 (Vv (es.size + 1)) - 1) (finger:=t2.finger) (moves:=t2.movedTo (V5 (Vv (es.size + 1)) - 1)) (led:=t2.led) (plain:=t2.plain) gM (insertAt es p (Yr knd k,YF x)) (by rw[hz];exact gS)
    have e1:t2.relaid ((insertAt es p (Yr knd k,YF x)).map (·.1)) (Vv (es.size + 1))=some (t',order):=e1
    rw[e1]
    refine Ya ?_
    show wpAny _ _ (if ((order.filterMap ((insertAt es p (Yr knd k,YF x))[·]?)).size != (insertAt es p (Yr knd k,YF x)).size)=true then _ else _) _ _ _
    rw[if_neg (by rw[e2];simp)]
    refine Yc ?_
    dsimp only
    have g2:=get_store g1 hd1 (order.filterMap ((insertAt es p (Yr knd k,YF x))[·]?)) t'
    refine wpAny_storeSet_of (s:={ s with heap:=h1 }) g1 hd1 ?_ (by rw[e2,hz,YU];lia)
    exact Yc (done_ _ _ _ t' (sb1.trans (Xg _ a _)) g2 e4 (e6.trans m4) (e3.trans (perm_ins _ _ _)))
  cases hpl:t1.plain with
  | true=>
   simp only[↓reduceIte]
   refine Ya (hbv_tuple hk fun b=>?_)
   exact tail b
  | false=>
   simp only[YM,↓reduceIte]
   refine Ya (Yc ?_)
   exact tail true
 ·have:=T.mm.pos;unfold turns at hc;lia
end
section
variable {α:Type}{M:Model}{A:Around}{E:1e5}
theorem wpAny_choose {src:Source}{n:Nat}{s:Shared}{Q:Nat->Shared->Prop}(hn:n≠0)(h:∀i d,i < n->Q i { s with drawn:=d }):wpAny M A (choose src n) Q E s:=fun Γ p hΓ=>by
 unfold choose
 rw[Sem.wp_choose]
 exact ⟨hn,h _ _ (VJ _ (Nat.pos_of_ne_zero hn))⟩
theorem Zct:∀{l:List α} {i:Nat} {x:α},l[i]? = some x->(x::l.eraseIdx i).Perm l
 | [],_,_,h=>by simp at h
 | y::l,0,x,h=>by simp at h;subst h;simp
 | y::l,i + 1,x,h=>by
  have:=Zct (l:=l) (i:=i) 13e1
  rw[List.eraseIdx_cons_succ]
  exact (List.Perm.swap y x _).trans (this.cons y)
theorem Zcl:∀(n:Nat) (xs:List α) (s:Shared) (Q:List α->Shared->Prop),xs.length=n->(∀ys d,ys.Perm xs->Q ys { s with drawn:=d })->wpAny M A (drawOrder n xs) Q E s
 | 0,xs,s,Q,hn,h=>by
  have:xs=[]:=List.length_eq_zero_iff.mp hn
  subst this
  unfold drawOrder
  exact Yc (h [] s.drawn (.refl _))
 | n + 1,[],s,Q,hn,h=>by simp at hn
 | n + 1,x0::xs0,s,Q,hn,h=>by
  unfold drawOrder
  generalize hxs:x0::xs0=xs at *
  refine Ya (wpAny_choose 1e2 fun i d hi=>?_)
  obtain ⟨x,hx⟩:∃x,xs[i]? = some x:=⟨_,Yd hi⟩
  rw[hx]
  dsimp only
  refine Ya (Zcl n (xs.eraseIdx i) _ _ (by rw[VW hi];lia) fun ys d' hp=>Yc (h (x::ys) d' ?_))
  exact (hp.cons x).trans (Zct hx)
theorem pick_go {next:Nat->Nat}:∀(fuel k:Nat) (left:List α) (out:Array α),left.length=fuel->(pickOrder.go next fuel k left out).toList.Perm (out.toList++left)
 | 0,k,left,out,h=>by
  have:left=[]:=List.length_eq_zero_iff.mp h
  subst this
  unfold pickOrder.go;simp
 | f + 1,k,left,out,h=>by
  unfold pickOrder.go
  have hi:next k % left.length < left.length:=VJ _ 1e2
  obtain ⟨x,hx⟩:∃x,left[next k % left.length]? = some x:=⟨_,Yd hi⟩
  rw[hx]
  dsimp only
  refine (pick_go f (k + 1) _ _ (by rw[VW hi];lia)).trans ?_
  rw[Array.toList_push,YD]
  exact (Zct hx).append_left _
theorem pick_perm {next:Nat->Nat}(xs:Array α):(UG next xs).toList.Perm xs.toList:=by
 have:=pick_go (next:=next) xs.size 0 xs.toList #[] 3e8
 simpa[UG] using this
end
theorem Zaq:Slot "set_iterator" "__next__" "set_iterator.__next__":=
 .of (owner:="set_iterator") (n:="__next__") (by rw[VQ,WW];kernel_rfl) 7e9 7e9 7e9
  (by first | exact .inl 7e9 | exact .inr 7e9) (by rw[V7];kernel_rfl)
theorem ZaL:entryFor table "set_iterator.__next__"=some W0.«set_iterator.__next__»:=entryFor_of_tree (by kernel_rfl)
theorem Zbh:Manifest.owners.lookup (String.ofList ['r','o','t','a','r','e','t','i','_','t','e','s'].reverse)=some Manifest.sig_set_iterator:=by kernel_rfl
theorem ZaK (a:Value):argsOk "set_iterator.__next__" ⟨[a],[]⟩:=by
 unfold argsOk;rw[signature?_of (id:="set_iterator.__next__") (n:=['_','_','t','x','e','n','_','_']) (o:=['r','o','t','a','r','e','t','i','_','t','e','s']) (by kernel_rfl) Zbh];kernel_rfl
theorem Zdp:entryFor table "set.__iter__"=some W0.«frozenset.__iter__»:=entryFor_alias (id':="frozenset.__iter__") (by kernel_rfl) rfl 7e9 (by kernel_rfl)
def IsSetIter (h:Heap)(I:Addr)(first:Value)(i:Nat)(a:Addr)(n ep:Nat):Prop:=∃o,h.get? I=some o/\o.cls=.type "set_iterator"/\o.data=.fields #[first,.int i 0,.ref a,.int n 0,.int ep 0]
theorem IsSetIter.at {h h':Heap}{I a:Addr}{f:Value}{i n ep:Nat}(x:IsSetIter h I f i a n ep)(g:∀o,h.get? I=some o->h'.get? I=some o):IsSetIter h' I f i a n ep:=let ⟨o,ho,r⟩:=x;⟨o,g _ ho,r⟩
end Se
namespace Se
open PySem PySem.SetTable PySem.W
open PyProof.Rows hiding St Fr
def RawS (h:Heap)(a:Addr)(es:7e5)(ep:Nat)(t:XH):Prop:=∃o,h.get? a=some o/\o.ExactSet/\o.data=.set es ep t
theorem RawS.at {h h':Heap}{a:Addr}{es:7e5}{ep:Nat}{t:XH}(x:RawS h a es ep t)(g:∀o,h.get? a=some o->h'.get? a=some o):RawS h' a es ep t:=let ⟨o,ho,r⟩:=x;⟨o,g _ ho,r⟩
section
variable {prog:YC}{w:World}{A:Around}{E:1e5}{s:Shared}{I a T:Addr}{es:7e5}{ep i:Nat}{t:XH}
theorem RawS.ty (x:15e6):s.TypeIs (.ref a) "set":=let ⟨o,ho,hc,_⟩:=x;⟨o,ho,hc.1⟩
theorem RawS.lt {h:Heap}(x:RawS h a es ep t):a < h.objs.size:=let ⟨_,ho,_⟩:=x;Yv ho
theorem IsSetIter.ty {f:Value}{n:Nat}(x:IsSetIter s.heap I f i a n ep):s.TypeIs (.ref I) "set_iterator":=let ⟨o,ho,hc,_⟩:=x;⟨o,ho,hc⟩
theorem next_slot {slot nx:Nat}{x:Value}{Q:Option Value->Shared->Prop}(hit:IsSetIter s.heap I (.int slot 0) i a es.size ep)(hm:15e6)(hf:t.fits es.size=true)
  (hn:∀(A':Around) (Q':Option (Value×Nat)->Shared->Prop) (E':1e5),Q' (some (x,nx)) s->wpAny 2e5 A' (setNext a slot i ep) Q' E' s)
  (q:∀h',IsSetIter h' I (.int nx 0) (i + 1) a es.size ep->Wc I s.heap h'->Q (some x) { s with heap:=h' }):wpAny (model prog w) A (pyNext (.ref I)) Q E s:=by
 have Ty:=hit.ty
 obtain ⟨o,ho,hc,hd⟩:=hit
 obtain ⟨od,hod,hcd,hdd⟩:=hm
 unfold pyNext
 refine Ya (VI (Xx (name:=WK "__next__") Ty Zaq (Y9 Zaq Ty ZaL ?body (ZaK _))))
 case body=>
  unfold W0.«set_iterator.__next__»
  refine Ya (Yc ?_)
  refine Ya (Vu ho hd ?_)
  unfold UK
  refine Ya (Ya (YY hod hdd hf (Yc ?_)))
  rw[if_neg 3e8]
  dsimp only
  simp only[XG]
  refine Ya (hn _ _ _ ?_)
  dsimp only
  refine Ya (Wj ho hd 3e8 ?_)
  have g1:=Xr (Wg (·.setIfInBounds 0 (rawInt nx))) ho (Wh (Xp hd _))
  have d1:(Wg (·.setIfInBounds 0 (rawInt nx)) o).data=.fields #[.int nx 0,.int i 0,.ref a,.int es.size 0,.int ep 0]:=by rw[Xp hd];simp[rawInt]
  refine Ya (Wj (s:={ s with heap:=s.heap.update I (Wg (·.setIfInBounds 0 (rawInt nx))) }) g1 d1 (by simp) ?_)
  have g2:=Xr (Wg (·.setIfInBounds 1 (rawInt ((i:Int) + 1)))) g1 (Wh (Xp d1 _))
  refine Yc ⟨_,rfl,Yc (q _ ⟨_,g2,by rw[Vq,Vq];exact hc,by rw[Xp d1];simp[rawInt]⟩ ((Xg ..).trans (Xg ..)))⟩
theorem end_slot {slot:Nat}{Q:Option Value->Shared->Prop}(hh:13e6)(hit:IsSetIter s.heap I (.int slot 0) i a es.size ep)(hm:15e6)(hf:t.fits es.size=true)
  (hn:∀(A':Around) (Q':Option (Value×Nat)->Shared->Prop) (E':1e5),Q' none s->wpAny 2e5 A' (setNext a slot i ep) Q' E' s)
  (q:∀h',UQ I s.heap h'->Q none { s with heap:=h' }):wpAny (model prog w) A (pyNext (.ref I)) Q E s:=by
 have Ty:=hit.ty
 obtain ⟨o,ho,hc,hd⟩:=hit
 obtain ⟨od,hod,hcd,hdd⟩:=hm
 unfold pyNext
 refine Ya (VI (Xx (name:=WK "__next__") Ty Zaq (Y9 Zaq Ty ZaL ?body (ZaK _))))
 case body=>
  unfold W0.«set_iterator.__next__»
  refine Ya (Yc ?_)
  refine Ya (Vu ho hd ?_)
  unfold UK
  refine Ya (Ya (YY hod hdd hf (Yc ?_)))
  rw[if_neg 3e8]
  dsimp only
  simp only[XG]
  refine Ya (hn _ _ _ ?_)
  dsimp only
  refine Ya (Wj ho hd 3e8 ?_)
  have calm:A.in1.handled=none:=hh
  have stop:UT (.type "StopIteration") (.type "StopIteration")=pure true:=isSubtype_stop
  repeat first
   | refine wpAny_alloc' ?_
   | refine VO calm ?_
   | apply Ya
   | apply Yc
  refine wpAny_loadPart (Yo _ rfl) (Yc ?_)
  dsimp only
  rw[stop]
  exact Yc (Yc (q _ (((Xg ..).extBut.push _).push _)))
theorem next_tup {places:Array Value}{o':Obj}{pl c:Nat}{e:Int×Value}{Q:Option Value->Shared->Prop}(hit:IsSetIter s.heap I (.ref T) i a es.size ep)(hm:15e6)(hf:t.fits es.size=true)(hT:s.heap.get? T=some o')(hTd:o'.data=.seq places c)
  (hp:places[i]? = some (.int pl 0)) (he:es[pl]? = some e)
  (q:∀h',IsSetIter h' I (.ref T) (i + 1) a es.size ep->Wc I s.heap h'->Q (some e.2) { s with heap:=h' }):wpAny (model prog w) A (pyNext (.ref I)) Q E s:=by
 have Ty:=hit.ty
 obtain ⟨o,ho,hc,hd⟩:=hit
 obtain ⟨od,hod,hcd,hdd⟩:=hm
 unfold pyNext
 refine Ya (VI (Xx (name:=WK "__next__") Ty Zaq (Y9 Zaq Ty ZaL ?body (ZaK _))))
 case body=>
  unfold W0.«set_iterator.__next__»
  refine Ya (Yc ?_)
  refine Ya (Vu ho hd ?_)
  unfold UK
  refine Ya (Ya (YY hod hdd hf (Yc ?_)))
  rw[if_neg 3e8]
  dsimp only
  refine Ya (Vt hT hTd ?_)
  simp only[XG,hp]
  unfold setNextDrawn
  refine Ya (Ya (YY hod hdd hf ?_))
  dsimp only
  rw[if_neg 3e8,he]
  refine Yc ?_
  refine Ya (Wj ho hd 3e8 ?_)
  have g2:=Xr (Wg (·.setIfInBounds 1 (rawInt ((i:Int) + 1)))) ho (Wh (Xp hd _))
  refine Yc ⟨_,rfl,Yc (q _ ⟨_,g2,by rw[Vq];exact hc,by rw[Xp hd];simp[rawInt]⟩ (Xg ..))⟩
theorem end_tup {places:Array Value}{o':Obj}{c:Nat}{Q:Option Value->Shared->Prop}(hh:13e6)(hit:IsSetIter s.heap I (.ref T) i a es.size ep)(hm:15e6)(hf:t.fits es.size=true)(hT:s.heap.get? T=some o')(hTd:o'.data=.seq places c)
  (hp:places.size<=i)
  (q:∀h',UQ I s.heap h'->Q none { s with heap:=h' }):wpAny (model prog w) A (pyNext (.ref I)) Q E s:=by
 have Ty:=hit.ty
 obtain ⟨o,ho,hc,hd⟩:=hit
 obtain ⟨od,hod,hcd,hdd⟩:=hm
 unfold pyNext
 refine Ya (VI (Xx (name:=WK "__next__") Ty Zaq (Y9 Zaq Ty ZaL ?body (ZaK _))))
 case body=>
  unfold W0.«set_iterator.__next__»
  refine Ya (Yc ?_)
  refine Ya (Vu ho hd ?_)
  unfold UK
  refine Ya (Ya (YY hod hdd hf (Yc ?_)))
  rw[if_neg 3e8]
  dsimp only
  refine Ya (Vt hT hTd ?_)
  simp only[XG,YK hp]
  refine Ya (Wj ho hd 3e8 ?_)
  have g1:=Xr (Wg (·.setIfInBounds 0 (rawInt 0))) ho (Wh (Xp hd _))
  have d1:=Xp hd (·.setIfInBounds 0 (rawInt 0))
  refine Ya (Wj (s:={ s with heap:=s.heap.update I (Wg (·.setIfInBounds 0 (rawInt 0))) }) g1 d1 (by simp) ?_)
  have calm:A.in1.handled=none:=hh
  have stop:UT (.type "StopIteration") (.type "StopIteration")=pure true:=isSubtype_stop
  repeat first
   | refine wpAny_alloc' ?_
   | refine VO calm ?_
   | apply Ya
   | apply Yc
  refine wpAny_loadPart (Yo _ rfl) (Yc ?_)
  dsimp only
  rw[stop]
  exact Yc (Yc (q _ ((((Xg ..).trans (Xg ..)).extBut.push _).push _)))
theorem ZcR {slot ep':Nat}{Q:Option (Value×Nat)->Shared->Prop}(hb:w.params.followText "set-order"=false)(hm:15e6)(hf:t.fits es.size=true)(hnd:(!t.plain&&decide (es.size > 1))=false)(hl:t.led=true)
  (q:Q (match es[below t.place slot]?,t.place[below t.place slot]? with | some (_,x),some j=>some (x,j + 1) | _,_=>none) s):wpAny (model prog w) A (setNext a slot i ep') Q E s:=by
 obtain ⟨od,hod,hcd,hdd⟩:=hm
 unfold setNext UL
 refine Ya (YY hod hdd hf ?_)
 dsimp only
 refine Ya (Ya (Wb (Yc ?_)))
 refine X7 (fun hab=>absurd (hab.symm.trans (show _=false from hb)) 1e1) (fun _=>?_)
 refine X7 (fun hab=>absurd (hab.symm.trans (show _=false from hnd)) 1e1) (fun _=>?_)
 refine Ya (X7 (fun hab=>absurd hab (by rw[hl];simp)) (fun _=>Yc ?_))
 exact Yc q
theorem Zcx {slot:Nat}{Q:Option (Value×Nat)->Shared->Prop}(hb:w.params.followText "set-order"=true)(hm:15e6)(hf:t.fits es.size=true)
  (q:Q (((UG (w.params.setOrder a ep) es)[i]?).map fun e=>(e.2,slot)) s):wpAny 2e5 A (setNext a slot i ep) Q E s:=by
 obtain ⟨od,hod,hcd,hdd⟩:=hm
 unfold setNext UL
 refine Ya (YY hod hdd hf ?_)
 dsimp only
 refine Ya (Ya (Wb (Yc ?_)))
 refine X7 (fun _=>?_) (fun hab=>absurd hb hab)
 refine X7 (fun hab=>absurd hab 3e8) (fun _=>?_)
 unfold setWalk UL
 refine Ya (Ya (YY hod hdd hf ?_))
 dsimp only
 refine Ya (Ya (Wb (Yc ?_)))
 refine X7 (fun _=>?_) (fun hab=>absurd hb hab)
 refine Ya (Wb (Yc ?_))
 exact Yc q
end
theorem below_zero {xs:12e6}(hr:Rising xs):below xs 0=0:=by
 obtain ⟨h1,h2,h3⟩:=ZcN hr 0
 rcases Nat.eq_zero_or_pos (below xs 0) with z | z
 ·exact z
 ·have hlt:0 < xs.size:=Yk z h3
  exact absurd (h1 0 _ z (Yg hlt)) (X6 _)
theorem below_next {xs:12e6}(hr:Rising xs){i j:Nat}(e:xs[i]? = some j):below xs (j + 1)=i + 1:=by
 obtain ⟨h1,h2,h3⟩:=ZcN hr (j + 1)
 rcases Vo (below xs (j + 1)) (i + 1) with z | z | z
 ·have:=h2 i j 1e2 e;lia
 ·exact z
 ·have hlt:i + 1 < xs.size:=Yk z h3
  have a:=h1 (i + 1) _ z (Yg hlt)
  have b:=hr i (i + 1) _ _ 1e2 e (Yg hlt)
  lia
section
variable {prog:YC}{w:World}{A:Around}{E:1e5}{s:Shared}{I a T:Addr}{es:7e5}{ep i:Nat}{t:XH}
abbrev PA (arr:7e5):Nat->Value->Prop:=fun i v=>∃e,arr[i]? = some e/\v=e.2
theorem Za2:Slot "set_iterator" "__iter__" "set_iterator.__iter__":=
 .of (owner:="set_iterator") (n:="__iter__") (by rw[VQ,WW];kernel_rfl) 7e9 7e9 7e9
  (by first | exact .inl 7e9 | exact .inr 7e9) (by rw[V7];kernel_rfl)
theorem Zby:entryFor table "set_iterator.__iter__"=some W0.«dict_keyiterator.__iter__»:=entryFor_alias (id':="dict_keyiterator.__iter__") (by kernel_rfl) rfl 7e9 (by kernel_rfl)
theorem Zbu (a:Value):argsOk "set_iterator.__iter__" ⟨[a],[]⟩:=by
 unfold argsOk;rw[signature?_of (id:="set_iterator.__iter__") (n:=['_','_','r','e','t','i','_','_']) (o:=['r','o','t','a','r','e','t','i','_','t','e','s']) (by kernel_rfl) Zbh];kernel_rfl
theorem Zb2 {f:Value}{n:Nat}{Q:1e5}(hit:IsSetIter s.heap I f i a n ep)(h:Q (.ref I) s):wpAny 2e5 A (pyIter (.ref I)) Q E s:=by
 refine Ud hit.ty Za2 (Y9 Za2 hit.ty Zby ?_ (Zbu _))
 show wpAny _ _ (ret (.ref I)) _ _ s
 exact Yc ⟨_,rfl,"set_iterator",_,hit.ty,Zaq.lookup,h⟩
theorem walk_led (hh:13e6)(hne:a≠I)(hb:w.params.followText "set-order"=false)(TT:TI t es)(hnd:(!t.plain&&decide (es.size > 1))=false)(hl:t.led=true):
  Walks prog w A I [I,a] [I] es.size (PA es) (fun i h=>∃slot,IsSetIter h I (.int (slot:Nat) 0) i a es.size ep/\RawS h a es ep t/\below t.place slot=i) where
 sub:=fun b hb=>by rw[Yh.mp hb];exact YA
 frame:=fun _ _ _ ⟨slot,h1,h2,h3⟩ hk=>⟨slot,h1.at (hk I (.head _)),h2.at (hk a (.tail _ (.head _))),h3⟩
 item:=fun i s Q E hi ⟨slot,h1,h2,h3⟩ hQ=>by
  have hf:=TT.fits (XA TT.few)
  have ei:es[i]? = some es[i]:=Yg hi
  obtain ⟨j,ej⟩:∃j,t.place[i]? = some j:=⟨_,Yg (by rw[TT.sz];exact hi)⟩
  refine next_slot (x:=es[i].2) (nx:=j + 1) h1 h2 hf (fun A' Q' E' q=>ZcR hb h2 hf hnd hl ?_) fun h' k2 sb=>hQ _ h' s.toks ⟨_,ei,rfl⟩ ⟨_,k2,h2.at fun o e=>sb.extBut a o hne e,below_next TT.rs ej⟩ fun b o hb e=>sb.extBut b o (fun z=>hb (Yh.mpr z)) e
  rw[h3,ei,ej];exact q
 done:=fun s Q E ⟨slot,h1,h2,h3⟩ hQ=>by
  have hf:=TT.fits (XA TT.few)
  refine end_slot hh h1 h2 hf (fun A' Q' E' q=>ZcR hb h2 hf hnd hl ?_) fun h' x=>hQ h' s.toks fun b o hb e=>x b o (fun z=>hb (Yh.mpr z)) e
  rw[h3,YK (Yj _)];exact q
 self:=fun _ _ _ _ ⟨slot,h1,_⟩ hQ=>Zb2 h1 hQ
theorem walk_text (hh:13e6)(hne:a≠I)(hb:w.params.followText "set-order"=true)(TT:TI t es):
  Walks prog w A I [I,a] [I] (UG (w.params.setOrder a ep) es).size (PA (UG (w.params.setOrder a ep) es)) (fun i h=>IsSetIter h I (.int (0:Nat) 0) i a es.size ep/\RawS h a es ep t) where
 sub:=fun b hb=>by rw[Yh.mp hb];exact YA
 frame:=fun _ _ _ ⟨h1,h2⟩ hk=>⟨h1.at (hk I (.head _)),h2.at (hk a (.tail _ (.head _)))⟩
 item:=fun i s Q E hi ⟨h1,h2⟩ hQ=>by
  have hf:=TT.fits (XA TT.few)
  have ei:=Yg hi
  refine next_slot (x:=(UG (w.params.setOrder a ep) es)[i].2) (nx:=0) h1 h2 hf (fun A' Q' E' q=>Zcx hb h2 hf ?_) fun h' k2 sb=>hQ _ h' s.toks ⟨_,ei,rfl⟩ ⟨k2,h2.at fun o e=>sb.extBut a o hne e⟩ fun b o hb e=>sb.extBut b o (fun z=>hb (Yh.mpr z)) e
  rw[ei];exact q
 done:=fun s Q E ⟨h1,h2⟩ hQ=>by
  have hf:=TT.fits (XA TT.few)
  refine end_slot hh h1 h2 hf (fun A' Q' E' q=>Zcx hb h2 hf ?_) fun h' x=>hQ h' s.toks fun b o hb e=>x b o (fun z=>hb (Yh.mpr z)) e
  rw[YK (Yj _)];exact q
 self:=fun _ _ _ _ ⟨h1,_⟩ hQ=>Zb2 h1 hQ
def drawnArr (es:7e5)(ys:11e8):Array (Int×Value):=(ys.map fun i=>es.getD i (0,.none)).toArray
theorem walk_drawn (hh:13e6)(hne:a≠I)(hTI:T≠I)(TT:TI t es){ys:11e8}(hy:∀y∈ys,y < es.size):
  Walks prog w A I [I,a,T] [I] (drawnArr es ys).size (PA (drawnArr es ys)) (fun i h=>IsSetIter h I (.ref T) i a es.size ep/\RawS h a es ep t/\∃o,h.get? T=some o/\∃c,o.data=.seq (ys.map fun (i:Nat)=>rawInt i).toArray c) where
 sub:=fun b hb=>by rw[Yh.mp hb];exact YA
 frame:=fun _ _ _ ⟨h1,h2,o,h3,h4⟩ hk=>⟨h1.at (hk I (.head _)),h2.at (hk a (.tail _ (.head _))),o,hk T (.tail _ (.tail _ (.head _))) _ h3,h4⟩
 item:=fun i s Q E hi ⟨h1,h2,o,h3,c,h4⟩ hQ=>by
  have hf:=TT.fits (XA TT.few)
  have hi':i < ys.length:=by simpa[drawnArr] using hi
  have hlt:ys[i] < es.size:=hy _ (Y7 hi')
  have ei:(drawnArr es ys)[i]? = some es[ys[i]]:=by
   unfold drawnArr
   rw[WR,YL,Yd hi']
   simp[hlt]
  refine next_tup (pl:=ys[i]) (e:=es[ys[i]]) h1 h2 hf h3 h4 (by rw[WR,YL,Yd hi'];rfl) (Yg hlt) fun h' k2 sb=>hQ _ h' s.toks ⟨_,ei,rfl⟩ ⟨k2,h2.at fun o e=>sb.extBut a o hne e,o,sb.extBut T o hTI h3,c,h4⟩ fun b o hb e=>sb.extBut b o (fun z=>hb (Yh.mpr z)) e
 done:=fun s Q E ⟨h1,h2,o,h3,c,h4⟩ hQ=>by
  have hf:=TT.fits (XA TT.few)
  exact end_tup hh h1 h2 hf h3 h4 (by simp[drawnArr]) fun h' x=>hQ h' s.toks fun b o hb e=>x b o (fun z=>hb (Yh.mpr z)) e
 self:=fun _ _ _ _ ⟨h1,_⟩ hQ=>Zb2 h1 hQ
theorem drawn_perm {ys:11e8}(h:ys.Perm (Yl es.size)):(drawnArr es ys).toList.Perm es.toList:=by
 unfold drawnArr
 have q:=h.map fun i=>es.getD i (0,XO)
 have e:(Yl es.size).map (fun i=>es.getD i (0,XO))=es.toList:=by
  apply Xa
  intro i
  rw[YL]
  by_cases hi:i < es.size
  ·rw[VN hi];simp[hi]
  ·rw[Xs 11e1,Xs 11e1];rfl
 rw[e] at q
 simpa using q
theorem iter_set {Q:1e5}(hm:15e6)(TT:TI t es)(hl:w.params.followText "set-order"=false->t.led=true)
  (q:∀(I:Addr) (h':Heap) (d:Drawn) (arr:7e5) (fp:3e7) (St:Nat->Heap->Prop),s.heap.objs.size<=I->(∀b∈fp,b=a\/s.heap.objs.size<=b)->(∀b o,s.heap.get? b=some o->h'.get? b=some o)->arr.toList.Perm es.toList->
   (∀A':Around,A'.handled=none->Walks prog w A' I fp [I] arr.size (PA arr) St)->St 0 h'->Q (.ref I) { s with heap:=h',drawn:=d }):wpAny (model prog w) A (pyIter (.ref a)) Q E s:=by
 have Ty:=hm.ty
 have hf:=TT.fits (XA TT.few)
 have hlt:=hm.lt
 obtain ⟨o,ho,hc,hd⟩:=id hm
 refine Ud Ty F.slot_set_iter (Y9 F.slot_set_iter Ty Zdp ?body (F.args_set_iter_1 _))
 case body=>
  unfold W0.«frozenset.__iter__» Builtin.Frozenset.slot0 slotArgs
  simp only[List.isEmpty_nil,VF,YM,↓reduceIte,bind_assoc,WO,bne_self_eq_false]
  refine Ya (Yc ?_)
  unfold Builtin.Frozenset.sizeOf UK Builtin.Frozenset.addrOf
  refine Ya (Yc ?_)
  refine Ya (Ya (Ya (YY ho hd hf (Yc (Yc ?_)))))
  unfold setDrawn UL setEpoch
  refine Ya (Ya (YY ho hd hf ?_))
  dsimp only
  refine Ya (Ya (Wb (Yc (Yc ?_))))
  refine X7 (fun hab=>?_) (fun hab=>?_)
  ·refine Ya (Zcl _ _ _ _ X3 fun ys d hp=>?_)
   have hsm:es.size<=1000000:=by have:=TT.few;have:=TT.mm.pos;lia
   have hyl:ys.length=es.size:=by rw[hp.length_eq,X3]
   refine Ya (wpAny_newTuple ?_ (by rw[YE,hyl,YU];lia))
   have hoA:(s.heap.push { cls:=.type "tuple",data:=.seq (ys.map fun (i:Nat)=>rawInt i).toArray }).get? a=some o:=Yb _ ho
   refine Ya (Ya (YY (s:={ s with drawn:=d,heap:=s.heap.push { cls:=.type "tuple",data:=.seq (ys.map fun (i:Nat)=>rawInt i).toArray } }) hoA hd hf (Yc ?_)))
   refine Ya (Xy (Yc ⟨_,rfl,_,_,⟨_,Yo _ rfl,rfl⟩,Zaq.lookup,?_⟩))
   generalize hh1:s.heap.push { cls:=.type "tuple",data:=.seq (ys.map fun (i:Nat)=>rawInt i).toArray }=h1
   have hz:h1.objs.size=s.heap.objs.size + 1:=by rw[←hh1,Vs]
   have hoA1:h1.get? a=some o:=by rw[←hh1];exact hoA
   have hT1:h1.get? s.heap.objs.size=some { cls:=.type "tuple",data:=.seq (ys.map fun (i:Nat)=>rawInt i).toArray }:=by rw[←hh1];exact Yo _ rfl
   refine q h1.objs.size _ d (drawnArr es ys) [h1.objs.size,a,s.heap.objs.size] _ 1e2 (fun b hb=>?_) (fun b u e=>Yb _ (by rw[←hh1];exact Yb _ e)) (drawn_perm hp) (fun A' hh=>walk_drawn (t:=t) (ep:=ep) hh (Yq (Yk hlt (by rw[hz];exact Ug _))) (by rw[hz];exact Yq (W5 _)) TT fun y hy=>by have:=hp.mem_iff.mp hy;simpa using this) ⟨⟨_,Yo _ rfl,rfl,by simp[rawInt]⟩,⟨o,Yb _ hoA1,hc,hd⟩,_,Yb _ hT1,0,rfl⟩
   simp only[Yn,Xm,or_false] at hb
   rcases hb with rfl | rfl | rfl
   ·exact .inr 1e2
   ·exact .inl rfl
   ·exact .inr (Yj _)
  ·refine Ya (Yc ?_)
   refine Ya (Ya (YY ho hd hf (Yc ?_)))
   refine Ya (Xy (Yc ⟨_,rfl,_,_,⟨_,Yo _ rfl,rfl⟩,Zaq.lookup,?_⟩))
   have hfp:∀b∈[s.heap.objs.size,a],b=a\/s.heap.objs.size<=b:=fun b hb=>by
    simp only[Yn,Xm,or_false] at hb
    rcases hb with rfl | rfl
    ·exact .inr (Yj _)
    ·exact .inl rfl
   cases hb:w.params.followText "set-order" with
   | true=>
    exact q s.heap.objs.size _ s.drawn _ [s.heap.objs.size,a] _ (Yj _) hfp (fun b u e=>Yb _ e) (pick_perm es) (fun A' hh=>walk_text (t:=t) (ep:=ep) hh (Yq hlt) hb TT) ⟨⟨_,Yo _ rfl,rfl,by simp[rawInt]⟩,⟨o,Yb _ ho,hc,hd⟩⟩
   | false=>
    have hnd:(!t.plain&&decide (es.size > 1))=false:=by
     have h2:¬((!w.params.followText "set-order")&&(!t.plain&&decide (es.size > 1)))=true:=hab
     rw[hb] at h2
     simpa using h2
    exact q s.heap.objs.size _ s.drawn es [s.heap.objs.size,a] _ (Yj _) hfp (fun b u e=>Yb _ e) (.refl _) (fun A' hh=>walk_led (t:=t) (ep:=ep) hh (Yq hlt) hb TT hnd (hl hb)) ⟨0,⟨_,Yo _ rfl,rfl,by simp[rawInt]⟩,⟨o,Yb _ ho,hc,hd⟩,below_zero TT.rs⟩
theorem hint_set {r:Addr}{Q:8e2}(hT:s.TypeIs (.ref r) "set")(h:Q false s):wpAny 2e5 A (X8 (.ref r)) Q E s:=by
 have own:UT (.type "set") (.type "set")=pure true:=by rw[V7];kernel_rfl
 have parts:∀id,id="set.__len__"->splitId id=some ("set","__len__"):=fun id e=>by rw[e];decide +kernel
 delta X8
 apply Ya
 refine VL hT PySem.F.slot_set_len.lookup ?_
 generalize en:("set.__len__":String)=nm
 dsimp only
 rw[parts nm en.symm]
 subst en
 apply Ya
 refine wpAny_isInstance hT own ?_
 simp only[VF,YM,if_false]
 rw[if_pos 7e9]
 apply Ya
 exact WL hT (Yc h)
theorem items_perm {arr:7e5}{acc:Array Value}(h:UX (PA arr) acc arr.size)(p:arr.toList.Perm es.toList):acc.toList.Perm (es.toList.map (·.2)):=by
 have e:acc.toList=arr.toList.map (·.2):=by
  apply Xa
  intro i
  rw[YL,Y3,Y3]
  by_cases hi:i < arr.size
  ·have hi2:i < acc.size:=by rw[h.1];exact hi
   obtain ⟨x,e1,e2⟩:=h.2 i _ (Yg hi2)
   rw[Yg hi2,e1,e2];rfl
  ·have hz:=h.1
   rw[YK (show acc.size<=i by lia),YK (show arr.size<=i by lia)];rfl
 rw[e];exact p.map _
theorem touch {S:Addr}{c:Nat}{Q:Unit->Shared->Prop}(at_S:s.heap.get? S=some { cls:=.type "list",data:=.seq #[] c })
  (q:∀h' c',h'.get? S=some { cls:=.type "list",data:=.seq #[] c' }->(∀b o,b≠S->s.heap.get? b=some o->h'.get? b=some o)->Q () { s with heap:=h' }):wpAny (model prog w) A (Builtin.List.listTouch (.ref S)) Q E s:=by
 have up:=fun (h:Heap) (o:Obj) (f:Array Value->Array Value) (b:Addr) (n:b≠S) (e:h.get? b=some o)=>(XF h b S (XD f) n).trans e
 have one:=Wr (c:="list") at_S (·.push XO)
 have two:=Wr (c:="list") one (·.pop)
 apply Ya
 refine UH at_S rfl ?_
 refine UH (hz:=by seq_fits) one rfl ?_
 exact q _ _ two fun b o n e=>up _ o _ b n (up _ o _ b n e)
theorem loop_all {I S:Addr}{n c:Nat}{P:Nat->Value->Prop}{fp:3e7}{St:Nat->Heap->Prop}{R:12e3}{res:Value}(W:Walks prog w A.in1 I fp [I] n P St)(few:n<=Yt)(off:S∉fp)(st:St 0 s.heap)
  (at_S:s.heap.get? S=some { cls:=.type "list",data:=.seq #[] c })
  (q:∀h' tk acc c',(∀b o,b≠S->b≠I->s.heap.get? b=some o->h'.get? b=some o)->h'.get? S=some { cls:=.type "list",dict:=none,data:=.seq acc c',slots:=#[] }->UX P acc n->R (.ok (.ret res)) { s with heap:=h',toks:=tk }):
  XU 2e5 A (.builtin "list.extend.loop" ⟨[.ref S,.ref I,res],[]⟩) R s:=by
 refine codeAny_extend_loopS W.toS few S off res n 0 s #[] c rfl (YV _) st at_S (ItemsOf.nil _) ?_
 intro z acc c' mv az items
 have e:=Moved.eq_with mv
 rw[e]
 exact q _ _ acc c' (fun b o n1 n2 x=>mv.heap b o (by simp[n1,n2]) x) az items
theorem extend_set {R:12e3}(hh:13e6)(hm:15e6)(TT:TI t es)(hl:w.params.followText "set-order"=false->t.led=true)(S:Addr)(hSa:S≠a)(res:Value)(c₀:Nat)(hS:s.heap.get? S=some { cls:=.type "list",data:=.seq #[] c₀ })
  (hR:∀h' d tk acc' c',(∀b o,b≠S->s.heap.get? b=some o->h'.get? b=some o)->h'.get? S=some { cls:=.type "list",dict:=none,data:=.seq acc' c',slots:=#[] }->acc'.toList.Perm (es.toList.map (·.2))->R (.ok (.ret res)) { s with heap:=h',drawn:=d,toks:=tk }):
  wpAny 2e5 A.in1 (Xu (.ref S) (.ref a) res)
   (fun fin s'=>match fin with | .done f=>R (.ok f) s' | .again c'=>c'.quiet=true/\XU (model prog w) A c' R s') (fun e s'=>R (.error e) s') s:=by
 have small:es.size<=1000000:=by have:=TT.few;have:=TT.mm.pos;lia
 have other:XV (.ref S) (.ref a)=false:=by simpa[XV] using hSa
 have kinds:(XQ "set"==XQ "list")=false/\(XQ "set"==XQ "tuple")=false:=by decide
 have S_lt:=Yv hS
 delta Xu
 apply Ya
 refine WL (T:="set") hm.ty ?_
 rw[other,kinds.1,kinds.2]
 apply Ya
 refine iter_set hm TT hl fun I h2 d arr fp St hI hfp k2 pm W st=>?_
 have off:S∉fp:=fun z=>(hfp S z).elim hSa fun y=>XX _ (Yk S_lt y)
 have few:arr.size<=sizeLine:=by
  have l:=pm.length_eq
  rw[YG,YG] at l
  rw[YU];lia
 have rest:∀h c1,St 0 h->h.get? S=some { cls:=.type "list",data:=.seq #[] c1 }->(∀b o,b≠S->s.heap.get? b=some o->h.get? b=some o)->
   XU 2e5 A (.builtin "list.extend.loop" ⟨[.ref S,.ref I,res],[]⟩) R { s with heap:=h,drawn:=d }:=fun h c1 st1 at_S kept=>
  loop_all (s:={ s with heap:=h,drawn:=d }) (W A.in1 hh) few off st1 at_S fun h' tk acc c' k a its=>hR h' d tk acc c' (fun b o n e=>k b o n (Yq (Yk (Yv e) hI)) (kept b o n e)) a (items_perm its pm)
 have quiet:=plainId_quiet PySem.F.plain_extend_loop ⟨[.ref S,.ref I,res],[]⟩
 apply Ya
 apply Xc
 refine hint_set (s:={ s with heap:=h2,drawn:=d }) (RawS.ty (s:={ s with heap:=h2,drawn:=d }) (hm.at fun o e=>k2 _ _ e)) ?_
 refine X7 (fun _=>?_) fun _=>Yc ⟨quiet,rest h2 c₀ st (k2 _ _ hS) fun b o _ e=>k2 b o e⟩
 apply Ya
 apply wpAny_rule
 apply Ya
 refine touch (s:={ s with heap:=h2,drawn:=d }) (k2 _ _ hS) fun h3 c3 a3 k3=>Yc ⟨quiet,rest h3 c3 ?_ a3 fun b o n e=>k3 b o n (k2 b o e)⟩
 exact (W A.in1 hh).frame 0 _ _ st fun b hb o e=>k3 b o (fun z=>off (z ▸ hb)) e
theorem ext_set {R:12e3}(hh:13e6)(hm:15e6)(TT:TI t es)(hl:w.params.followText "set-order"=false->t.led=true)(S:Addr)(hSa:S≠a)(c₀:Nat)(hS:s.heap.get? S=some { cls:=.type "list",data:=.seq #[] c₀ })
  (hR:∀h' d tk acc' c',(∀b o,b≠S->s.heap.get? b=some o->h'.get? b=some o)->h'.get? S=some { cls:=.type "list",dict:=none,data:=.seq acc' c',slots:=#[] }->acc'.toList.Perm (es.toList.map (·.2))->R (.ok (.ret (.ref S))) { s with heap:=h',drawn:=d,toks:=tk }):
  XU 2e5 A (.builtin "list.__iadd__" ⟨[.ref S,.ref a],[]⟩) R s:=by
 refine WV Um ?_
 rw[Around.under_plainId (show plainId "list.__iadd__"=true by decide +kernel) _]
 exact extend_set hh hm TT hl S hSa (.ref S) c₀ hS hR
theorem collect_set {Q:List Value->Shared->Prop}(hh:13e6)(hm:15e6)(TT:TI t es)(hl:w.params.followText "set-order"=false->t.led=true)
  (h:∀h' d tk vs,(∀b o,s.heap.get? b=some o->h'.get? b=some o)->s.heap.objs.size<=h'.objs.size->vs.Perm (es.toList.map (·.2))->Q vs { s with heap:=h',drawn:=d,toks:=tk }):wpAny (model prog w) A (UD (.ref a)) Q E s:=by
 unfold UD
 refine Ya (wpAny_runValue (WV VD ?_))
 refine Ya (Wx (Yc ⟨V4 _ 7e9,?_⟩))
 have hS:(s.heap.push (seqObj "list" #[] 0)).get? s.heap.objs.size=some { cls:=.type "list",data:=.seq #[] 0 }:=Yo _ rfl
 refine ext_set (s:={ s with heap:=s.heap.push (seqObj "list" #[] 0) }) hh (hm.at fun o e=>Yb _ e) TT hl s.heap.objs.size (X0 hm.lt) 0 hS fun h' d tk acc c k e ai=>?_
 refine Ya (wpAny_load e ?_)
 exact Yc (h h' d tk acc.toList (fun b o z=>k b o (Yq (Yv z)) (Yb _ z)) (XA (Yv e)) ai)
end
end Se
namespace L2
open PySem PySem.Spec PyProof.Rows Se
abbrev sc2 (elt t0 i0 t1 i1:Expr)(ifs:5e9)(scope:Scope)(pos:Pos):Expr:=.SetComp elt [⟨t0,i0,[],0⟩,⟨t1,i1,ifs,0⟩] scope pos
section
variable {prog:YC}{w:World}{A:Around}{R:12e3}{s:Shared}{elt t0 i0 t1 i1:Expr}{ifs:5e9}{scope:Scope}{pos:Pos}
theorem Zdr {it acc:Value}{env:Env}(hs:∀x,Y4 i1 env x=pure x)(I:Nat->Shared->Prop)
  (turn:∀k z,I k z->wpAny 2e5 A (pyNext it) (fun r z1=>match r with
   | none=>R (.ok .next) z1
   | some v=>wpAny 2e5 A (X4 t0 it v) (fun _ z2=>wpAny 2e5 A (assign t0 env v) (fun _ z3=>wpAny 2e5 A (eval i1 env) (fun x z4=>wpAny 2e5 A (pyIter x) (fun j z5=>
     XU (model prog w) A (.compStart (sc2 elt t0 i0 t1 i1 ifs scope pos) 1 j acc env) (fun r z6=>match r with | .ok _=>∃m,m < k/\I m z6 | .error _=>False) z5)
     (Out prog w A env R) z4) (Out prog w A env R) z3) (Out prog w A env R) z2) (Out prog w A env R) z1) (Out prog w A env R) z)
  (n:Nat) (h:I n s):XU 2e5 A (.compLoop 12e2 0 it acc env) R s:=by
 refine Ux rfl I ?_ n h
 intro k z hz
 refine UN (show wpAny _ A (UU i0.pos >>= _) _ _ z from ?_)
 apply Ya
 apply XY
 apply Ya
 refine Y0 (turn k z hz) ?_ fun _ _ e=>e
 rintro (_ | v) z1 y1
 ·exact Yc y1
 apply Ya
 refine Y0 y1 (fun _ z2 y2=>?_) fun _ _ e=>e
 apply Ya
 refine Y0 y2 (fun _ z3 y3=>?_) fun _ _ e=>e
 apply Ya
 apply wpAny_tests_nil
 apply Ya
 refine Y0 y3 (fun x z4 y4=>?_) fun _ _ e=>e
 apply Ya
 apply XY
 rw[hs]
 apply Ya
 apply Yc
 apply Ya
 apply Xc
 refine Y0 y4 (fun j z5 y5=>?_) fun _ _ e=>e
 apply Ya
 refine wpAny_runOwn (Us y5 ?_)
 rintro (e | f) z6 y6
 ·exact y6.elim
 ·exact Yc ⟨rfl,y6⟩
theorem Zdq {it acc:Value}{env:Env}(I:Nat->Shared->Prop)
  (turn:∀k z,I k z->wpAny 2e5 A (pyNext it) (fun r z1=>match r with
   | none=>R (.ok .next) z1
   | some v=>wpAny 2e5 A (X4 t1 it v) (fun _ z2=>wpAny 2e5 A (assign t1 env v) (fun _ z3=>wpAny 2e5 A (testsOf env ifs) (fun yes z4=>
     if yes=true then wpAny 2e5 A (eval elt env) (fun x z5=>wpAny 2e5 A (call (.builtin "set.add") [acc,x]) (fun _ z6=>∃m,m < k/\I m z6) (Out prog w A env R) z5) (Out prog w A env R) z4
     else ∃m,m < k/\I m z4) (Out prog w A env R) z3) (Out prog w A env R) z2) (Out prog w A env R) z1) (Out prog w A env R) z)
  (n:Nat) (h:I n s):XU 2e5 A (.compLoop 12e2 1 it acc env) R s:=by
 refine Ux rfl I ?_ n h
 intro k z hz
 refine UN (show wpAny _ A (UU i1.pos >>= _) _ _ z from ?_)
 apply Ya
 apply XY
 apply Ya
 refine Y0 (turn k z hz) ?_ fun _ _ e=>e
 rintro (_ | v) z1 y1
 ·exact Yc y1
 apply Ya
 refine Y0 y1 (fun _ z2 y2=>?_) fun _ _ e=>e
 apply Ya
 refine Y0 y2 (fun _ z3 y3=>?_) fun _ _ e=>e
 apply Ya
 refine Y0 y3 (fun yes z4 y4=>?_) fun _ _ e=>e
 by_cases b:yes=true
 ·subst b
  apply Ya
  apply Ya
  refine Y0 y4 (fun x z5 y5=>?_) fun _ _ e=>e
  apply Ya
  apply XY
  apply Ya
  exact Y0 y5 (fun _ z6 y6=>Yc (Yc ⟨rfl,y6⟩)) fun _ _ e=>e
 ·have nb:yes=false:=by simpa using b
  subst nb
  exact Yc ⟨rfl,y4⟩
abbrev noted (prog:YC)(w:World)(A:Around)(env:Env)(R:12e3):Value->Shared->Prop:=Out prog w A env R
theorem Zcn {d:Nat}{it acc:Value}{env:Env}(hd:d < 2)
  (h0:XU 2e5 A (.compLoop 12e2 d it acc env) R s)
  (h:wpAny 2e5 A (pyIter it) (fun j z=>XU 2e5 A (.compLoop 12e2 d j acc env) R z) (noted prog w A env R) s):
  XU 2e5 A (.compStart 12e2 d it acc env) R s:=by
 have two:d=0\/d=1:=by lia
 refine codeAny_of_tree (wpAny_notedAt ?_)
 delta compStart
 rcases two with rfl | rfl
 all_goals
  refine Ya (m:=ask) (Wb (wpAny_ite ?_))
  split
  ·first
    | exact Yc ⟨rfl,h0⟩
    | exact Ya (Yc (Yc ⟨rfl,h0⟩))
  ·refine Ya (wpAny_rule ?_)
   refine Ya (m:=UU _) (XY (Ya (Y0 h ?_ fun _ _ e=>e)))
   exact fun j z y=>Yc ⟨rfl,y⟩
end
section
variable {prog:YC}{w:World}{A:Around}{E:1e5}{s:Shared}
theorem SetU.typeIs {K:Type} [DecidableEq K]{knd:KeyKind prog w K}{a:Addr}{L:Bool}{bs:List (List K×Addr)}(x:SetU knd s.heap a L bs):s.TypeIs (.ref a) "set":=let ⟨o,_,_,_,ho,hex,_⟩:=x;⟨o,ho,hex.1⟩
theorem call_addU {K:Type} [DecidableEq K]{knd:KeyKind prog w K}{a x:Addr}{k:List K}{bs:List (List K×Addr)}{L:Bool}{Q:1e5}(hu:A.units + 1 < cLine)(hS:SetU knd s.heap a L bs)(hbk:∀p∈bs,X1 knd s.heap p.1 p.2)(hk:X1 knd s.heap k x)(hroom:bs.length + 1 < 77)
  (h:∀h' tk,Wc a s.heap h'->SetU knd h' a L (insU bs k x)->Q .none { s with heap:=h',toks:=tk }):wpAny (model prog w) A (call (.builtin "set.add") [.ref a,.ref x]) Q E s:=by
 have room:A.in1.units < cLine:=by rw[YT];lia
 refine Y9 F.slot_set_add (SetU.typeIs hS) F.entry_set_add ?_ (F.args_set_add_2 _ _)
 delta W0.«set.add» Builtin.Frozenset.oneOther Builtin.Frozenset.addrOf setAdd
 repeat first
  | refine (WI knd).pyHash room hk ?_
  | refine addU (s:={ s with toks:=s.toks + (WI knd).draws k }) room hS hbk hk hroom fun b h' same has=>?_
  | wp_step
 exact ⟨_,rfl,h h' _ same has⟩
theorem newSet_at {Q:1e5}(h:Q 9e5 { s with heap:=s.heap.push (newSetObj (!w.params.followText "set-order")) }):wpAny (model prog w) A (newSet (.type "set")) Q E s:=by
 delta newSet UL
 apply Ya
 apply Ya
 apply Wb
 apply Yc
 exact Xy h
end
abbrev BS:=List (List Key×Addr)
def FineB (bs:BS)(H:Hp):Prop:=∀p∈bs,H p.2=some (.tup (p.1.map kV))
def CompWS1 (J:It)(g:TG)(tt:TT)(te:TE)(bs0:BS)(σ0:St)(H0:Hp)(N:St->BS->Hp->Prop):Prop:=
 ∃W:Nat->Nat->St->BS->Hp->Prop,(∃m,W 0 m σ0 bs0 H0)/\∀i m σ bs H,W i m σ bs H->
  (J.stop i H/\N σ bs H)\/
  (J.go i H/\∃N1:St->BS->Hp->Prop,(∀σ2 bs2 H2,N1 σ2 bs2 H2->∃m',m' < m/\W (i + 1) m' σ2 bs2 H2)/\∀x H',J.yld i H x H'->g x σ H' fun σ2 H2=>tt σ2 H2 fun b H3=>
   if b=true then te σ2 H3 fun y H4=>∃k a,y=.ref a/\H4 a=some (.tup (k.map kV))/\FineB bs H4/\bs.length + 1 < 77/\N1 σ2 (insU bs k a) H4 else N1 σ2 bs H3)
def CompWS (J:It)(vs:5e6)(fr:11e8)(g0:TG)(wi1:TI)(g1:TG)(tt:TT)(te:TE)(σ:St)(H1:Hp)(Q:BS->Hp->Prop):Prop:=
 ∃W:Nat->Nat->St->BS->Hp->Prop,(∃m,W 0 m (stIn vs fr σ) [] H1)/\∀i m σ' bs H,W i m σ' bs H->
  (J.stop i H/\Q bs H)\/
  (J.go i H/\∃N:St->BS->Hp->Prop,(∀σ2 bs2 H2,N σ2 bs2 H2->∃m',m' < m/\W (i + 1) m' σ2 bs2 H2)/\∀x H',J.yld i H x H'->g0 x σ' H' fun σ2 H2=>wi1 σ2 H2 fun J1 H3=>CompWS1 J1 g1 tt te bs σ2 H3 N)
section
variable {Y:Cx}{elt t0 i0 t1 i1:Expr}{ifs:5e9}{scope:Scope}{pos:Pos}{g:TG}{tt:TT}{te:TE}
theorem pinS {pins:2e0}{σ σ':St}{H H':Hp}{s s':Shared}{D:Addr}{o:Obj}{L:Bool}{bs:BS}(S:SetU (mixKind Y.prog Y.w) s.heap D L bs)(e:s.heap.get? D=some o)(e':s'.heap.get? D=some o):SetU (mixKind Y.prog Y.w) s'.heap D L bs:=
 S.at fun u q=>by rw[e] at q;cases q;exact e'
theorem inner_run {D:Addr}{L:Bool}{pl:2e0}{J:It}{it:Addr}{fp:3e7}{tn:Nat->Heap->Prop}{bs:BS}{σ:St}{H:Hp}{s:Shared}{N:St->BS->Hp->Prop}{o:Obj}{R:12e3}
  (eC:Y.calm=true) (hu:Y.A.units + 1 < cLine) (eX:Y.xe=fun _ _=>False) (hG:PG Y t1 g) (hT:PTs Y ifs tt) (hE:PE Y elt te) (hDf:∀H:Hp,H D=none->FpOk Y pl H D)
  (T:Turn Y.prog Y.w Y.K t1 J fp it tn) (q:CompWS1 J g tt te bs σ H N) (I:Inv Y ((D,o)::pl) σ H s) (S:SetU (mixKind Y.prog Y.w) s.heap D L bs) (st:tn 0 s.heap) (f1:∀b∈fp,FpOk Y ((D,o)::pl) H b)
  (hR:∀σ' bs' H' s' o',Inv Y ((D,o')::pl) σ' H' s'->SetU (mixKind Y.prog Y.w) s'.heap D L bs'->N σ' bs' H'->R (.ok .next) s'):
  XU (model Y.prog Y.w) Y.A (.compStart 12e2 1 (.ref it) (.ref D) Y.env) R s:=by
 obtain ⟨W,⟨m0,w0⟩,turn⟩:=q
 have fpD:∀b∈fp,b≠D:=fun b hb=>Xw ((f1 b hb).2.2.2.2.2 (D,o) (Ye _ YA))
 have stat:∀{H':Hp} {o':Obj},12e0->∀b∈fp,FpOk Y ((D,o')::pl) H' b:=fun {H' o'} hn b hb=>by
  obtain ⟨a0,a1,a2,a3,a4,a5⟩:=f1 b hb
  refine ⟨hn b hb,a1,a2,a3,a4,fun p hp=>?_⟩
  rcases Yz.mp hp with hp | hp
  ·exact a5 p (Yx _ hp)
  ·rcases Yn.mp hp with rfl | hp
   ·exact Xw (fpD b hb)
   ·exact a5 p (Ye _ (YO _ hp))
 have pin1:∀{pm:2e0} {σ':St} {H':Hp} {s':Shared} {o':Obj},Inv Y (((D,o')::pl)++pm) σ' H' s'->s'.heap.get? D=some o'/\H' D=none:=fun {pm σ' H' s' o'} i=>by
  have:=i.pin (D,o') (Ye _ (Yx _ YA))
  exact ⟨this.1,this.2.1⟩
 have pin0:∀{σ':St} {H':Hp} {s':Shared} {o':Obj},Inv Y ((D,o')::pl) σ' H' s'->s'.heap.get? D=some o'/\H' D=none:=fun {σ' H' s' o'} i=>by
  have:=i.pin (D,o') (Ye _ YA)
  exact ⟨this.1,this.2.1⟩
 have loop:XU (model Y.prog Y.w) Y.A (.compLoop 12e2 1 (.ref it) (.ref D) Y.env) R s:=by
  refine Zdq (fun n s'=>∃i σ' bs' H' o',Inv Y ((D,o')::pl) σ' H' s'/\SetU (mixKind Y.prog Y.w) s'.heap D L bs'/\tn i s'.heap/\12e0/\W i n σ' bs' H') ?_ m0
   ⟨0,σ,bs,H,o,I,S,st,fun b hb=>(f1 b hb).1,w0⟩
  rintro n s3 ⟨i,σ3,bs3,H3,o3,J3,S3,st3,fr3,w3⟩
  have pD:=pin0 J3
  rcases turn i n σ3 bs3 H3 w3 with ⟨stop,qn⟩ | ⟨go,N1,hN,step⟩
  ·refine Za7 (T.done Y rfl rfl rfl eC i _ s3 σ3 H3 (fun _ _=>False) J3 (stat fr3) st3 stop) fun r s4 h_=>?_
   obtain ⟨hr,J4⟩:=h_
   subst hr
   exact hR σ3 bs3 H3 s4 o3 J4 (pinS (Y:=Y) (pins:=[]) (σ:=σ) (σ':=σ) (H:=H) (H':=H) S3 pD.1 (pin0 J4).1) qn
  ·refine Za7 (T.item Y rfl rfl rfl eC i _ s3 σ3 H3 (fun _ _=>False) J3 (stat fr3) st3 go) fun r s4 h_=>?_
   obtain ⟨u,hr,h4⟩:=h_
   subst hr
   refine Za7 h4 fun _ s5 h_=>?_
   obtain ⟨x,H5,J5,r5,y5,st5,fr5⟩:=h_
   have J5':=J5.pinned (stat fr5) (T.obj _ _ st5)
   have go1:=hG _ s5 σ3 H5 x u _ J5' r5 (step x H5 y5)
   rw[eX] at go1
   refine Za7 go1 fun _ s6 h_=>?_
   obtain ⟨σ6,H6,J6,q6⟩:=h_
   have go2:=hT _ s6 σ6 H6 _ J6 q6
   rw[eX] at go2
   refine Za7 go2 fun ok s7 h_=>?_
   obtain ⟨H7,J7,q7⟩:=h_
   have fin:∀{σ8:St} {H8:Hp} {s8:Shared},Inv Y (((D,o3)::pl)++pinsAt fp s5.heap) σ8 H8 s8->
     tn (i + 1) s8.heap/\(∀b∈fp,H8 b=none):=fun {σ8 H8 s8} J8=>by
    refine ⟨T.keep _ _ _ st5 fun b hb o e=>(J8.pin (b,o) (Ye _ (Ye _ (ZaW hb e)))).1,fun b hb=>?_⟩
    obtain ⟨o,e,d⟩:=T.obj _ _ st5 b hb
    exact (J8.pin (b,o) (Ye _ (Ye _ (ZaW hb e)))).2.1
   cases ok with
   | false=>
    rw[if_neg Yu] at q7 ⊢
    obtain ⟨m',hm,w7⟩:=hN _ _ _ q7
    exact ⟨m',hm,i + 1,σ6,bs3,H7,o3,J7.unpinned,pinS (Y:=Y) (pins:=[]) (σ:=σ) (σ':=σ) (H:=H) (H':=H) S3 pD.1 (pin1 J7).1,(fin J7).1,(fin J7).2,w7⟩
   | true=>
    rw[if_pos rfl] at q7 ⊢
    have go3:=hE _ s7 σ6 H7 _ J7 q7
    rw[eX] at go3
    refine Za7 go3 fun yv s8 h_=>?_
    obtain ⟨y,H8,J8,r8,k,a,ey,ha,fb,hroom,n8⟩:=h_
    subst ey
    cases (show yv=YF a from r8)
    obtain ⟨m',hm,w8⟩:=hN _ _ _ n8
    have pD8:=pin1 J8
    have S8:=pinS (Y:=Y) (pins:=[]) (σ:=σ) (σ':=σ) (H:=H) (H':=H) (s':=s8) S3 pD.1 pD8.1
    refine call_addU (by first | exact hu | lia) S8 (fun p hp=>ZcA J8.hok (fb p hp)) (ZcA J8.hok ha) hroom fun h9 tk hs9 S9=>?_
    obtain ⟨d0,d1,d2,d3,d4,d5⟩:=hDf H8 pD8.2
    obtain ⟨o9,ho9,cx9,dt9⟩:∃o9,h9.get? D=some o9/\o9.ExactSet/\∀v,o9.data≠.cell v:=by
     obtain ⟨o9,es,ep,t,e1,e2,e3,_⟩:=S9
     exact ⟨o9,e1,e2,fun v z=>by rw[e3] at z;cases z⟩
    have Jp:Inv Y pl σ6 H8 s8:=J8.pins_of fun p hp=>J8.pin p (Ye _ (Yx _ (YO _ hp)))
    have J9:Inv Y pl σ6 H8 { s8 with heap:=h9,toks:=tk }:=Jp.turned (fun b o hb e=>(hs9.2 b hb).trans e) d0 d1 d3 d4 d5
    refine ⟨m',hm,i + 1,σ6,_,H8,o9,J9.pins_of fun p hp=>?_,S9,?_,(fin J8).2,w8⟩
    ·rcases Yn.mp hp with rfl | hp
     ·exact ⟨ho9,d0,d1,d2,dt9⟩
     ·exact J9.pin p (Ye _ hp)
    ·exact T.keep _ _ _ (fin J8).1 fun b hb o e=>(hs9.2 b (fpD b hb)).trans e
 exact Zcn 1e1 loop (T.self _ 0 _ _ _ st loop)
end
section
variable {X:Cx}{elt t0 i0 t1 i1:Expr}{ifs:5e9}{scope:Scope}{pos:Pos}{vs fs:5e6}{fr:11e8}{g0 g1:TG}{wi1:TI}{tt:TT}{te:TE}
abbrev ledOf (X:Cx):Bool:=!X.w.params.followText "set-order"
theorem comp_blockS {pins:2e0}{σ:St}{H:Hp}{s:Shared}{Q:BS->Hp->Prop}{it:Addr}{fp:3e7}{tn:Nat->Heap->Prop}{J:It}{RR:Value->Addr->Result->Shared->Prop}
  (S:9e6) (hc:9e9) (hu:X.A.units + 1 < cLine)
  (hs1:∀(env:Env) x,Y4 i1 env x=pure x)
  (bG0:∀C s₀ H₀ ex pn,PG 1e3 t0 g0) (bI:∀C s₀ H₀ ex pn,PI 1e3 t1 i1 wi1) (bG1:∀C s₀ H₀ ex pn,PG 1e3 t1 g1)
  (bT:∀C s₀ H₀ ex pn,PTs 1e3 ifs tt) (bE:∀C s₀ H₀ ex pn,PE 1e3 elt te)
  (I:2e3) (T:Turn X.prog X.w X.K t0 J fp it tn) (st:tn 0 s.heap) (hf:∀b∈fp,FpOk X pins H b)
  (q:CompWS J vs fr g0 wi1 g1 tt te σ H Q)
  (hRR:∀D C H' s' m' bs,Inv X pins σ H' s'->SetU (mixKind X.prog X.w) s'.heap D (ledOf X) bs->H' D=none->s.heap.objs.size<=D->D≠C->Q bs H'->s'.heap.Ns C m'->H' C=none->s.heap.objs.size<=C->RR (.ref D) C (.ok .next) s'):
  wpAny 2e4 X.A (newSet (.type "set")) (fun acc s₃=>wpAny 2e4 X.A (newFunctionEnv scope X.env.globals 12e1 [] X.env.qual none .none (some X.env)) (fun cenv s₄=>
   XU (model X.prog X.w) X.A (.compStart (sc2 elt t0 i0 t1 i1 ifs scope pos) 0 (.ref it) acc { cenv with scope:=relabel scope X.env }) (RR acc cenv.locals) s₄) X.xe s₃) X.xe s:=by
 obtain ⟨W,⟨m0,w0⟩,turn⟩:=q
 refine newSet_at (VC S.cell' (by intro y hy;simp at hy) (fun h₁ hns₁ hsb₁=>?_) S.kind)
 dsimp only at hns₁ hsb₁ ⊢
 generalize hH2:s.heap.push (newSetObj (ledOf X))=H2 at hns₁ hsb₁ ⊢
 have hCs:H2.objs.size=s.heap.objs.size + 1:=by rw[←hH2,Vs]
 have hDC:s.heap.objs.size≠H2.objs.size:=by rw[hCs];exact Yq (W5 _)
 have hCle:s.heap.objs.size<=H2.objs.size:=by rw[hCs];exact Ug _
 have old:∀b o,s.heap.get? b=some o->h₁.get? b=some o:=fun b o e=>hsb₁.extBut b o (ZaO e hCle) (Yb _ (hH2 ▸ Yb _ e))
 have hacc:h₁.get? s.heap.objs.size=some (newSetObj (ledOf X)):=hsb₁.extBut _ _ hDC (Yb _ (hH2 ▸ Yo _ rfl))
 have hfo:∀b∈fp,∃o,s.heap.get? b=some o:=fun b hb=>by obtain ⟨o,e,_⟩:=T.obj 0 _ st b hb;exact ⟨o,e⟩
 have SU0:SetU (mixKind X.prog X.w) h₁ s.heap.objs.size (ledOf X) []:=⟨_,#[],0,_,hacc,⟨rfl,rfl,rfl⟩,rfl,rfl,TI.fresh _,by simp,.nil⟩
 generalize hY:CompCx X (vs++fs) scope H2.objs.size s H fp (X.pn++pins)=Y
 have J0:Inv Y [] (stIn vs fr σ) H { s with heap:=h₁,toks:=s.toks + ([]:List (Str×Value)).length }:=by
  rw[←hY];exact Zcv S I hf hfo hCle hns₁ old
 have hG0:PG Y t0 g0:=by rw[←hY];exact bG0 _ _ _ _ _
 have hI:PI Y t1 i1 wi1:=by rw[←hY];exact bI _ _ _ _ _
 have hG1:PG Y t1 g1:=by rw[←hY];exact bG1 _ _ _ _ _
 have hT:PTs Y ifs tt:=by rw[←hY];exact bT _ _ _ _ _
 have hE:PE Y elt te:=by rw[←hY];exact bE _ _ _ _ _
 have ePr:Y.prog=X.prog:=by rw[←hY];rfl
 have eW:Y.w=X.w:=by rw[←hY];rfl
 have eK:Y.K=X.K:=by rw[←hY];rfl
 have eA:Y.A=X.A:=by rw[←hY];rfl
 have eC:Y.calm=true:=by rw[←hY];exact hc
 have eEnv:Y.env=UI scope 12e1 H2.objs.size X.env:=by rw[←hY];rfl
 have eL:Y.env.locals=H2.objs.size:=by rw[eEnv];rfl
 have eX:Y.xe=fun _ _=>False:=by rw[←hY];rfl
 have eS:Y.s₀=s:=by rw[←hY];rfl
 have eEx:Y.ex=fp:=by rw[←hY];rfl
 have eFs:Y.fs=frs X.stack:=by rw[←hY];rfl
 have ePn:Y.pn=X.pn++pins:=by rw[←hY];rfl
 have eCl:∀x c,Y.env.cells.lookup x=some c->X.env.cells.lookup x=some c:=fun x c e=>by
  rw[eEnv] at e;exact S.cl I.ok e
 have cellLt:∀x c,Y.env.cells.lookup x=some c->c≠s.heap.objs.size:=fun x c e=>by
  obtain ⟨v,z⟩:=I.cell x c (eCl x c e);exact Yq z.lt
 have pnLt:∀p∈Y.pn,p.1≠s.heap.objs.size:=fun p hp=>by
  rw[ePn] at hp;exact ZaO (I.pin p hp).1 (Yj _)
 have fpD:∀b∈fp,b≠s.heap.objs.size:=fun b hb=>by obtain ⟨o,e⟩:=hfo b hb;exact ZaO e (Yj _)
 have hDfs:s.heap.objs.size∉Y.fs:=fun z=>by
  rw[eFs] at z
  rcases Yn.mp (I.stkSub _ z) with z | z
  ·exact absurd I.lt (by rw[←z];exact XX _)
  ·exact I.nofs (Yj _) z
 have stat:∀{H':Hp} {o:Obj},12e0->∀b∈fp,FpOk Y [(s.heap.objs.size,o)] H' b:=fun {H' o} hn b hb=>by
  obtain ⟨f0,f1,f2,f3,f4,f5⟩:=hf b hb
  obtain ⟨ob,e⟩:=hfo b hb
  refine ⟨hn b hb,by rw[eL];exact ZaO e hCle,fun z=>?_,.inl (by rw[eEx];exact hb),fun x c e=>f4 x c (eCl x c e),fun p hp=>?_⟩
  ·rw[eFs] at z
   rcases Yn.mp (I.stkSub _ z) with z | z
   ·exact f1 z
   ·exact f2 z
  ·rcases Yz.mp hp with hp | hp
   ·rw[ePn] at hp;exact f5 p hp
   ·have:p=(s.heap.objs.size,o):=by simpa using hp
    rw[this];exact Xw (fpD b hb)
 have loop:∀s₃:Shared,s₃={ s with heap:=h₁,toks:=s.toks + ([]:List (Str×Value)).length }->
   XU 2e4 X.A (.compLoop 12e2 0 (.ref it) 9e5 (UI scope 12e1 H2.objs.size X.env))
    (RR 9e5 H2.objs.size) s₃:=by
  rintro s₃ rfl
  rw[←eEnv,←ePr,←eW,←eA]
  have SU0':SetU (mixKind Y.prog Y.w) h₁ s.heap.objs.size (ledOf X) []:=by rw[ePr,eW];exact SU0
  refine Zdr (hs1 _) (fun n s'=>∃i σ' bs H' o,Inv Y [(s.heap.objs.size,o)] σ' H' s'/\SetU (mixKind Y.prog Y.w) s'.heap s.heap.objs.size (ledOf X) bs/\tn i s'.heap/\12e0/\W i n σ' bs H') ?_ m0
   ⟨0,_,[],H,newSetObj (ledOf X),J0.pins_of fun p hp=>?_,SU0',T.keep _ _ _ st fun b _ o e=>old b o e,fun b hb=>(hf b hb).1,w0⟩
  case refine_2=>
   have:p=(s.heap.objs.size,newSetObj (ledOf X)):=by simpa using hp
   subst this
   exact ⟨hacc,I.hok.fresh (Yj _),by rw[eL];exact hDC,hDfs,fun v z=>by cases z⟩
  rintro n s3 ⟨i,σ3,bs3,H3,o3,J3,S3,st3,fr3,w3⟩
  have pD:=J3.pin (s.heap.objs.size,o3) (Ye _ (Yh.mpr rfl))
  rcases turn i n σ3 bs3 H3 w3 with ⟨stop,qn⟩ | ⟨go,N,hN,step⟩
  ·have dn:=T.done Y ePr eW eK eC i _ s3 σ3 H3 (fun _ _=>False) J3 (stat fr3) st3 stop
   rw[←ePr,←eW] at dn
   refine Za7 dn fun r s4 h_=>?_
   obtain ⟨hr,J4⟩:=h_
   subst hr
   have pD4:=J4.pin (s.heap.objs.size,o3) (Ye _ (Yh.mpr rfl))
   obtain ⟨m4,hm4,_⟩:=id J4.loc
   rw[eL] at hm4
   have nC:H3 H2.objs.size=none:=by rw[←eL];exact J4.free
   have S4:=S3.at fun u q=>by rw[pD.1] at q;cases q;exact pD4.1
   rw[ePr,eW] at S4
   exact hRR _ _ _ s4 m4 bs3 (ZdE I hf (by rw[hY];exact J4)) S4 pD4.2.1 (Yj _) hDC qn hm4 nC hCle
  ·have im:=T.item Y ePr eW eK eC i _ s3 σ3 H3 (fun _ _=>False) J3 (stat fr3) st3 go
   rw[←ePr,←eW] at im
   refine Za7 im fun r s4 h_=>?_
   obtain ⟨u,hr,h4⟩:=h_
   subst hr
   refine Za7 h4 fun _ s5 h_=>?_
   obtain ⟨x,H5,J5,r5,y5,st5,fr5⟩:=h_
   have J5':=J5.pinned (stat fr5) (T.obj _ _ st5)
   have go1:=hG0 _ s5 σ3 H5 x u _ J5' r5 (step x H5 y5)
   rw[eX] at go1
   refine Za7 go1 fun _ s6 h_=>?_
   obtain ⟨σ6,H6,J6,q6⟩:=h_
   have go2:=hI _ s6 σ6 H6 _ J6 q6
   rw[eX] at go2
   refine Za7 go2 fun xv s7 h7=>Za7 h7 fun itv s8 h8=>?_
   obtain ⟨it1,fp1,tn1,J1,H8,e8,J8,T1,st8,f8,q8⟩:=h8
   subst e8
   have pD8:=J8.pin (s.heap.objs.size,o3) (Ye _ (Yx _ (Yh.mpr rfl)))
   have S8:SetU (mixKind Y.prog Y.w) s8.heap s.heap.objs.size (ledOf X) bs3:=S3.at fun u q=>by rw[pD.1] at q;cases q;exact pD8.1
   refine inner_run (D:=s.heap.objs.size) (L:=ledOf X) (pl:=pinsAt fp s5.heap) (o:=o3) eC (by rw[eA];exact hu) eX hG1 hT hE (fun H' hn=>⟨hn,by rw[eL];exact hDC,hDfs,.inr (by rw[eS];exact Yj _),cellLt,fun p hp=>?_⟩) T1 q8 J8 S8 st8 f8 fun σ9 bs9 H9 s9 o9 J9 S9 n9=>?_
   ·rcases Yz.mp hp with hp | hp
    ·exact pnLt p hp
    ·exact fpD _ (of_pinsAt hp).1
   ·obtain ⟨m',hm,w9⟩:=hN _ _ _ n9
    refine ⟨m',hm,i + 1,σ9,bs9,H9,o9,J9.pins_of fun p hp=>J9.pin p (Ye _ ?_),S9,T.keep _ _ _ st5 fun b hb o e=>(J9.pin (b,o) (Ye _ (YO _ (ZaW hb e)))).1,fun b hb=>?_,w9⟩
    ·have:p=(s.heap.objs.size,o9):=by simpa using hp
     rw[this];exact YA
    ·obtain ⟨o,e,d⟩:=T.obj _ _ st5 b hb
     exact (J9.pin (b,o) (Ye _ (YO _ (ZaW hb e)))).2.1
 exact Zcn 1e1 (loop _ rfl) (T.self _ 0 _ _ _ (T.keep _ _ _ st fun b _ o e=>old b o e) (loop _ rfl))
def SetE (X:Cx)(pins:2e0)(σ:St)(Q:BS->Hp->Prop)(v:Value)(s':Shared):Prop:=∃D bs H',v=.ref D/\Inv X pins σ H' s'/\SetU (mixKind X.prog X.w) s'.heap D (ledOf X) bs/\H' D=none/\Q bs H'
theorem setcomp_at {wi0:TI}(S:9e6)(hc:9e9)(hu:X.A.units + 1 < cLine)(hi:PI X t0 i0 wi0)
  (hs1:∀(env:Env) x,Y4 i1 env x=pure x)
  (bG0:∀C s₀ H₀ ex pn,PG 1e3 t0 g0) (bI:∀C s₀ H₀ ex pn,PI 1e3 t1 i1 wi1) (bG1:∀C s₀ H₀ ex pn,PG 1e3 t1 g1)
  (bT:∀C s₀ H₀ ex pn,PTs 1e3 ifs tt) (bE:∀C s₀ H₀ ex pn,PE 1e3 elt te)
  {pins:2e0} {s:Shared} {σ:St} {H:Hp} {Q:BS->Hp->Prop} (I:2e3) (h:wi0 σ H fun J H1=>CompWS J vs fr g0 wi1 g1 tt te σ H1 Q)
  (hs:∀x,Y4 i0 X.env x=pure x):
  wpAny 2e4 X.A (eval 12e2 X.env) (SetE X pins σ Q) X.xe s:=by
 rw[arm_eval_SetComp]
 refine Wp (use:=none) rfl hs (ZbX (S.clos I.ok)) S.kind S.loc' (thn (hi pins s σ H _ I h) fun v s1 h1=>thn h1 fun itv s2 h2=>?_)
 obtain ⟨it,fp,tn,J,H2,e,I2,T,st2,f2,q2⟩:=h2
 subst e
 refine comp_blockS (RR:=fun acc C=>compPost 2e4 X.A X.xe none (SetE X pins σ Q) acc C) S hc hu hs1 bG0 bI bG1 bT bE I2 T st2 f2 q2 ?_
 intro D C H' s' m' bs I' SU hD hle0 hDC hq hn hC hle
 refine ⟨m',hn,fun h' hs'=>⟨D,bs,H',rfl,?_,SU.at fun o e=>(hs'.2 D hDC).trans e,hD,hq⟩⟩
 refine I'.turned (t':=s'.toks) (fun b o hb e=>(hs'.2 b hb).trans e) hC ?_ (.inr (YR I2.sz hle)) ?_ ?_
 ·exact X0 (Yk I2.lt hle)
 ·intro x c e
  obtain ⟨v,z⟩:=I2.cell x c e
  exact Yq (Yk z.lt hle)
 ·intro p hp
  exact ZaO (I2.pin p hp).1 hle
end
end L2
namespace Pu
open PySem PySem.Spec PySem.W PySem.Calls L2 PySem.SeqAt
open PyProof.Rows hiding St Fr
theorem Za1:∀(qs:9e7),keysP (qs.map kP)=some qs
 | []=>rfl
 | q::qs=>by rw[Yw];unfold keysP;rw[keyP_kP,Za1 qs]
section
variable {X:Cx}{e o i a:Expr}{es:5e9}{p pos pos' cpos apos:Pos}{x:Str}{fv fo fi fa:4e3}{fs:2e9}
def mNewK (i:Nat):PSt->M PF:=fun ρ C=>some (.nx (ρ.set i (some (.c C.length))),C++[.dct [] []])
def setK (v o i:SV)(ρ:PSt):M PF:=fun C=>match o,i,v with
 | .c k,.v ip,.v p=>match C[k]?,keyP ip with
  | some (.dct ks ps),some key=>match keysP ks with
   | some qs=>if ks.length < 1000 then some (.nx ρ,C.set k (.dct ((putKs qs key).map kP) (putVs qs ps key p))) else none
   | none=>none
  | _,_=>none
 | _,_,_=>none
def mSetIxK (fv fo fi:4e3):PSt->M PF:=fun ρ=>bnd (fv ρ) fun v=>bnd (fo ρ) fun o=>bnd (fi ρ) fun i=>setK v o i ρ
theorem setK_some {v o i:SV}{ρ:PSt}{C C2:Cs}{fl:PF}(h:setK v o i ρ C=some (fl,C2)):∃k ip p ks ps qs key,o=.c k/\i=.v ip/\v=.v p/\C[k]? = some (.dct ks ps)/\keyP ip=some key/\keysP ks=some qs/\ks.length < 1000/\fl=.nx ρ/\C2=C.set k (.dct ((putKs qs key).map kP) (putVs qs ps key p)):=by
 unfold setK at h
 split at h
 ·split at h
  ·split at h
   ·split at h
    ·cases h;exact ⟨_,_,_,_,_,_,_,rfl,rfl,rfl,by assumption,by assumption,by assumption,by assumption,rfl,rfl⟩
    ·cases h
   ·cases h
  ·cases h
 ·cases h
end
mutual
def flat:PV->Bool
 | .lst _=>false
 | .dct _ _=>false
 | .dtt _ _=>false
 | .tup xs=>flats xs
 | _=>true
def flats:List PV->Bool
 | []=>true
 | p::r=>flat p&&flats r
end
def flatC:PV->Bool
 | .lst ps=>flats ps
 | .dct _ ps=>flats ps
 | .dtt _ ps=>flats ps
 | _=>false
section
variable {K:W.Frag}{ι ι':3e7}{H H':Hp}{C:Cs}
mutual
theorem Rep.flat:∀(p:PV) (v:V),Pu.flat p=true->Rep K ι H p v->Rep K ι' H p v
 | .non,v,_,h=>by unfold Rep at h ⊢;exact h
 | .bl b,v,_,h=>by unfold Rep at h ⊢;exact h
 | .int i,v,_,h=>by unfold Rep at h ⊢;exact h
 | .str x,v,_,h=>by unfold Rep at h ⊢;exact h
 | .tup ps,v,f,h=>by
  unfold Rep at h ⊢
  obtain ⟨a,vs,e,sq,r⟩:=h
  exact ⟨a,vs,e,sq,Reps.flat ps vs (by unfold Pu.flat at f;exact f) r⟩
 | .lst ps,v,f,h=>by unfold Pu.flat at f;cases f
 | .dct ks ps,v,f,h=>by unfold Pu.flat at f;cases f
 | .dtt ks ps,v,f,h=>by unfold Pu.flat at f;cases f
 | .fn a,v,_,h=>by unfold Rep at h ⊢;exact h
 | .ty n,v,_,h=>by unfold Rep at h ⊢;exact h
theorem Reps.flat:∀(ps:List PV) (vs:List V),Pu.flats ps=true->Reps K ι H ps vs->Reps K ι' H ps vs
 | [],vs,_,h=>by unfold Reps at h ⊢;exact h
 | p::ps,vs,f,h=>by
  unfold Reps at h ⊢
  obtain ⟨v,r,e,h1,h2⟩:=h
  unfold Pu.flats at f
  rw[Ys] at f
  exact ⟨v,r,e,Rep.flat p v f.1 h1,Reps.flat ps r f.2 h2⟩
end
theorem CellOk.flat {a:Addr}{c:PV}(f:flatC c=true)(h:CellOk K ι H a c):CellOk K ι' H a c:=by
 cases c with
 | lst ps=>obtain ⟨vs,e,r⟩:=h;exact ⟨vs,e,Reps.flat _ _ f r⟩
 | dct ks ps=>obtain ⟨qs,vs,e,hl,hk,r⟩:=h;exact ⟨qs,vs,e,hl,hk,Reps.flat _ _ f r⟩
 | dtt ks ps=>obtain ⟨vs,e,hl,r⟩:=h;exact ⟨vs,e,hl,Reps.flat _ _ f r⟩
 | _=>exact h.elim
theorem CellOk.cells {a:Addr}{c:PV}(hs:∀b o,H b=some o->b∉ι->b∉ι')(h:CellOk K ι H a c):CellOk K ι' H a c:=by
 cases c with
 | lst ps=>obtain ⟨vs,e,r⟩:=h;exact ⟨vs,e,15e5⟩
 | dct ks ps=>obtain ⟨qs,vs,e,hl,hk,r⟩:=h;exact ⟨qs,vs,e,hl,hk,15e5⟩
 | dtt ks ps=>obtain ⟨vs,e,hl,r⟩:=h;exact ⟨vs,e,hl,15e5⟩
 | _=>exact h.elim
theorem CellOk.rep {a:Addr}{c:PV}(hna:a∉ι')(hs:∀b o,H b=some o->b∉ι->b∉ι')(h:CellOk K ι H a c):Rep K ι' H c (.ref a):=by
 cases c with
 | lst ps=>obtain ⟨vs,e,r⟩:=h;unfold Rep;exact ⟨a,vs,rfl,.inl ⟨hna,.inl e⟩,15e5⟩
 | dct ks ps=>obtain ⟨qs,vs,e,hl,hk,r⟩:=h;unfold Rep;exact ⟨a,qs,vs,rfl,hna,e,hl,hk,15e5⟩
 | dtt ks ps=>obtain ⟨vs,e,hl,r⟩:=h;unfold Rep;exact ⟨a,vs,rfl,hna,.inl e,hl,15e5⟩
 | _=>exact h.elim
end
def pickK (xs:List SV):List Nat->Option (List Nat)
 | []=>some []
 | i::r=>match xs[i]?,pickK xs r with
  | some (.c k),some ks=>if k∈ks then none else some (k::ks)
  | _,_=>none
def smallX (C:Cs)(ks:11e8):List SV->Option (List SV)
 | []=>some []
 | .v p::r=>(smallX C ks r).map (.v p::·)
 | .c k::r=>match ks.idxOf? k with
  | some j=>(smallX C ks r).map (.c j::·)
  | none=>match C[k]? with
   | some c=>(smallX C ks r).map (.v c::·)
   | none=>none
def smallC (C:Cs):List Nat->Option Cs
 | []=>some []
 | k::r=>match C[k]?,smallC C r with
  | some c,some cs=>some (c::cs)
  | _,_=>none
def backC (C:Cs):List Nat->Cs->Cs
 | k::ks,c::cs=>backC (C.set k c) ks cs
 | _,_=>C
section
variable {K:W.Frag}{ι:3e7}{H H':Hp}{C D:Cs}
theorem Zdt:∀{ks:11e8} {D:Cs},smallC C ks=some D->D.length=ks.length/\∀(j k:Nat),ks[j]? = some k->∃c,D[j]? = some c/\C[k]? = some c
 | [],D,h=>by cases h;exact ⟨rfl,fun j k e=>by simp at e⟩
 | k::ks,D,h=>by
  unfold smallC at h
  split at h
  ·rename_i c cs h1 h2
   cases h
   obtain ⟨a,b⟩:=Zdt h2
   refine ⟨by simp[a],fun j k' e=>?_⟩
   cases j with
   | zero=>simp at e;subst e;exact ⟨c,rfl,h1⟩
   | succ j=>exact b j k' (by simpa using e)
  ·cases h
theorem backC_len:∀{ks:11e8} {C D:Cs},(backC C ks D).length=C.length
 | [],C,D=>by unfold backC;rfl
 | k::ks,C,[]=>by unfold backC;rfl
 | k::ks,C,c::D=>by unfold backC;rw[backC_len,XI]
theorem backC_get:∀{ks:11e8} {C D:Cs},ks.Nodup->D.length=ks.length->(∀k∈ks,k < C.length)->(∀(j k:Nat),ks[j]? = some k->(backC C ks D)[k]? = D[j]?)/\∀(k:Nat),k∉ks->(backC C ks D)[k]? = C[k]?
 | [],C,D,_,_,_=>⟨fun j k e=>by simp at e,fun k _=>by unfold backC;rfl⟩
 | k::ks,C,[],_,h,_=>by simp at h
 | k::ks,C,c::D,nd,h,hl=>by
  rw[Xk] at nd
  have ih:=backC_get (ks:=ks) (C:=C.set k c) (D:=D) nd.2 13e1 (fun q hq=>by rw[XI];exact hl q (YO _ hq))
  unfold backC
  refine ⟨fun j q e=>?_,fun q hq=>?_⟩
  ·cases j with
   | zero=>
    simp at e;subst e
    rw[ih.2 k nd.1,XC (hl k YA)];rfl
   | succ j=>rw[ih.1 j q (by simpa using e)];rfl
  ·rw[Yn,not_or] at hq
   rw[ih.2 q hq.2,Yy (Xw hq.1)]
theorem pickK_ok {xs:List SV}{vs:List V}(rs:RepSs K ι H xs vs):∀{ix ks:11e8},pickK xs ix=some ks->ks.Nodup/\∀k∈ks,k < ι.length
 | [],ks,h=>by cases h;exact ⟨.nil,fun k hk=>by cases hk⟩
 | i::ix,ks,h=>by
  unfold pickK at h
  split at h
  ·rename_i k ks' h1 h2
   split at h
   ·cases h
   ·rename_i hn
    cases h
    obtain ⟨a,b⟩:=pickK_ok rs h2
    refine ⟨Xk.mpr ⟨hn,a⟩,fun q hq=>?_⟩
    rcases Yn.mp hq with rfl | hq
    ·obtain ⟨v,_,a,_,e⟩:=RepSs.get rs h1
     rcases YH q ι.length with z | z
     ·exact z
     ·rw[Yi.mpr z] at e;cases e
    ·exact b q hq
  ·cases h
def addrs (ι:3e7)(ks:11e8):List Addr:=ks.map fun k=>ι.getD k 0
theorem Zdo {ks:11e8}(hl:∀k∈ks,k < ι.length){j k:Nat}(e:ks[j]? = some k):(addrs ι ks)[j]? = ι[k]?:=by
 unfold addrs
 rw[YL,e]
 have:=hl k (YQ e)
 simp[Yd this]
theorem Zbd {ks:11e8}(hl:∀k∈ks,k < ι.length){b:Addr}(h:b∈addrs ι ks):∃k∈ks,ι[k]? = some b:=by
 unfold addrs at h
 obtain ⟨k,hk,e⟩:=YB.mp h
 refine ⟨k,hk,?_⟩
 have:=hl k hk
 simp[Yd this] at e ⊢
 exact e
theorem get_inj (nd:ι.Nodup){j k:Nat}{a:Addr}(h1:ι[j]? = some a)(h2:ι[k]? = some a):j=k:=by
 obtain ⟨l1,e1⟩:=YS.mp h1
 obtain ⟨l2,e2⟩:=YS.mp h2
 exact (Wz nd).mp (e1.trans e2.symm)
theorem Zdn (nd:ι.Nodup):∀{ks:11e8},ks.Nodup->(∀k∈ks,k < ι.length)->(addrs ι ks).Nodup
 | [],_,_=>.nil
 | k::ks,h,hl=>by
  rw[Xk] at h
  show (ι.getD k 0::addrs ι ks).Nodup
  refine Xk.mpr ⟨fun z=>?_,Zdn nd h.2 fun q hq=>hl q (YO _ hq)⟩
  obtain ⟨q,hq,e⟩:=Zbd (fun q hq=>hl q (YO _ hq)) z
  have hk:=hl k YA
  have e2:ι[k]? = some (ι.getD k 0):=by simp[Yd hk]
  exact h.1 ((get_inj nd e2 e) ▸ hq)
theorem small_cr (cr:11e5){ks:11e8}(nd:ks.Nodup)(hl:∀k∈ks,k < ι.length)(e:smallC C ks=some D):CR K (addrs ι ks) H D:=by
 obtain ⟨l,g⟩:=Zdt e
 have hs:∀b o,H b=some o->b∉ι->b∉addrs ι ks:=fun b o _ n z=>by
  obtain ⟨k,_,q⟩:=Zbd hl z
  exact n (YQ q)
 refine ⟨by unfold addrs;rw[YE,l],Zdn cr.nd nd hl,fun j a c h1 h2=>?_⟩
 have hj:j < ks.length:=by
  rcases YH j ks.length with z | z
  ·exact z
  ·rw[Yi.mpr 1e2] at h2;cases h2
 have ek:=Yd hj
 rw[Zdo hl ek] at h1
 obtain ⟨c',g1,g2⟩:=g j _ ek
 rw[h2] at g1;cases g1
 exact (cr.ok _ a c h1 g2).cells hs
theorem ZbO (cr:11e5){ks:11e8}(hl:∀k∈ks,k < ι.length):∀{xs ys:List SV} {vs:List V},RepSs K ι H xs vs->smallX C ks xs=some ys->RepSs K (addrs ι ks) H ys vs
 | [],ys,vs,r,e=>by cases e;exact r
 | .v p::xs,ys,vs,r,e=>by
  obtain ⟨v,w,rfl,h1,h2⟩:=r
  unfold smallX at e
  cases hq:smallX C ks xs with
  | none=>rw[hq] at e;cases e
  | some z=>
   rw[hq] at e;cases e
   exact ⟨v,w,rfl,Rep.cells (fun b o _ n z=>by obtain ⟨k,_,q⟩:=Zbd hl z;exact n (YQ q)) p v h1,ZbO cr hl h2 hq⟩
 | .c k::xs,ys,vs,r,e=>by
  obtain ⟨v,w,rfl,⟨a,rfl,ha⟩,h2⟩:=r
  unfold smallX at e
  cases hi:ks.idxOf? k with
  | some j=>
   rw[hi] at e
   cases hq:smallX C ks xs with
   | none=>rw[hq] at e;cases e
   | some z=>
    rw[hq] at e;cases e
    refine ⟨.ref a,w,rfl,⟨a,rfl,?_⟩,ZbO cr hl h2 hq⟩
    have ej:ks[j]? = some k:=by
     rw[List.idxOf?_eq_some_iff] at hi
     obtain ⟨h,e,_⟩:=hi
     rw[Yd h,e]
    rw[Zdo hl ej];exact ha
  | none=>
   rw[hi] at e
   have hk:k∉ks:=List.idxOf?_eq_none_iff.mp hi
   cases hc:C[k]? with
   | none=>rw[hc] at e;cases e
   | some c=>
    rw[hc] at e
    cases hq:smallX C ks xs with
    | none=>rw[hq] at e;cases e
    | some z=>
     rw[hq] at e;cases e
     refine ⟨.ref a,w,rfl,(cr.ok k a c ha hc).rep (fun z=>?_) (fun b o _ n z=>by obtain ⟨k,_,q⟩:=Zbd hl z;exact n (YQ q)),ZbO cr hl h2 hq⟩
     obtain ⟨k',hk',q⟩:=Zbd hl z
     exact hk ((get_inj cr.nd ha q) ▸ hk')
theorem small_fr {ks:11e8}(hl:∀k∈ks,k < ι.length)(f:Fr (addrs ι ks) H H'):Fr ι H H':=fun b o n e=>f b o (fun z=>by obtain ⟨k,_,q⟩:=Zbd hl z;exact n (YQ q)) e
theorem small_back (cr:11e5){ks:11e8}(nd:ks.Nodup)(hl:∀k∈ks,k < ι.length)(f:Fr (addrs ι ks) H H')(c2:CR K (addrs ι ks) H' D)(fl:D.all flatC=true):CR K ι H' (backC C ks D):=by
 have hlD:D.length=ks.length:=by rw[←c2.len];unfold addrs;rw[YE]
 obtain ⟨g1,g2⟩:=backC_get (C:=C) (D:=D) nd hlD fun k hk=>by rw[←cr.len];exact hl k hk
 refine ⟨by rw[backC_len];exact cr.len,cr.nd,fun k a c h1 h2=>?_⟩
 by_cases hk:k∈ks
 ·obtain ⟨j,hj,e⟩:=Ww hk
  have ej:ks[j]? = some k:=by rw[Yd hj,e]
  rw[g1 j k ej] at h2
  have:=c2.ok j a c (by rw[Zdo hl ej];exact h1) h2
  exact this.flat (YW.mp fl c (YQ h2))
 ·rw[g2 k hk] at h2
  refine (cr.ok k a c h1 h2).mono cr (small_fr hl f) fun o e=>f a o (fun z=>?_) e
  obtain ⟨k',hk',q⟩:=Zbd hl z
  exact hk ((get_inj cr.nd h1 q) ▸ hk')
end
def mFnS (F:List SV->M SV)(ix:11e8)(fs:2e9):PSt->M SV:=fun ρ=>bnd (fs ρ) fun xs C=>match pickK xs ix with
 | some ks=>match smallX C ks xs,smallC C ks with
  | some ys,some D=>match F ys D with
   | some (.v p,D')=>if flat p&&D'.all flatC then some (.v p,backC C ks D') else none
   | _=>none
  | _,_=>none
 | none=>none
theorem mFnS_some {F:List SV->M SV}{ix:11e8}{xs:List SV}{C C':Cs}{z:SV}(h:(match pickK xs ix with
 | some ks=>match smallX C ks xs,smallC C ks with
  | some ys,some D=>match F ys D with
   | some (.v p,D')=>if flat p&&D'.all flatC then some (.v p,backC C ks D') else none
   | _=>none
  | _,_=>none
 | none=>none:Option (SV×Cs))=some (z,C')):∃ks ys D p D',pickK xs ix=some ks/\smallX C ks xs=some ys/\smallC C ks=some D/\F ys D=some (.v p,D')/\flat p=true/\D'.all flatC=true/\z=.v p/\C'=backC C ks D':=by
 split at h
 ·split at h
  ·split at h
   ·split at h
    ·rename_i hf
     rw[Ys] at hf
     cases h
     exact ⟨_,_,_,_,_,by assumption,by assumption,by assumption,by assumption,hf.1,hf.2,rfl,rfl⟩
    ·cases h
   ·cases h
  ·cases h
 ·cases h
theorem em_callS {X:Cx}{e:Expr}{es:5e9}{p pos:Pos}{x:Str}{k:Nat}{f:Addr}{fd:XZ}{ps:5e6}{F:List SV->M SV}{fs:2e9}(ix:11e8)(G:FnOk X.prog X.w X.K X.mg X.base CX0 k f fd ps (liftSp X.K F))(hr:Room k X.A)(hg:Gl X x)(hm:X.mg x=some (.ref f))(hk:V0 X.K (.ref f)=true)(hb:Binds X.K fd ps [])
  (ha:AM X 6e8 fs) (hdb:5e1:=by decide) (he:1e8:=by rfl) (hpl:2e8:=by rfl):
  EM X 8e4 (mFnS F ix fs):=PE.imp (pe_call G hr hg hm hk hb .nil pass0 ha hdb he hpl) fun σ H Q h=>by
 obtain ⟨ι,ρ,C,z,C',sr,e,q⟩:=h
 sleep 9
 refine ⟨ι,ρ,C,xs,C1,sr,e1,fun vs H1 f1 c1 r1=>?_⟩
 obtain ⟨ks,ys,D,q',D',a1,a2,a3,a4,a5,a6,rfl,rfl⟩:=mFnS_some e
 obtain ⟨nd,hl⟩:=pickK_ok r1 a1
 show liftSp X.K F (vs++[]) H1 Q E0
 rw[YJ]
 exact ⟨addrs ι ks,ys,D,.v q',D',small_cr c1 nd hl a3,ZbO c1 hl r1 a2,a4,fun v H2 f2 c2 r2=>q v H2 (f1.trans (small_fr hl f2)) (small_back c1 nd hl f2 c2 a6) (show Rep X.K ι H2 q' v from Rep.flat q' v a5 r2)⟩
theorem keyIs_rel {k:Key}{u:Value}(h:keyIs k u=true):RelV (kV k) u:=by
 rcases ZaS h with ⟨i,t,rfl,rfl⟩ | ⟨x,t,rfl,rfl⟩
 ·exact ⟨t,rfl⟩
 ·exact ⟨t,rfl⟩
theorem pairs_vals {P:YC}{w:World}{es:List Ua}{vs:List (Key×Value)}(h:Pairs (mixKind P w) es vs):Vals (vs.map fun q=>kV q.1) (es.map (·.key)):=by
 induction h with
 | nil=>exact .nil
 | cons h1 h2 h3 ih=>exact .cons (keyIs_rel h1) ih
theorem items_keys {es:Array Ua}{acc:Array Value}(h:UX (fun i v=>∃e,es[i]? = some e/\v=e.key) acc es.size):acc.toList=es.toList.map (·.key):=by
 apply Xa
 intro i
 rw[Y3,YL,Y3]
 by_cases hi:i < acc.size
 ·obtain ⟨e,e1,e2⟩:=h.2 i _ (Yg hi)
  rw[Yg hi,e2,e1];rfl
 ·have:=h.1
  rw[YK 1e2,YK 1e2];rfl
section
variable {X:Cx}
def rSortedK (K:W.Frag):List V->Hp->VK->Prop:=fun xs H Q=>∃p kvs,xs=[.ref p]/\H p=some (.dK kvs)/\(kvs.map (·.1)).all keyOk=true/\(sortP (kvs.map fun q=>kP q.1)).isSome=true/\
 ∀l,H l=none->Q (.ref l) (upd H l (.lst (sortV (kvs.map fun q=>kP q.1) (kvs.map fun q=>kV q.1))))
theorem call_sortedK (hcm:9e9)(hu:8e3):CallR X (.builtin "sorted") (rSortedK X.K):=by
 intro pins s σ H xs us Q I r h
 obtain ⟨p,kvs,rfl,hq,hko,hs,q⟩:=h
 obtain ⟨u,rfl,rx⟩:=vals1 r
 cases rx
 obtain ⟨hz,lo,vs,kv,o,es,ep,ho,hex,hda,hke,hpa,hnd⟩:=dk_of I.hok hq
 have hkv:(kvs.map fun q=>kV q.1)=vs.map fun q=>kV q.1:=by
  have:=kv.keys
  have e1:(kvs.map fun q=>kV q.1)=(kvs.map (·.1)).map kV:=by rw[Xf];rfl
  have e2:(vs.map fun q=>kV q.1)=(vs.map (·.1)).map kV:=by rw[Xf];rfl
  rw[e1,e2,this]
 have hv:=pairs_vals hpa
 rw[←hkv] at hv
 have hl:es.size=kvs.length:=by
  have:=hv.length
  simpa using this.symm
 generalize hps:(kvs.map fun q=>kP q.1)=ps at hs q
 have hpl:ps.length=kvs.length:=by rw[←hps,YE]
 have rs:∀ι,Reps X.K ι H ps (kvs.map fun q=>kV q.1):=fun ι=>by
  rw[←hps,show (kvs.map fun q=>kP q.1)=(kvs.map (·.1)).map kP by rw[Xf];rfl,show (kvs.map fun q=>kV q.1)=(kvs.map (·.1)).map kV by rw[Xf];rfl]
  exact reps_kP hko
 unfold sortP at hs
 split at hs
 ·rename_i hh
  simp only[Ys,decide_eq_true_eq] at hh
  obtain ⟨⟨⟨⟨hd,hde⟩,h64⟩,hso⟩,hcm'⟩:=hh
  have hr:=Reps.heap I ps (rs []) hv hd
  have hvl:(es.toList.map (·.key)).length=ps.length:=by rw[YE,YG];lia
  refine Zco (vs:=es.toList.map (·.key)) (κ:=kindP ps) (o:=oP ps) (fun Q' q'=>?_) 1e2 (fun h2 h' tk k Q' q'=>?_) (fun h2 h' tk k i j C hi hj hC=>?_) (fun D h' tk c hD k e=>?_)
  ·refine Zdj (raw_src (es:=es) (ep:=ep) lo) (I.ok.hd hcm) ⟨o,ho,hex,hda⟩ (by rw[YU];lia) fun h' tk acc k hle ai=>?_
   rw[items_keys ai]
   exact q' h' tk k hle
  ·exact Zc9 (s:={ s with heap:=h',toks:=tk }) (hr.keep k) h2 hso q'
  ·exact ask_of (s:={ s with heap:=h',toks:=tk }) (hr.keep k) hso hcm' (by rw[YT,YT];lia) hi hj hC
  ·rw[Zcc hvl.symm] at e
   refine ⟨.ref D,_,I.laid (t':=tk) k hD (show ObjOk X.prog X.w _ h' _ (.lst (sortV ps (kvs.map fun q=>kV q.1))) from ⟨?_,sortU ps (es.toList.map (·.key)),c,?_,e⟩),rfl,q _ (I.hok.fresh hD)⟩
   ·unfold sortV
    rw[YE]
    have:(perm ps).length<=64:=by
     unfold perm
     split
     ·rw[X3];lia
     ·rw[YG,(Zcy (o:=oP ps) 16e1 (ZbC 1e2)).2.1];lia
    exact YR this (by rw[YU];decide)
   ·exact ZbM hv fun i hi=>by have:=Zbk i hi;simp only[YE,YG] at hvl ⊢;lia
 ·cases hs
def sortedH3 (C:Cs):List SV->Option 13e5
 | [x]=>match deref C x with
  | some (.dct ks _)=>match keysP ks with
   | some qs=>if qs.all keyOk then sortP ks else none
   | none=>none
  | _=>sortedH2 C [x]
 | _=>none
def mSorted3 (fs:2e9):PSt->M 13e5:=fun ρ=>bnd (fs ρ) fun xs=>opM fun C=>sortedH3 C xs
theorem PE.or {e:Expr}{t t':TE}(h:PE X e t)(k:PE X e t'):PE X e fun σ H Q=>t σ H Q\/t' σ H Q:=fun pins s σ H Q I q=>by
 rcases q with q | q
 ·exact h pins s σ H Q I q
 ·exact k pins s σ H Q I q
end
end Pu
namespace Pu
open PySem PySem.Spec L2
open PyProof.Rows hiding St Fr
def Je (K:W.Frag)(a:Addr):It:=⟨fun i H=>∃xs v,SqL K H a xs/\xs[i]? = some v,fun i H x H'=>∃b v,H b=none/\x=.ref b/\H'=upd H b (.tup [.int i,v])/\∀xs,SqL K H a xs->xs[i]? = some v,
 fun i H=>∃xs,SqL K H a xs/\xs.length<=i⟩
theorem turn_enum {P:YC}{w:World}{K:W.Frag}{elts:5e9}{x1:Nat}{pos:Pos}{a e it:Addr}(hne:e≠it):Turn P w K (.Tuple elts x1 pos) (Je K a) [e,it] e
  (fun i h=>(∃old,IsEnum h e it i old)/\h.IsListIter it a i) where
 mem:=by simp
 obj:=fun i h st b hb=>by
  obtain ⟨⟨old,he⟩,o,hi,hc,hd⟩:=st
  simp only[Yn,Xm,or_false] at hb
  rcases hb with rfl | rfl
  ·exact ⟨_,he,fun v q=>by cases q⟩
  ·exact ⟨o,hi,fun v q=>by rw[hd] at q;cases q⟩
 keep:=fun i h h' st k=>by
  obtain ⟨⟨old,he⟩,hi⟩:=st
  exact ⟨⟨old,k e 3e8 _ he⟩,hi.at fun o z=>k it 3e8 o z⟩
 item:=by
  sleep 3
  obtain ⟨⟨old,he⟩,hi⟩:=st
  obtain ⟨xs,v,hq,hx⟩:=hg
  obtain ⟨its,rv,p,hz⟩:=I.list hq
  obtain ⟨u,hu,ru⟩:=rv.get hx
  refine wpAny_pyNext_enum_item he hi p.isList (x:=u) (by simpa using hu) hne fun h' ho hi' hT hsz hk=>⟨_,rfl,?_⟩
  refine wpAny_letOwnedTupleGo_enum (s:={ s with heap:=h',toks:=s.toks + 1 }) ho fun h3 he3 sb=>?_
  have J1:Inv X pins σ H { s with heap:=h3,toks:=s.toks + 1 }:=turnedL (ch:=[e,it]) I (fun b o hb z=>by
   simp only[Yn,Xm,or_false,not_or] at hb
   exact sb.extBut _ _ hb.1 (hk b o hb.1 hb.2 z)) hf
  have hlt:∀{b o},s.heap.get? b=some o->b≠s.heap.objs.size:=fun e=>Yq (Yv e)
  have hn:H s.heap.objs.size=none:=I.hok.fresh (Yj _)
  have hT3:=sb.extBut _ _ (hlt he).symm hT
  have J2:=track (ob:=.tup [.int i,v]) J1 hn I.sz (X0 I.lt) (fun x c e=>by obtain ⟨v,q⟩:=I.cell x c e;exact Yq q.lt) (fun p hp=>hlt (I.pin p hp).1)
   ⟨by show 2<=Yt;rw[YU];decide,[.int i s.toks,u],.cons 8e9 (.cons ru .nil),⟨_,hT3,rfl,_,rfl⟩⟩
  refine ⟨.ref s.heap.objs.size,_,J2,rfl,⟨_,v,hn,rfl,rfl,fun ys hy=>by rw[I.list_inj hy hq];exact hx⟩,⟨⟨_,he3⟩,hi'.at fun o z=>sb.extBut _ _ hne.symm z⟩,fun b hb=>?_⟩
  have hb':b≠s.heap.objs.size:=by
   simp only[Yn,Xm,or_false] at hb
   rcases hb with rfl | rfl
   ·exact hlt he
   ·obtain ⟨o,z,_⟩:=hi;exact hlt z
  rw[Zax hb'];exact (hf b hb).1
 done:=by
  sleep 3
  obtain ⟨⟨old,he⟩,hi⟩:=st
  obtain ⟨xs,hq,hx⟩:=hg
  obtain ⟨its,rv,p,hz⟩:=I.list hq
  have hl:=rv.length
  refine wpAny_pyNext_enum_end (I.ok.hd hc) he hi p.isList 11e1 fun h' eb=>⟨rfl,turnedL (t':=s.toks) (ch:=[e,it]) I (fun b o hb z=>?_) hf⟩
  simp only[Yn,Xm,or_false,not_or] at hb
  exact eb b o hb.2 z
 self:=fun _ _ _ _ _ st h=>by obtain ⟨⟨old,he⟩,_⟩:=st;exact wpAny_pyIter_enum he h
section
variable {X:Cx}{l:Expr}{elts:5e9}{x1:Nat}{tpos p pos:Pos}
def iEnum (K:W.Frag)(tl:TA):TI:=fun σ H R=>tl σ H fun xs H1=>∃a,xs=[.ref a]/\(∃vs,SqL K H1 a vs)/\R (Je K a) H1
theorem pi_enum {tl:TA}(hg:Gl X "enumerate")(hm:X.mg "enumerate"=none)(ha:PA X [l] tl)(hs:Yp [l] X.env=[(false,eval l X.env)]:=by rfl):PI X (.Tuple elts x1 tpos) (.Call (.Name "enumerate" p) [l] [] pos) (iEnum X.K tl):=by
 intro pins s σ H R I h
 refine Call_ (Zci I hg hm 1e0 (Xq (thn (ha pos pins s σ H _ I h) fun us s1 ⟨vs,H1,I1,r1,q1⟩=>?_) hs rfl))
 obtain ⟨a,rfl,⟨ws,hq⟩,q⟩:=q1
 obtain ⟨u,rfl,ru⟩:=vals1 r1
 cases ru
 obtain ⟨its,rv,pl,hz⟩:=I1.list hq
 refine call_enumerate_list pl.isList fun h' he hi hsz k=>?_
 have J:Inv X pins σ H1 { s1 with heap:=h' }:=I1.kept (t':=s1.toks) k
 refine wpAny_pyIter_enum (s:={ s1 with heap:=h' }) he ⟨s1.heap.objs.size + 1,[s1.heap.objs.size + 1,s1.heap.objs.size],_,_,H1,rfl,J,turn_enum (Nat.succ_ne_self _),⟨⟨_,he⟩,hi⟩,fun b hb=>?_,q⟩
 have hb':s1.heap.objs.size<=b:=by
  simp only[Yn,Xm,or_false] at hb
  rcases hb with rfl | rfl<;>lia
 exact I1.fpOk hb' (I1.hok.fresh hb')
def enumL (xs:List PV):List PV:=(Yl xs.length).map fun i=>.tup [.int (i:Nat),xs.getD i .non]
def enumP:List SV->Option 13e5
 | [.v (.lst xs)]=>some (enumL xs)
 | _=>none
def mEnum (fs:2e9):PSt->M 13e5:=fun ρ=>bnd (fs ρ) fun xs=>opM fun _=>enumP xs
theorem ZbL (xs:List PV):(enumL xs).length=xs.length:=by unfold enumL;simp
theorem iter_enum {K:W.Frag}{ι:3e7}{H:Hp}{C:Cs}{a:Addr}{xs:List PV}{vs:List V}(cr:11e5)(h:LsR K ι H a vs)(r:Reps K ι H xs vs):Iter K ι H (enumL xs) (Je K a):=by
 have keep:∀ι2 H2,Ex ι ι2 H H2->SqL K H2 a vs:=fun ι2 H2 x=>by
  rcases h with ⟨n,q | ⟨o,q⟩⟩ | q
  ·exact .inl (.inl (x.out _ _ n q).2)
  ·exact .inl (.inr ⟨o,(x.out _ _ n q).2⟩)
  ·exact .inr q
 refine ⟨fun ι2 H2 C2 x c i hi=>?_,fun ι2 H2 C2 x c i v H3 hi y=>?_,fun ι2 H2 C2 x c=>⟨vs,keep ι2 H2 x,by rw[ZbL,r.length];exact Yj _⟩⟩
 ·rw[ZbL] at hi
  obtain ⟨v,e,_⟩:=r.get (Yd hi)
  exact ⟨vs,v,keep ι2 H2 x,e⟩
 ·rw[ZbL] at hi
  obtain ⟨b,w,hn,rfl,rfl,y⟩:=y
  obtain ⟨p,hp,rp⟩:=r.get' (y vs (keep ι2 _ x))
  refine ⟨fun c o e=>by rw[Zax (Zas e hn)];exact e,.tup [.int (i:Nat),p],?_,Zc4 hn (.cons repI (.cons (Rep.tr cr x.out p w rp) .nil))⟩
  unfold enumL
  simp[hi]
  rw[Yd hi] at hp
  exact YN hp
def loopE (g:4e5)(f:11e6)(k:Nat):Nat->Nat->PSt->M PF
 | 0,_,_=>fun _=>none
 | n + 1,j,ρ=>fun C=>match C[k]? with
  | some (.lst qs)=>match qs[j]? with
   | some x=>match g (.tup [.int (j:Nat),x]) ρ with
    | none=>none
    | some ρ1=>bnd (f ρ1) (fun fl=>match fl with
     | .nx ρ2=>loopE g f k n (j + 1) ρ2
     | .ct ρ2=>loopE g f k n (j + 1) ρ2
     | .bk ρ2=>Pu.ret (.nx ρ2)
     | .rt r=>Pu.ret (.rt r)
     | .rf ps=>Pu.ret (.rf ps)
     | .rq ps=>Pu.ret (.rq ps)) C
   | none=>some (.nx ρ,C)
  | _=>none
def mForE (fs:2e9)(g:4e5)(f:11e6):PSt->M PF:=fun ρ=>bnd (fs ρ) fun x=>match x with
 | [.c k]=>loopE g f k 1000 0 ρ
 | _=>fun _=>none
end
def putD (k:Nat)(y v:SV):M Unit:=fun C=>match y,v with
 | .v (.tup qs),.v p=>match C[k]?,keysP qs with
  | some (.dtt ks ps),some key=>if ks.length < 1000 then some ((),C.set k (.dtt (putKs ks key) (putVs ks ps key p))) else none
  | _,_=>none
 | _,_=>none
theorem putD_some {k:Nat}{y v:SV}{C C2:Cs}{u:Unit}(h:putD k y v C=some (u,C2)):∃qs p ks ps key,y=.v (.tup qs)/\v=.v p/\C[k]? = some (.dtt ks ps)/\keysP qs=some key/\ks.length < 1000/\C2=C.set k (.dtt (putKs ks key) (putVs ks ps key p)):=by
 unfold putD at h
 split at h
 ·split at h
  ·split at h
   ·cases h;exact ⟨_,_,_,_,_,rfl,rfl,by assumption,by assumption,by assumption,rfl⟩
   ·cases h
  ·cases h
 ·cases h
def compD (g:4e5)(tt:6e3)(tk te:4e3)(k:Nat):List PV->PSt->M Unit
 | [],_=>ret ()
 | x::xs,ρ=>match g x ρ with
  | none=>fun _=>none
  | some ρ1=>bnd (tt ρ1) fun b=>if b then bnd (tk ρ1) fun y=>bnd (te ρ1) fun v=>bnd (putD k y v) fun _=>compD g tt tk te k xs ρ1
   else compD g tt tk te k xs ρ1
def mCompD (it:6e0)(vs:5e6)(fr:11e8)(g:4e5)(tt:6e3)(tk te:4e3):PSt->M SV:=fun ρ=>bnd (it ρ) fun xs C=>match compD g tt tk te C.length xs (stIn' vs fr ρ) (C++[.dtt [] []]) with
 | some (_,C')=>fin C.length C' (.c C.length)
 | none=>none
theorem compD_pure {K:W.Frag}{it:6e0}{vs:5e6}{fr:11e8}{g:4e5}{tt:6e3}{tk te:4e3}{σ:St}{H:Hp}{Q:VK}{ι:3e7}{ρ:PSt}{C C':Cs}{z:SV}(sr:SR K ι H ρ σ C)
  (e:mCompD it vs fr g tt tk te ρ C=some (z,C')) (q:∀v H',Fr ι H H'->CR K ι H' C'->RepS K ι H' z v->Q v H'):tCompD (tMI K it) vs fr (tMG K g) (tMB K tt) (tM K tk) (tM K te) σ H Q:=by
 sleep 9
 refine ⟨ι,ρ,C,xs,C1,sr,e1,fun J H1 f1 c1 it1=>?_⟩
 intro D hD
 cases hc:compD g tt tk te C1.length xs (stIn' vs fr ρ) (C1++[.dtt [] []]) with
 | none=>rw[hc] at e;cases e
 | some r=>
 obtain ⟨u,C9⟩:=r
 rw[hc] at e
 replace e:fin C1.length C9 (.c C1.length)=some (z,C'):=e
 have x0:Ex ι [D] H1 (upd H1 D (.dT [])):=⟨Fr.new hD,fun b hb=>by
  have:b=D:=by simpa using hb
  subst this;exact hD⟩
 have c2:CR K (ι++[D]) (upd H1 D (.dT [])) (C1++[.dtt [] []]):=c1.add hD ⟨[],ZaQ,rfl,.nil⟩
 have sr1:=((sr.step f1 c1).block vs fr).ex x0 c2
 have hkD:(ι++[D])[C1.length]? = some D:=by rw[←c1.len];simp
 refine ⟨fun i m σ2 H2=>∃ρ2 C2,m=xs.length - i/\i<=xs.length/\Ex ι [D] H1 H2/\SR K (ι++[D]) H2 ρ2 σ2 C2/\compD g tt tk te C1.length (xs.drop i) ρ2 C2=some (u,C9),⟨xs.length,_,_,rfl,YV _,x0,sr1,hc⟩,?_⟩
 rintro i m σ2 H2 ⟨ρ2,C2,rfl,hi2,x2,sr2,e2⟩
 rcases YH i xs.length with hlt | hge
 ·right
  refine ⟨it1.go [D] H2 C2 x2 sr2.cr i hlt,fun σ' H'=>∃ρ2 C2,Ex ι [D] H1 H'/\SR K (ι++[D]) H' ρ2 σ' C2/\compD g tt tk te C1.length (xs.drop (i + 1)) ρ2 C2=some (u,C9),?_,?_⟩
  ·rintro σ' H' ⟨ρ3,C3,x3,sr3,e3⟩
   exact ⟨xs.length - (i + 1),by lia,ρ3,C3,rfl,hlt,x3,sr3,e3⟩
  ·intro v H3 y
   obtain ⟨sm,qv,hq,rq⟩:=it1.yld [D] H2 C2 x2 sr2.cr i v H3 hlt y
   have hd:xs.drop i=qv::xs.drop (i + 1):=by
    rw[XS hlt]
    rw[Yd hlt] at hq
    rw[YN hq]
   rw[hd] at e2
   unfold compD at e2
   have nx:∀{Ha Hb:Hp},Ex ι [D] H1 Ha->Fr (ι++[D]) Ha Hb->Ex ι [D] H1 Hb:=fun {Ha Hb} x f=>⟨fun b o n e=>f b o (x.out b o n e).1 (x.out b o n e).2,x.2⟩
   have fr3:Fr (ι++[D]) H2 H3:=fun b o _ z=>sm b o z
   have cr3:CR K (ι++[D]) H3 C2:=sr2.cr.same sm
   cases hg1:g qv ρ2 with
   | none=>rw[hg1] at e2;cases e2
   | some ρ3=>
    rw[hg1] at e2
    obtain ⟨b,C3,e3,e4⟩:=Zag e2
    refine ⟨ι++[D],ρ2,C2,qv,ρ3,sr2.step fr3 cr3,rq,hg1,fun σ4 sr4=>⟨ι++[D],ρ3,C2,b,C3,sr4,e3,fun H5 f5 c5=>?_⟩⟩
    have x5:=nx (nx x2 fr3) f5
    have sr5:=sr4.step f5 c5
    cases b with
    | false=>
     rw[if_neg Yu] at e4
     dsimp only
     rw[if_neg Yu]
     exact ⟨ρ3,C3,x5,sr5,e4⟩
    | true=>
     rw[if_pos rfl] at e4
     dsimp only
     rw[if_pos rfl]
     obtain ⟨y1,C4,e5,e6⟩:=Zag e4
     obtain ⟨y2,C5,e7,e8⟩:=Zag e6
     obtain ⟨y3,C6,e9,e10⟩:=Zag e8
     obtain ⟨qs,p,ks,ps,key,rfl,rfl,hcell,hkey,hlen,rfl⟩:=putD_some e9
     refine ⟨ι++[D],ρ3,C3,_,C4,sr5,e5,fun v6 H6 f6 c6 r6=>⟨ι++[D],ρ3,C4,_,C5,sr5.step f6 c6,e7,fun v7 H7 f7 c7 r7=>?_⟩⟩
     obtain ⟨vs',h1,hl,rv⟩:=(show CellOk K (ι++[D]) H7 D (.dtt ks ps) from c7.ok C1.length D _ hkD hcell)
     obtain ⟨bk,rfl,hb⟩:=Zb1 (show Rep K (ι++[D]) H7 (.tup qs) v6 from Rep.mono c6 f7 _ _ r6) hkey
     obtain ⟨z1,z2⟩:=put_zip (k:=key) (v:=v7) hl
     have fr8:Fr (ι++[D]) H7 (upd H7 D (.dT (putK (ks.zip vs') key v7))):=fun b u n e=>by
      rw[Zax (fun z=>n (by rw[z];exact YQ hkD))];exact e
     have c8:CR K (ι++[D]) (upd H7 D (.dT (putK (ks.zip vs') key v7))) (C5.set C1.length (.dtt (putKs ks key) (putVs ks ps key p))):=
      c7.put hkD ⟨putVs ks vs' key v7,by rw[←z1];exact ZaQ,z2,Reps.mono c7 fr8 _ _ (reps_put r7 rv)⟩
     exact ⟨_,DPut.t h1 hb (by rw[VP,YU];lia),ρ3,_,nx (nx (nx x5 f6) f7) fr8,((sr5.step f6 c6).step f7 c7).step fr8 c8,e10⟩
 ·left
  have hi3:i=xs.length:=by lia
  subst hi3
  rw[W6] at e2
  cases e2
  refine ⟨it1.stop [D] H2 _ x2 sr2.cr,?_⟩
  obtain ⟨c4,r4⟩:=fin_ok sr2.cr c1.len (show RepS K (ι++[D]) H2 (.c C1.length) (.ref D) from ⟨D,rfl,hkD⟩) e
  exact q _ H2 (f1.trans x2.1) c4 r4
end Pu
namespace Pu
open PySem PySem.Spec PySem.W PySem.Calls L2 PySem.SeqAt Se
open PyProof.Rows hiding St Fr
section
variable {prog:YC}{w:World}{A:Around}{E:1e5}{s:Shared}
theorem sorted_at3 {v:Value}{Q:1e5}{OKv:List Value->Prop}{κ:List Value->VG}{o:List Value->Nat->Nat->Bool}
  (hcol:∀(Q':List Value->Shared->Prop),(∀h1 d tk vs,(∀b u,s.heap.get? b=some u->h1.get? b=some u)->s.heap.objs.size<=h1.objs.size->OKv vs->Q' vs { s with heap:=h1,drawn:=d,toks:=tk })->wpAny (model prog w) A.in1 (UD v) Q' E s) (h64:∀vs,OKv vs->vs.length < 64)
  (hk:∀vs,OKv vs->2<=vs.length->∀h' d tk,7e3->∀Q:VG->Shared->Prop,Q (κ vs) { s with heap:=h',drawn:=d,toks:=tk }->wpAny (model prog w) A.in1.in1 (keyKind' vs.toArray) Q (fun _ _=>False) { s with heap:=h',drawn:=d,toks:=tk })
  (hc:∀vs,OKv vs->2<=vs.length->∀h' d tk,7e3->∀i j (C:8e2),i < vs.length->j < vs.length->C (o vs i j) { s with heap:=h',drawn:=d,toks:=tk }->kas_ask prog w A.in1.in1 (κ vs) vs i j C { s with heap:=h',drawn:=d,toks:=tk })
  (h:∀vs D h' d tk c,OKv vs->s.heap.objs.size<=D->7e3->h'.get? D=some (seqObj "list" (outs2 (o vs) vs).toArray c)->Q (.ref D) { s with heap:=h',drawn:=d,toks:=tk }):
  wpAny 2e5 A (call (.builtin "sorted") [v]) Q E s:=by
 refine W4 kind_sorted plain_sorted entry_sorted (args_sorted1 _) ?_
 unfold W0.«sorted»
 refine Ya (m:=checkCount "sorted" 1 1 _) (Yc ?_);refine Ya (hcol _ fun h1 d tk vs kp hle ok=>?_)
 have h64:=h64 vs ok
 refine Ya (Wx ?_ (by rw[YU];lia))
 have hoL:(h1.push 10e7).get? h1.objs.size=some 10e7:=Yo _ rfl
 have keep:∀b u,s.heap.get? b=some u->(h1.push 10e7).get? b=some u:=fun b u e=>Yb _ (kp b u e)
 have kb:∀h',KeepBut h1.objs.size (h1.push 10e7) h'->∀b u,s.heap.get? b=some u->h'.get? b=some u:=fun h' k b u e=>
  k b u (Yq (Yk (Yv e) hle)) (keep b u e)
 show wpAny _ _ _ _ _ { s with heap:=h1.push (seqObj "list" vs.toArray 0),drawn:=d,toks:=tk }
 refine Ya (Xc (Y9 slot_list_sort ⟨_,hoL,rfl⟩ entry_list_sort ?body (args_list_sort _)))
 case body=>
  by_cases h2:vs.length < 2
  ·refine Zc7 (s:={ s with heap:=h1.push (seqObj "list" vs.toArray 0),drawn:=d,toks:=tk }) hoL h2 fun h' c k e=>⟨_,rfl,Yc ⟨_,rfl,h vs _ h' d tk c ok hle (kb h' k) ?_⟩⟩
   unfold outs2;rw[if_pos h2];exact e
  ·refine lsort_at (s:={ s with heap:=h1.push (seqObj "list" vs.toArray 0),drawn:=d,toks:=tk }) (κ:=κ vs) (o:=o vs) hoL (by lia) h64 (fun h' k=>hk vs ok (by lia) h' d tk (kb h' k)) (fun h' k=>hc vs ok (by lia) h' d tk (kb h' k)) fun h' c k e=>⟨_,rfl,Yc ⟨_,rfl,h vs _ h' d tk c ok hle (kb h' k) ?_⟩⟩
   unfold outs2;rw[if_neg h2];exact e
end
theorem ZbI {α β:Type}{f:α->β}{l₁ l₂:List β}(h:l₁.Perm l₂):∀xs:List α,l₂=xs.map f->∃ys:List α,ys.Perm xs/\l₁=ys.map f:=by
 induction h with
 | nil=>intro xs e;cases xs with
  | nil=>exact ⟨[],.nil,rfl⟩
  | cons x xs=>simp at e
 | cons x _ ih=>intro xs e;cases xs with
  | nil=>simp at e
  | cons y xs=>
   rw[Yw] at e
   obtain ⟨e1,e2⟩:=Vk e
   subst e1
   obtain ⟨ys,p,rfl⟩:=ih xs e2
   exact ⟨y::ys,p.cons y,rfl⟩
 | swap x y l=>intro xs e;match xs,e with
  | a::b::r,e=>
   simp only[Yw,UF] at e
   obtain ⟨rfl,rfl,rfl⟩:=e
   exact ⟨b::a::r,.swap a b r,rfl⟩
  | [a],e=>simp at e
  | [],e=>simp at e
 | trans _ _ ih1 ih2=>intro xs e;obtain ⟨ys,p,rfl⟩:=ih2 xs e;obtain ⟨zs,q,e'⟩:=ih1 ys rfl;exact ⟨zs,q.trans p,e'⟩
theorem dats_all:∀(ps:List PV),dats ps=ps.all dat
 | []=>rfl
 | p::ps=>by rw[dats,Vj,dats_all ps]
theorem deps_le {n:Nat}:∀(ps:List PV),deps ps<=n↔∀p∈ps,dep p<=n
 | []=>by simp[deps]
 | p::ps=>by rw[deps,Nat.max_le,deps_le ps];simp
theorem Zbj {α:Type}{f:α->Bool}{l l':List α}(h:l.Perm l'):l.all f=l'.all f:=by
 rw[X5,YW,YW]
 exact ⟨fun q x hx=>q x (h.mem_iff.mpr hx),fun q x hx=>q x (h.mem_iff.mp hx)⟩
theorem Zdk {ps ps':List PV}(h:ps.Perm ps'):cmpAll ps=cmpAll ps':=by
 unfold cmpAll
 rw[Zbj h]
 congr 1
 funext p
 exact Zbj h
theorem sortable_perm {ps ps':List PV}(h:ps.Perm ps'):sortable ps=sortable ps':=by
 unfold sortable;rw[Zbj h,Zbj h,Zbj h,Zbj h]
theorem kP_pur:∀(k:9e7),purs (k.map kP)=true
 | []=>rfl
 | .inl _::k=>by simp only[Yw,kP,purs,pur,Bool.true_and];exact kP_pur k
 | .inr _::k=>by simp only[Yw,kP,purs,pur,Bool.true_and];exact kP_pur k
theorem ZcD:∀(ks:4e9),purs (ks.map tupK)=true
 | []=>rfl
 | k::ks=>by rw[Yw,purs,ZcD ks];unfold tupK;rw[pur,kP_pur];rfl
theorem sortP_perm {ks ks':4e9}(h:ks'.Perm ks){qs:List PV}(e:sortP (ks.map tupK)=some qs):sortP (ks'.map tupK)=some qs:=by
 have hp:=h.map tupK
 have e1:=ZbN e
 unfold sortP at e ⊢
 split at e
 ·rename_i hh
  simp only[Ys,decide_eq_true_eq] at hh
  obtain ⟨⟨⟨⟨hd,hde⟩,h64⟩,hso⟩,hcm⟩:=hh
  rw[if_pos ?_]
  ·congr 1
   rw[e1]
   exact sortL_eq (by rw[Zdk hp];exact hcm) (ZcD ks') (hp.trans (Zbn hcm (ZcD ks)).symm) (ZbD hcm (ZcD ks))
  ·simp only[Ys,decide_eq_true_eq]
   refine ⟨⟨⟨⟨?_,?_⟩,?_⟩,?_⟩,?_⟩
   ·rw[dats_all] at hd ⊢;rw[Zbj hp];exact hd
   ·rw[deps_le] at hde ⊢;exact fun p hq=>hde p (hp.mem_iff.mp hq)
   ·rw[hp.length_eq];exact h64
   ·rw[sortable_perm hp];exact hso
   ·rw[Zdk hp];exact hcm
 ·cases e
section
variable {X:Cx}
theorem bs_reps {K:W.Frag}{ι:3e7}{H:Hp}:∀{bs:BS},FineB bs H->keysOk (bs.map (·.1))=true->Reps K ι H (bs.map fun p=>tupK p.1) (bs.map fun p=>V.ref p.2)
 | [],_,_=>.nil
 | p::bs,h,hk=>by
  rw[Yw] at hk
  unfold keysOk at hk
  rw[Vj,Ys] at hk
  exact .cons (rep_tupK hk.1 (h p (.head _))) (bs_reps (fun q hq=>h q (.tail _ hq)) hk.2)
theorem bs_vals:∀(bs:BS),Vals (bs.map fun p=>V.ref p.2) (bs.map fun p=>YF p.2)
 | []=>.nil
 | p::bs=>.cons rfl (bs_vals bs)
theorem keysOk_perm {ks ks':4e9}(h:ks'.Perm ks)(e:keysOk ks=true):keysOk ks'=true:=by unfold keysOk at e ⊢;rw[Zbj h];exact e
theorem sorted_set {pins:2e0}{s:Shared}{σ:St}{H:Hp}{D:Addr}{bs:BS}{qs:List PV}{Q:VK}(hcm:9e9)(hu:8e3)(I:2e3)(SU:SetU (mixKind X.prog X.w) s.heap D (ledOf X) bs)(hf:FineB bs H)(hk:keysOk (bs.map (·.1))=true)(hs:sortP (bs.map fun p=>tupK p.1)=some qs)
  (q:∀ws l,(∀ι,Reps X.K ι H qs ws)->H l=none->Q (.ref l) (upd H l (.lst ws))):wpAny 2e4 X.A (call (.builtin "sorted") [.ref D]) (EP X pins σ Q) X.xe s:=by
 obtain ⟨o,es,ep,t,ho,hex,hd,hL,TT,nd,hpm⟩:=SU
 have ev:(es.toList.map (·.2)).Perm (bs.map fun p=>YF p.2):=by
  have:=hpm.map (·.2)
  rw[Xf] at this
  exact this
 have hs':∀bs':BS,bs'.Perm bs->sortP (bs'.map fun p=>tupK p.1)=some qs:=fun bs' hp=>by
  have e1:∀b:BS,(b.map fun p=>tupK p.1)=(b.map (·.1)).map tupK:=fun b=>by rw[Xf];rfl
  rw[e1] at hs ⊢
  exact sortP_perm (hp.map _) hs
 classical
 let ps:List Value->List PV:=fun vs=>if h:∃bs':BS,bs'.Perm bs/\vs=bs'.map (fun p=>YF p.2) then (Classical.choose h).map fun p=>tupK p.1 else []
 have key:∀vs,(∃bs':BS,bs'.Perm bs/\vs=bs'.map fun p=>YF p.2)->∃bs':BS,bs'.Perm bs/\vs=(bs'.map fun p=>YF p.2)/\ps vs=bs'.map fun p=>tupK p.1:=fun vs h=>by
  refine ⟨Classical.choose h,(Classical.choose_spec h).1,(Classical.choose_spec h).2,?_⟩
  exact dif_pos h
 have all:∀vs,(∃bs':BS,bs'.Perm bs/\vs=bs'.map fun p=>YF p.2)->HReps s.heap (ps vs) vs/\sortable (ps vs)=true/\cmpAll (ps vs)=true/\deps (ps vs)<=40/\(ps vs).length < 64/\(ps vs).length=vs.length/\sortL (ps vs)=qs/\∃ys,Vals ys vs/\∀ι,Reps X.K ι H (ps vs) ys:=fun vs h=>by
  obtain ⟨bs',hp,e,ep⟩:=key vs h
  have h1:=hs' bs' hp
  have h2:=ZbN h1
  unfold sortP at h1
  split at h1
  ·rename_i hh
   simp only[Ys,decide_eq_true_eq] at hh
   obtain ⟨⟨⟨⟨hd,hde⟩,h64⟩,hso⟩,hcm⟩:=hh
   have rs:∀ι,Reps X.K ι H (bs'.map fun p=>tupK p.1) (bs'.map fun p=>V.ref p.2):=fun ι=>bs_reps (fun p hq=>hf p (hp.mem_iff.mp hq)) (keysOk_perm (hp.map _) hk)
   rw[ep,e]
   refine ⟨Reps.heap I _ (rs []) (bs_vals bs') hd,hso,hcm,hde,h64,by simp,h2.symm,_,bs_vals bs',rs⟩
  ·cases h1
 refine sorted_at3 (OKv:=fun vs=>∃bs':BS,bs'.Perm bs/\vs=bs'.map fun p=>YF p.2) (κ:=fun vs=>kindP (ps vs)) (o:=fun vs=>oP (ps vs)) (fun Q' q'=>?_) (fun vs ok=>?_) (fun vs ok h2 h' d tk k Q' q'=>?_) (fun vs ok h2 h' d tk k i j C hi hj hC=>?_) (fun vs D' h' d tk c ok hD k e=>?_)
 ·refine collect_set (I.ok.hd hcm) ⟨o,ho,hex,hd⟩ TT (fun z=>by rw[hL];unfold ledOf;rw[z];rfl) fun h' d tk vs k hle pm=>?_
  obtain ⟨bs',p,e⟩:=ZbI (pm.trans ev) bs rfl
  exact q' h' d tk vs k hle ⟨bs',p,e⟩
 ·obtain ⟨_,_,_,_,h64,hl,_⟩:=all vs ok;lia
 ·obtain ⟨hr,hso,_⟩:=all vs ok
  exact Zc9 (s:={ s with heap:=h',drawn:=d,toks:=tk }) (hr.keep k) h2 hso q'
 ·obtain ⟨hr,hso,hcm',hde,_⟩:=all vs ok
  exact ask_of (s:={ s with heap:=h',drawn:=d,toks:=tk }) (hr.keep k) hso hcm' (by rw[YT,YT];lia) hi hj hC
 ·obtain ⟨hr,hso,hcm',hde,h64,hl,hsl,ys,rv,rs⟩:=all vs ok
  rw[Zcc hl] at e
  have I':Inv X pins σ H { s with drawn:=d }:=⟨I.ok,I.os,I.bare,I.base,I.loc,I.cell,I.free,I.freeC,I.pin,I.hok,I.len⟩
  refine ⟨.ref D',_,I'.laid (t':=tk) k hD (show ObjOk X.prog X.w _ h' _ (.lst (sortV (ps vs) ys)) from ⟨?_,sortU (ps vs) vs,c,?_,e⟩),rfl,q _ _ (fun ι=>?_) (I.hok.fresh hD)⟩
  ·unfold sortV
   rw[YE]
   have:(perm (ps vs)).length<=64:=by
    unfold perm
    split
    ·rw[X3];lia
    ·rw[YG,(Zcy (o:=oP (ps vs)) (XB (ps vs).length) (ZbC 1e2)).2.1];lia
   exact YR this (by rw[YU];decide)
  ·exact ZbM rv fun i hi=>by have:=Zbk i hi;lia
  ·rw[←hsl];exact ZbQ (rs ι) fun i hi=>Zbk i hi
end
def compS1 (g:4e5)(tt:6e3)(te:4e3):List PV->PSt->List (List Key)->M (PSt×List (List Key))
 | [],ρ,ks=>ret (ρ,ks)
 | x::xs,ρ,ks=>match g x ρ with
  | none=>fun _=>none
  | some ρ1=>bnd (tt ρ1) fun b=>if b then bnd (te ρ1) fun y=>match y with
    | .v (.tup qs)=>match keysP qs with
     | some k=>if ks.length < 76 then compS1 g tt te xs ρ1 (putKs ks k) else fun _=>none
     | none=>fun _=>none
    | _=>fun _=>none
   else compS1 g tt te xs ρ1 ks
def compS0 (g0:4e5)(it1:6e0)(g1:4e5)(tt:6e3)(te:4e3):List PV->PSt->List (List Key)->M (List (List Key))
 | [],_,ks=>ret ks
 | x::xs,ρ,ks=>match g0 x ρ with
  | none=>fun _=>none
  | some ρ1=>bnd (it1 ρ1) fun ys=>bnd (compS1 g1 tt te ys ρ1 ks) fun r=>compS0 g0 it1 g1 tt te xs r.1 r.2
def mSortSet (it0:6e0)(vs:5e6)(fr:11e8)(g0:4e5)(it1:6e0)(g1:4e5)(tt:6e3)(te:4e3):PSt->M 13e5:=
 fun ρ=>bnd (it0 ρ) fun xs=>bnd (compS0 g0 it1 g1 tt te xs (stIn' vs fr ρ) []) fun ks=>opM fun _=>if keysOk ks then sortP (ks.map tupK) else none
theorem insU_fst (bs:BS)(k:9e7)(a:Addr):(insU bs k a).map (·.1)=putKs (bs.map (·.1)) k:=by
 unfold insU putKs
 by_cases h:k∈bs.map (·.1)
 ·rw[if_pos h,if_pos (ZbK.mpr h)]
 ·rw[if_neg h,if_neg (fun z=>h (ZbK.mp z)),Xv];rfl
theorem fineB_ins {bs:BS}{k:9e7}{a:Addr}{H:Hp}(h:FineB bs H)(e:H a=some (.tup (k.map kV))):FineB (insU bs k a) H:=by
 unfold insU
 split
 ·exact h
 ·intro p hp
  rcases Yz.mp hp with hp | hp
  ·exact h p hp
  ·rw[Yh.mp hp];exact e
theorem Zbt {K:W.Frag}{ι:3e7}{H H':Hp}{C:Cs}{bs:BS}(c:11e5)(f:Fr ι H H')(h:FineB bs H):FineB bs H':=fun p hp=>tpR_mono c f (h p hp)
section
variable {K:W.Frag}{ι:3e7}{g0 g1:4e5}{it0 it1:6e0}{tt:6e3}{te:4e3}
theorem compS1_pure {J:It}{ys:List PV}{H5:Hp}{C4 C5:Cs}{ρ3 ρ5:PSt}{ks5:4e9}{σ4:St}{bs:BS}{N:St->BS->Hp->Prop}(it5:Iter K ι H5 ys J)(sr:SR K ι H5 ρ3 σ4 C4)(hf:FineB bs H5)
  (e:compS1 g1 tt te ys ρ3 (bs.map (·.1)) C4=some ((ρ5,ks5),C5)) (hN:∀σ bs' H',Fr ι H5 H'->SR K ι H' ρ5 σ C5->FineB bs' H'->bs'.map (·.1)=ks5->N σ bs' H'):CompWS1 J (tMG K g1) (tMB K tt) (tM K te) bs σ4 H5 N:=by
 have x0:∀{H2:Hp},Fr ι H5 H2->Ex ι [] H5 H2:=fun f=>Ex.fr f
 have c0:∀{H2:Hp} {C2:Cs},CR K ι H2 C2->CR K (ι++[]) H2 C2:=fun c=>by rw[YJ];exact c
 refine ⟨fun i m σ bs' H2=>∃ρ2 C2,m=ys.length - i/\i<=ys.length/\Fr ι H5 H2/\SR K ι H2 ρ2 σ C2/\FineB bs' H2/\compS1 g1 tt te (ys.drop i) ρ2 (bs'.map (·.1)) C2=some ((ρ5,ks5),C5),⟨ys.length,ρ3,C4,rfl,YV _,.refl,sr,hf,e⟩,?_⟩
 rintro i m σ2 bs2 H2 ⟨ρ2,C2,rfl,hi2,f2,sr2,fb2,e2⟩
 rcases YH i ys.length with hlt | hge
 ·right
  refine ⟨it5.go [] H2 C2 (x0 f2) (c0 sr2.cr) i hlt,fun σ' bs' H'=>∃ρ2 C2,Fr ι H5 H'/\SR K ι H' ρ2 σ' C2/\FineB bs' H'/\compS1 g1 tt te (ys.drop (i + 1)) ρ2 (bs'.map (·.1)) C2=some ((ρ5,ks5),C5),?_,?_⟩
  ·rintro σ' bs' H' ⟨ρ3,C3,f3,sr3,fb3,e3⟩
   exact ⟨ys.length - (i + 1),by lia,ρ3,C3,rfl,hlt,f3,sr3,fb3,e3⟩
  ·intro v H3 y
   obtain ⟨sm,qv,hq,rq⟩:=it5.yld [] H2 C2 (x0 f2) (c0 sr2.cr) i v H3 hlt y
   rw[YJ] at rq
   have hd:ys.drop i=qv::ys.drop (i + 1):=by
    rw[XS hlt]
    rw[Yd hlt] at hq
    rw[YN hq]
   rw[hd] at e2
   unfold compS1 at e2
   cases hg1:g1 qv ρ2 with
   | none=>rw[hg1] at e2;cases e2
   | some ρ3=>
    rw[hg1] at e2
    obtain ⟨b,C3,e3,e4⟩:=Zag e2
    have fr3:Fr ι H2 H3:=fun b o _ z=>sm b o z
    have cr3:CR K ι H3 C2:=sr2.cr.same sm
    refine ⟨ι,ρ2,C2,qv,ρ3,sr2.step fr3 cr3,rq,hg1,fun σ4 sr4=>⟨ι,ρ3,C2,b,C3,sr4,e3,fun H5 f5 c5=>?_⟩⟩
    have f15:=f2.trans (fr3.trans f5)
    have fb5:FineB bs2 H5:=Zbt cr3 f5 (Zbt sr2.cr fr3 fb2)
    cases b with
    | true=>
     rw[if_pos rfl] at e4
     dsimp only
     rw[if_pos rfl]
     obtain ⟨y1,C6,e6,e7⟩:=Zag e4
     refine ⟨ι,ρ3,C3,y1,C6,sr4.step f5 c5,e6,fun v7 H7 f7 c7 r7=>?_⟩
     cases y1 with
     | c k=>cases e7
     | v p7=>
      cases p7 with
      | tup qs=>
       cases hk:keysP qs with
       | none=>simp only[hk] at e7;cases e7
       | some k=>
        simp only[hk] at e7
        by_cases hlen:(bs2.map (·.1)).length < 76
        ·rw[if_pos hlen] at e7
         obtain ⟨a,rfl,ha⟩:=Zb1 (show Rep K ι H7 (.tup qs) v7 from r7) hk
         have fb7:=Zbt c5 f7 fb5
         refine ⟨k,a,rfl,ha,fb7,by rw[YE] at hlen;lia,ρ3,C6,f15.trans f7,(sr4.step f5 c5).step f7 c7,fineB_ins fb7 ha,?_⟩
         rw[insU_fst];exact e7
        ·rw[if_neg hlen] at e7;cases e7
      | _=>cases e7
    | false=>
     rw[if_neg Yu] at e4
     dsimp only
     rw[if_neg Yu]
     exact ⟨ρ3,C3,f15,sr4.step f5 c5,fb5,e4⟩
 ·left
  have hi3:i=ys.length:=by lia
  subst hi3
  rw[W6] at e2
  unfold compS1 at e2
  have e2':some ((ρ2,bs2.map (·.1)),C2)=some ((ρ5,ks5),C5):=e2
  simp only[Option.some.injEq,Prod.mk.injEq] at e2'
  obtain ⟨⟨rfl,hk⟩,rfl⟩:=e2'
  exact ⟨it5.stop [] H2 _ (x0 f2) (c0 sr2.cr),hN σ2 bs2 H2 f2 sr2 fb2 hk⟩
end
end Pu
namespace Pu
open PySem PySem.Spec PySem.W PySem.Calls L2
open PyProof.Rows hiding St Fr
def mFnN (F:List SV->M SV)(f:6e0)(gs:2e9):PSt->M SV:=fun ρ=>bnd (f ρ) fun ps C=>match bnd (gs ρ) (fun xs=>F (.c C.length::xs)) (C++[.lst ps]) with
 | some (r,C')=>fin C.length C' r
 | none=>none
section
variable {X:Cx}{e:Expr}{es:5e9}{p pos:Pos}{x:Str}
theorem em_callN {k:Nat}{f:Addr}{fd:XZ}{ps:5e6}{F:List SV->M SV}{f0:6e0}{gs:2e9}(G:FnOk X.prog X.w X.K X.mg X.base CX0 k f fd ps (liftSp X.K F))(hr:Room k X.A)(hg:Gl X x)(hm:X.mg x=some (.ref f))(hk:V0 X.K (.ref f)=true)(hb:Binds X.K fd ps [])
  (h0:FM X e f0) (ha:AM X es gs) (hdb:5e1:=by decide) (he:1e8:=by rfl) (hpl:2e8:=by rfl):
  EM X 8e4 (mFnN F f0 gs):=PE.imp (pe_call G hr hg hm hk hb .nil pass0 (pa_cons h0 ha he) hdb he hpl) fun σ H Q h=>by
 obtain ⟨ι,ρ,C,z,C',sr,e,q⟩:=h
 obtain ⟨ps,C1,e1,e⟩:=Zag e
 refine ⟨ι,ρ,C,ps,C1,sr,e1,fun a vs H1 f1 c1 ha0 rs=>?_⟩
 cases hb:bnd (gs ρ) (fun xs=>F (.c C1.length::xs)) (C1++[.lst ps]) with
 | none=>rw[hb] at e;cases e
 | some r=>
  obtain ⟨r,C9⟩:=r
  rw[hb] at e
  replace e:fin C1.length C9 r=some (z,C'):=e
  obtain ⟨xs,C2,e2,e3⟩:=Zag hb
  have c2:CR X.K (ι++[a]) (upd H1 a (.lst vs)) (C1++[.lst ps]):=c1.add ha0 ⟨vs,ZaQ,RepsNew c1 ha0 ps vs rs⟩
  have x0:Ex ι [a] H1 (upd H1 a (.lst vs)):=⟨Fr.new ha0,fun b hb=>by
   have:b=a:=by simpa using hb
   subst this;exact ha0⟩
  refine ⟨ι++[a],ρ,C1++[.lst ps],xs,C2,(sr.step f1 c1).ex x0 c2,e2,fun ws H2 f2 c3 r2=>?_⟩
  show liftSp X.K F ((V.ref a::ws)++[]) H2 Q E0
  rw[YJ]
  have hk:(ι++[a])[C1.length]? = some a:=by rw[←c1.len];simp
  refine ⟨ι++[a],.c C1.length::xs,C2,r,C9,c3,⟨_,_,rfl,⟨a,rfl,hk⟩,r2⟩,e3,fun v H3 f3 c4 r4=>?_⟩
  obtain ⟨c5,r5⟩:=fin_ok c4 c1.len r4 e
  refine q v H3 (fun b o n e=>?_) c5 r5
  obtain ⟨n1,e'⟩:=x0.out b o n (f1 b o n e)
  exact f3 b o n1 (f2 b o n1 e')
end
end Pu
namespace Hd
open PySem PySem.W PySem.Spec PySem.Calls L2 Pu
open PyProof.Rows hiding St Fr
def kf (h:Heap)(as:3e7):Frag:=as.filterMap fun a=>(h.get? a).map fun o=>(a,o)
theorem kf_get {h:Heap}:∀{as:3e7} {a:Addr} {o:Obj},(kf h as).lookup a=some o->h.get? a=some o
 | [],_,_,e=>by cases e
 | b::as,a,o,e=>by
  unfold kf at e
  rw[Wt] at e
  cases g:h.get? b with
  | none=>rw[g] at e;exact kf_get e
  | some p=>
   rw[g] at e
   simp only[Uy,Y6] at e
   by_cases q:a=b
   ·subst q;rw[beq_self_eq_true] at e;cases e;exact g
   ·rw[beq_eq_false_iff_ne.mpr q] at e;exact kf_get e
theorem kf_in (h:Heap)(as:3e7):(kf h as).In h:=fun _ _ e=>kf_get e
theorem kf_at {h:Heap}{a:Addr}{o:Obj}(g:h.get? a=some o):∀{as:3e7},a∈as->(kf h as).lookup a=some o
 | [],m=>by cases m
 | b::as,m=>by
  unfold kf
  rw[Wt]
  by_cases q:a=b
  ·subst q;rw[g];simp
  ·have m':a∈as:=(Yn.mp m).resolve_left q
   cases g':h.get? b with
   | none=>exact kf_at g m'
   | some p=>
    simp only[Uy,Y6]
    rw[beq_eq_false_iff_ne.mpr q]
    exact kf_at g m'
def At (mg:3e1)(h:Heap)(as:3e7)(d:DefRec):Prop:=∃(a c:Addr) (o:Obj) (pm doc:Value),mg d.name=some (.ref a)/\h.get? a=some o/\o.data=.func (docDef d.name d.params d.body d.scope pm (.ref c) doc)/\h.CodeRec (.ref c) d.name/\a∈as/\c∈as
theorem at_all {mg:3e1}{h:Heap}(as0:3e7):∀ds:List DefRec,(∀d∈ds,∃a o pm code doc,mg d.name=some (.ref a)/\h.get? a=some o/\o.data=.func (docDef d.name d.params d.body d.scope pm code doc)/\h.CodeRec code d.name)->
  ∃as:List Addr,(∀a∈as0,a∈as)/\∀d∈ds,At mg h as d
 | [],_=>⟨as0,fun _ m=>m,fun _ m=>nomatch m⟩
 | d::ds,T=>by
  obtain ⟨as,h0,ih⟩:=at_all as0 ds fun e m=>T e (.tail _ m)
  obtain ⟨a,o,pm,cd,doc,h1,h2,h3,h4⟩:=T d (.head _)
  obtain ⟨c,oc,vs,t,rfl,r⟩:=h4
  refine ⟨a::c::as,fun b m=>.tail _ (.tail _ (h0 b m)),fun e m=>?_⟩
  rcases Yn.mp m with rfl | m
  ·exact ⟨a,c,o,pm,doc,h1,h2,h3,⟨c,oc,vs,t,rfl,r⟩,.head _,.tail _ (.head _)⟩
  ·obtain ⟨a',c',o',pm',doc',q1,q2,q3,q4,q5,q6⟩:=ih e m
   exact ⟨a',c',o',pm',doc',q1,q2,q3,q4,.tail _ (.tail _ q5),.tail _ (.tail _ q6)⟩
def FnAt (K:Frag)(mg:3e1)(x:Str)(st:Stmt):Prop:=∃f fd,mg x=some (.ref f)/\Fun K x x st f fd
def four (d:DefRec):Str×Arguments×List Stmt×Scope:=(d.name,d.params,d.body,d.scope)
def fourS (p:Str×Stmt):Str×Arguments×List Stmt×Scope:=(p.1,defArgs p.2,defBody p.2,defScope p.2)
theorem fn_at {mg:3e1}{h:Heap}{as:3e7}{ds:List DefRec}{sts:List (Str×Stmt)}(A:∀d∈ds,At mg h as d)(es:ds.map four=sts.map fourS)(i:Nat){x:Str}{st:Stmt}(e:sts[i]? = some (x,st)):FnAt (kf h as) mg x st:=by
 have q:(ds.map four)[i]? = some (fourS (x,st)):=by rw[es,YL,e];rfl
 obtain ⟨d,e',q⟩:=XN.mp ((YL ..).symm.trans q)
 obtain ⟨n,ps,b,sc,p⟩:=d
 obtain ⟨rfl,q⟩:=Prod.mk.inj q
 obtain ⟨q1,q⟩:=Prod.mk.inj q
 obtain ⟨q2,q3⟩:=Prod.mk.inj q
 dsimp only at q1 q2 q3
 subst q1 q2 q3
 obtain ⟨a,c,o,pm,doc,h1,h2,h3,h4,h5,h6⟩:=A _ (YQ e')
 obtain ⟨c',oc,vs,t,e1,g,hd,hv⟩:=h4
 cases e1
 obtain ⟨cl,dd,dt,sl⟩:=o
 cases (show dt=_ from h3)
 have k1:=kf_at h2 h5
 have k2:=kf_at g h6
 refine ⟨a,_,h1,fun_mk (oc:=cl) (od:=dd) (osl:=sl) (kV:=.none) (doc:=doc) (pm:=pm) (an:=none) (ct:=.none) (cdv:=.ref c) k1 ?_ ?_⟩
 ·obtain ⟨ocl,odd,odt,osl⟩:=oc
  cases (show odt=_ from hd)
  unfold codeIn
  dsimp only
  rw[k2]
  obtain ⟨l⟩:=vs
  match l,hv with
  | _::v::r,hv=>
   cases (show v=_ by simpa using hv)
   simp
 ·unfold keepIn
  dsimp only
  rw[k1]
def defPos (s:Stmt):Pos:=match s with
 | .FunctionDef _ _ _ _ _ _ _ _ _ p=>p
 | _=>⟨0,0,0,0⟩
def isHere (p:YC)(loose:5e6)(x:Str):Bool:=startupNames.contains x||loose.contains x||((recsOf p).map (·.name)).contains x||((litsOf p).map (·.1)).contains x||((clssOf p loose).map (·.name)).contains x
theorem nones {p:YC}{loose:5e6}{mean:ExcName->Option Value}{mg mb:3e1}{h:Heap}(T:Top p loose mean mg mb h){xs:5e6}(e:xs.all (fun x=>!isHere p loose x)=true)(i:Nat){x:Str}(hx:xs[i]? = some x):mg x=none:=by
 have q:=YW.mp e x (YQ hx)
 unfold isHere at q
 simp only[Bool.not_or,Ys,Bool.not_eq_true',List.contains_eq_mem,decide_eq_false_iff_not] at q
 exact T.free x q.1.1.1.1 q.1.1.1.2 q.1.1.2 q.1.2 q.2
def spLaw (K:Frag):Sp:=fun vs H Q _=>∃(a:Addr) (ns:List Int),vs=[.ref a]/\SqL K H a (ns.map V.int)/\ns.length<=63/\∀H',Q 14e3 H'
theorem reps_ints {K:Frag}{ι:3e7}{H:Hp}:∀ns:List Int,Reps K ι H (ns.map PV.int) (ns.map V.int)
 | []=>by unfold Reps;rfl
 | n::ns=>by
  rw[Yw,Yw];unfold Reps
  exact ⟨_,_,rfl,by unfold Rep;rfl,reps_ints ns⟩
theorem spLaw_lift {K:Frag}{F:List SV->M SV}(hF:∀ns:List Int,ns.length<=63->F [.v 15e0] []=some (.v 14e3,[]))(vs:List V)(H:Hp)(Q:VK)(E:XK)(h:spLaw K vs H Q E):liftSp K F vs H Q E:=by
 obtain ⟨a,ns,rfl,hS,hl,hQ⟩:=h
 refine ⟨[],[.v 15e0],[],.v 14e3,[],⟨rfl,List.nodup_nil,fun k a c e=>by cases e⟩,?_,hF ns hl,fun v H' _ _ r=>?_⟩
 ·unfold RepSs
  refine ⟨_,_,rfl,?_,by unfold RepSs;rfl⟩
  unfold RepS Rep
  refine ⟨a,_,rfl,?_,reps_ints ns⟩
  rcases hS with h | h
  ·exact .inl ⟨Xm,h⟩
  ·exact .inr h
 ·have e:v=.bl true:=by unfold RepS Rep at r;exact r
  subst e;exact hQ H'
theorem walk {l:OpenLaw}{k:Nat}{q:YC}{loose:5e6}{XP:(Str->Option Value)->Heap->Prop}{YP:World->Heap->Prop}{d:DefRec}(hn:l.most=some 63)(hdf:d.params.defaults=[])(hr:Room k UV)(as0:3e7)
  (F:∀(w:World) (s₀:Shared) (mg mb:3e1) (h:Heap) (as:3e7),Ground q loose [] XP w s₀ mg mb h->YP w h->(∀a∈as0,a∈as)->(∀d∈recsOf q,At mg h as d)->∀fa:Addr,mg d.name=some (.ref fa)->
   ∃fd:XZ,(∀(s:Shared) (u:Value),BindsTo s fd ⟨[u],[]⟩ [("_law_script",u)])/\∀base:Heap,FnOk l.prog w (kf h as) mg base CX0 k fa fd ["_law_script"] (spLaw (kf h as))):
  WalkO q loose XP YP l.row.toRowW d [] (fun f vs=>PySem.call f vs):=by
 refine Att.attach_call hn hdf fun w s₀ s₁ mg mb fa o pm cd doc a vs ns G Y ho hd hcd hmg hobj hints hlen hg=>?_
 obtain ⟨as,h0,A⟩:=at_all as0 (recsOf q) G.T.fn
 obtain ⟨fd,hb,hF⟩:=F w s₀ mg mb _ as G Y h0 A fa hmg
 exact law_call (kf_in s₁.heap as) G.T.g G.T.b G.T.builtins G.T.nolimit hg hobj hints (YR hlen 1e1) hr (fun base _ _=>hF base) hb (fun H hO hS=>⟨a,ns,rfl,hS,hlen,fun _=>rfl⟩) fun H e s' z=>z
end Hd
namespace L2
open PySem PySem.Spec PyProof.Rows
abbrev GT:=TI×TG×TT
end L2
namespace Pu
open PySem PySem.Spec PySem.W PySem.Calls L2
open PyProof.Rows hiding St Fr
def Cal (P:YC)(w:World)(K:W.Frag)(mg:3e1)(base:Heap)(k:Nat)(x:Str)(ps:5e6)(S:Sp):Prop:=∃(f:Addr) (fd:XZ),FnOk P w K mg base CX0 k f fd ps S/\mg x=some (.ref f)/\V0 K (.ref f)=true/\Binds K fd ps []
section
variable {prog:YC}{w:World}{A:Around}{E:1e5}{s:Shared}{I l:Addr}{items:Array Value}
theorem hint_rev {Q:8e2}{i:Int}(hit:s.heap.IsRevIter I l i)(h:Q false s):wpAny 2e5 A (X8 (.ref I)) Q E s:=by
 have no_len:typeLookup (.type "list_reverseiterator") "__len__"=pure none:=by rw[VQ,WW];kernel_rfl
 have hint:typeLookup (.type "list_reverseiterator") "__length_hint__"=pure (some (.builtin "list_reverseiterator.__length_hint__")):=by rw[VQ,WW];kernel_rfl
 have own:UT (.type "list_reverseiterator") (.type "list_reverseiterator")=pure true:=by rw[V7];kernel_rfl
 have parts:∀id,id="list_reverseiterator.__length_hint__"->splitId id=some ("list_reverseiterator","__length_hint__"):=fun id e=>by rw[e];decide +kernel
 delta X8
 apply Ya
 refine VL hit.typeIs no_len ?_
 dsimp only
 rw[if_neg 1e1,if_neg 1e1]
 apply Ya
 refine VL hit.typeIs hint ?_
 generalize en:("list_reverseiterator.__length_hint__":String)=nm
 dsimp only
 rw[parts nm en.symm]
 subst en
 apply Ya
 refine wpAny_isInstance hit.typeIs own ?_
 simp only[VF,YM,if_false]
 rw[if_pos 7e9,if_neg 1e1]
 exact Yc h
theorem rev_items {acc:Array Value}(h:UX (fun i v=>items[items.size - 1 - i]? = some v) acc items.size):acc.toList=items.toList.reverse:=by
 apply Xa
 intro i
 rw[Y3]
 have hz:=h.1
 by_cases hi:i < items.size
 ·have e:=h.2 i _ (Yg 1e2)
  rw[Yg 1e2,List.getElem?_reverse (by simpa using hi),YG,Y3,e]
 ·rw[YK 1e2,Xs 11e1]
theorem rev_extend {R:12e3}(hh:13e6)(hit:s.heap.IsRevIter I l ((items.size:Int) - 1))(hl:s.heap.IsList l items)(S:Addr)(hSI:S≠I)(hSl:S≠l)(hIl:l≠I)(res:Value)(c₀:Nat)(hS:s.heap.get? S=some { cls:=.type "list",data:=.seq #[] c₀ })(hn:items.size<=Yt)
  (hR:∀h' tk acc' c',(∀b o,b≠S->b≠I->s.heap.get? b=some o->h'.get? b=some o)->h'.get? S=some { cls:=.type "list",dict:=none,data:=.seq acc' c',slots:=#[] }->acc'.toList=items.toList.reverse->R (.ok (.ret res)) { s with heap:=h',toks:=tk }):
  wpAny 2e5 A.in1 (Xu (.ref S) (.ref I) res)
   (fun fin s'=>match fin with | .done f=>R (.ok f) s' | .again c'=>c'.quiet=true/\XU (model prog w) A c' R s') (fun e s'=>R (.error e) s') s:=by
 have other:XV (.ref S) (.ref I)=false:=by simpa[XV] using hSI
 have kinds:(XQ "list_reverseiterator"==XQ "list")=false/\(XQ "list_reverseiterator"==XQ "tuple")=false:=by decide
 delta Xu
 apply Ya
 refine WL (T:="list_reverseiterator") hit.typeIs ?_
 rw[other,kinds.1,kinds.2]
 apply Ya
 refine wpAny_pyIter_revIter hit ?_
 apply Ya
 apply Xc
 refine hint_rev hit ?_
 rw[if_neg 7e9]
 refine Yc ⟨plainId_quiet PySem.F.plain_extend_loop _,?_⟩
 refine Se.loop_all (Walks.listRev (prog:=prog) (w:=w) (A:=A.in1) hh I l hIl items) hn (by simp[hSI,hSl]) ⟨YV _,by simpa using hit,hl⟩ hS fun h' tk acc c' k a its=>?_
 exact hR h' tk acc c' k a (rev_items its)
theorem rev_init {R:12e3}(hh:13e6)(hit:s.heap.IsRevIter I l ((items.size:Int) - 1))(hl:s.heap.IsList l items)(S:Addr)(hSI:S≠I)(hSl:S≠l)(hIl:l≠I)(hS:s.heap.get? S=some { cls:=.type "list",data:=.seq #[] })(hn:items.size<=Yt)
  (hR:∀h' tk acc' c',(∀b o,b≠S->b≠I->s.heap.get? b=some o->h'.get? b=some o)->h'.get? S=some { cls:=.type "list",dict:=none,data:=.seq acc' c',slots:=#[] }->acc'.toList=items.toList.reverse->R (.ok (.ret .none)) { s with heap:=h',toks:=tk }):
  wpAny 2e5 A.in1 (W0.«list.__init__» ⟨[.ref S,.ref I],[]⟩)
   (fun fin s'=>match fin with | .done f=>R (.ok f) s' | .again c'=>c'.quiet=true/\XU (model prog w) A c' R s') (fun e s'=>R (.error e) s') s:=by
 have none_:(#[]:Array Value).toList.reverse=[]:=rfl
 have made:=Xr (XD (fun _=>(#[]:Array Value))) hS rfl
 have kept:∀b o,b≠S->s.heap.get? b=some o->(s.heap.update S (XD (fun _=>(#[]:Array Value)))).get? b=some o:=fun b o n e=>(XF s.heap b S _ n).trans e
 refine Ya (m:=Builtin.List.listItems (.ref S)) ?_
 delta Builtin.List.listItems
 apply Ya
 refine Vt hS rfl ?_
 apply Yc
 refine Ya (m:=Builtin.List.listUpdate (.ref S) (fun _=>#[])) ?_
 refine UH hS rfl ?_
 apply Ya
 apply wpAny_letGo
 refine rev_extend (s:={ s with heap:=s.heap.update S (XD (fun _=>(#[]:Array Value))) }) hh (hit.at fun o e=>kept _ o hSI.symm e) (hl.at fun o e=>kept _ o hSl.symm e) S hSI hSl hIl .none _ made hn ?_
 intro h1 tk acc c1 k a its
 exact hR h1 tk acc c1 (fun b o n1 n2 e=>k b o n1 n2 (kept b o n1 e)) a its
theorem list_reversed {Q:1e5}(hh:13e6)(hl:s.heap.IsList l items)(hn:items.size<=Yt)
  (h:∀D h' tk c acc,s.heap.objs.size<=D->(∀b o,s.heap.get? b=some o->h'.get? b=some o)->h'.get? D=some { cls:=.type "list",dict:=none,data:=.seq acc c,slots:=#[] }->acc.toList=items.toList.reverse->Q (.ref D) { s with heap:=h',toks:=tk }):
  wpAny 2e5 A (call (.type "reversed") [.ref l]) (fun v s1=>wpAny 2e5 A (call (.type "list") [v]) Q E s1) E s:=by
 have hlt:l < s.heap.objs.size:=by obtain ⟨o,g,_⟩:=hl;exact Yv g
 refine call_reversed_list hl ?_
 have hit0:(s.heap.push (revObj l ((items.size:Int) - 1))).IsRevIter s.heap.objs.size l ((items.size:Int) - 1):=⟨_,Yo _ rfl,rfl,rfl⟩
 have hl0:(s.heap.push (revObj l ((items.size:Int) - 1))).IsList l items:=hl.push _
 have hz0:(s.heap.push (revObj l ((items.size:Int) - 1))).objs.size=s.heap.objs.size + 1:=Vs ..
 have k0:∀b o,s.heap.get? b=some o->(s.heap.push (revObj l ((items.size:Int) - 1))).get? b=some o:=fun b o e=>Yb _ e
 generalize (s.heap.push (revObj l ((items.size:Int) - 1)))=g at *
 refine callType_codes (Q₁:=fun obj s₁=>obj=.ref g.objs.size/\s₁={ s with heap:=g.push { cls:=.type "list",data:=.seq #[] } }) PySem.F.called_list (PySem.F.typeCall_list_1 _) PySem.F.entry_list_init
  (code_list_new _ ⟨rfl,rfl⟩) fun obj s₁ h₁=>?_
 obtain ⟨rfl,rfl⟩:=h₁
 have hS:(g.push { cls:=.type "list",data:=.seq #[] }).get? g.objs.size=some { cls:=.type "list",data:=.seq #[] }:=Yo _ rfl
 have n1:g.objs.size≠s.heap.objs.size:=by rw[hz0];exact X0 (W5 _)
 have n2:g.objs.size≠l:=by rw[hz0];exact X0 (Vp hlt)
 refine ⟨⟨_,hS,rfl⟩,PySem.F.args_list_init_2 _ _,rev_init (A:=A.in1) (s:={ s with heap:=g.push { cls:=.type "list",data:=.seq #[] } }) hh (hit0.at fun o e=>Yb _ e) (hl0.push _) _ n1 n2 (Yq hlt) hS hn (fun h' tk acc' c' hk hS' hacc=>?_)⟩
 refine ⟨rfl,h _ h' tk c' acc' (by rw[hz0];exact Ug _) (fun b o e=>hk b o ?_ ?_ (Yb _ (k0 b o e))) hS' hacc⟩
 ·exact Yq (by rw[hz0];exact Vp (Yv e))
 ·exact Yq (Yv e)
end
theorem Zds:Xb "reversed"=some (.type "reversed"):=by decide +kernel
theorem boot_list_:Xb "list"=some (.type "list"):=by decide +kernel
def mListRev (f:4e3):PSt->M 13e5:=fun ρ=>bnd (f ρ) fun x=>opM fun C=>match deref C x with
 | some (.lst ps)=>some ps.reverse
 | _=>none
section
variable {X:Cx}{e:Expr}{f:4e3}{p p2 pos pos2:Pos}
theorem reps_rev {K:W.Frag}{ι:3e7}{H:Hp}:∀{ps:List PV} {vs:List V},Reps K ι H ps vs->Reps K ι H ps.reverse vs.reverse
 | [],vs,r=>by rw[r.inv0];exact .nil
 | q::ps,vs,r=>by
  obtain ⟨v,w,rfl,h1,h2⟩:=r.inv
  rw[Vr,Vr]
  exact (reps_rev h2).append (.cons h1 .nil)
theorem vals_rev:∀{vs:List V} {us:4e1},Vals vs us->Vals vs.reverse us.reverse
 | [],_,.nil=>.nil
 | v::vs,_,.cons r t=>by
  rw[Vr,Vr]
  exact Vals.append (vals_rev t) (.cons r .nil)
end
end Pu
namespace Pu
open PySem PySem.Spec PySem.W PySem.Calls L2
open PyProof.Rows hiding St Fr
abbrev MG:=(PSt->M 13e5)×(PV->PSt->Option PSt)×(PSt->M Bool)
end Pu
namespace Pu
open PySem PySem.Spec L2
open PyProof.Rows hiding St Fr
@[irreducible] def QEM (X:Cx) (e:Expr) (f:4e3):Prop:=EM X e f
theorem QEM_eq:@QEM=@EM:=by unfold QEM;rfl
@[irreducible] def QAM (X:Cx) (es:5e9) (f:2e9):Prop:=AM X es f
theorem QAM_eq:@QAM=@AM:=by unfold QAM;rfl
@[irreducible] def QTMt (X:Cx) (e:Expr) (f:6e3):Prop:=TMt X e f
theorem QTMt_eq:@QTMt=@TMt:=by unfold QTMt;rfl
@[irreducible] def QWM (X:Cx) (e:Expr) (f:6e3):Prop:=WM X e f
theorem QWM_eq:@QWM=@WM:=by unfold QWM;rfl
@[irreducible] def QFM (X:Cx) (e:Expr) (f:6e0):Prop:=FM X e f
theorem QFM_eq:@QFM=@FM:=by unfold QFM;rfl
@[irreducible] def QSM (X:Cx) (st:Stmt) (f:11e6):Prop:=SM X st f
theorem QSM_eq:@QSM=@SM:=by unfold QSM;rfl
@[irreducible] def QBM (X:Cx) (sts:List Stmt) (f:11e6):Prop:=BM X sts f
theorem QBM_eq:@QBM=@BM:=by unfold QBM;rfl
@[irreducible] def QGM (X:Cx) (tg:Expr) (g:4e5):Prop:=GM X tg g
theorem QGM_eq:@QGM=@GM:=by unfold QGM;rfl
@[irreducible] def QGMs (X:Cx) (ts:5e9) (g:List PV->PSt->Option PSt):Prop:=GMs X ts g
theorem QGMs_eq:@QGMs=@GMs:=by unfold QGMs;rfl
@[irreducible] def QIM (X:Cx) (tg iter:Expr) (f:6e0):Prop:=IM X tg iter f
theorem QIM_eq:@QIM=@IM:=by unfold QIM;rfl
@[irreducible] def QTsM (X:Cx) (ifs:5e9) (t:6e3):Prop:=TsM X ifs t
theorem QTsM_eq:@QTsM=@TsM:=by unfold QTsM;rfl
@[irreducible] def QOM (X:Cx) (e:Option Expr) (f:PSt->M (Option Int)):Prop:=OM X e f
theorem QOM_eq:@QOM=@OM:=by unfold QOM;rfl
@[irreducible] def QDM (X:Cx) (ks:List (Option Expr)) (es:5e9) (keys:5e6) (f:2e9):Prop:=DM X ks es keys f
theorem QDM_eq:@QDM=@DM:=by unfold QDM;rfl
end Pu
local macro_rules
 | `(tactic| subst_eqs)=>`(tactic| simp only[Pu.QEM_eq,Pu.QAM_eq,Pu.QTMt_eq,Pu.QWM_eq,Pu.QFM_eq,Pu.QSM_eq,Pu.QBM_eq,Pu.QGM_eq,Pu.QGMs_eq,Pu.QIM_eq,Pu.QTsM_eq,Pu.QOM_eq,Pu.QDM_eq] at *)
namespace Pu
open PySem PySem.Spec L2
open PyProof.Rows hiding St
theorem Zc0 {X:Cx}{e:Expr}{f:6e3}(h:QWM X e f):QTMt X e f:=by
 subst_eqs
 exact h _
section
variable {X:Cx}{a b e c:Expr}{es:5e9}{fa fb fc:4e3}{pos p:Pos}{x:Str}
theorem Zab (i:Nat){x:Str}{pos:Pos}(hN:X.N[i]? = some x:=by rfl)(hv:Vis X.env.scope x:=by first | exact Or.inl rfl | exact Or.inr 2e2 | exact Or.inr (Or.inr rfl))(hd:5e1:=by decide)
  (hcd:(x==("__classdict__":Str))=false:=by decide):QEM X (.Name x pos) (mVar i):=by
 subst_eqs
 refine PE.imp (pe_var hN hv hd hcd) fun σ H Q h_=>?_
 obtain ⟨ι,ρ,C,r,C',sr,e,q⟩:=h_
 unfold mVar at e
 cases e1:ρ[i]? with
 | none=>rw[e1] at e;cases e
 | some o=>
  cases o with
  | none=>rw[e1] at e;cases e
  | some s=>
   rw[e1] at e;cases e
   obtain ⟨v,h1,h2⟩:=sr.loc i _ e1
   exact ⟨v,h1,q v H .refl sr.cr h2⟩
theorem Zac {i j pos}:QEM X (.Constant (.int i) j pos) (mC (.int i)):=by
 subst_eqs
 exact ZcK pe_int fun ι H=>by unfold Rep;rfl
theorem Zbb {i j pos}:QEM X (.Constant (.bool i) j pos) (mC (.bl i)):=by
 subst_eqs
 exact ZcK pe_bl fun ι H=>by unfold Rep;rfl
theorem Zay {i j pos}(h:i.length<=sizeLine:=by decide +kernel):QEM X (.Constant (.str i) j pos) (mC (.str i)):=by
 subst_eqs
 exact ZcK pe_str fun ι H=>by unfold Rep;exact ⟨rfl,h⟩
theorem q_em_ty {n:String}(hg:Gl X x)(hm:X.mg x=none)(hv:Xb x=some (.type n))(hn:x≠"__name__":=by decide)(hd:5e1:=by decide):QEM X (.Name x pos) (mC (.ty n)):=by
 subst_eqs
 exact ZcK (pe_bltn (v:=.ty n) hg hm hv rfl hn hd) fun ι H=>by unfold Rep;rfl
theorem q_em_cmp {op:CmpOp}{r:R2}{g:Cs->SV->SV->Option SV}(ho:OpR X (XT op) r)(hg:R2ok X.K r g)(ha:QEM X a fa)(hb:QEM X b fb)(hm:Vf op b=false):QEM X (.Compare a [op] [b] pos) (mOp g fa fb):=by
 subst_eqs
 exact PE.imp (pe_cmpR ho ha hb hm) fun _ _ _ h=>tM_op hg h
theorem Zap {op:CmpOp}{r:R2}{g:Cs->SV->SV->Option SV}(ho:OpR X (XT op) r)(hg:R2ok X.K r g)(ha:QEM X a fa)(hb:QEM X b fb)(hm:Vf op b=false):QTMt X (.Compare a [op] [b] pos) (mTest (mOp g fa fb)):=by
 subst_eqs
 exact PT.imp (pt_cmpR ho ha hb hm) fun σ H Q h=>by
    obtain ⟨ι,ρ,C,x,C',sr,e,q⟩:=tM_test h
    exact tM_op hg ⟨ι,ρ,C,x,C',sr,e,q⟩
theorem ZbR (ha:QEM X a fa)(he:∀whole,isTrue a X.env whole=(do let v ←whole;UU a.pos;Ur [v] (truthy v)):=by intro _;rfl):QTMt X a (mTru fa):=by
 subst_eqs
 exact PT.imp (pt_truth ha he) fun σ H Q h=>by
    sleep 6
    obtain ⟨e2,rfl⟩:=ZaN e
    refine ⟨ι,ρ,C,x,C',sr,e1,fun v H1 f1 c1 r1=>⟨z,?_,q H1 f1 c1⟩⟩
    cases hd:deref C' x with
    | none=>rw[hd] at e2;cases e2
    | some p=>rw[hd] at e2;exact (r1.lies c1 hd).tru e2
theorem ZbS {f:6e3}(h:QTMt X a f):QTMt X (.UnaryOp .Not a pos) (mNotT f):=by
 subst_eqs
 exact PT.imp (pt_not h) fun σ H Q h=>by
   sleep 6
   cases e
   exact ⟨ι,ρ,C,x,_,sr,e1,fun H1 f1 c1=>q H1 f1 c1⟩
theorem Zca {f:6e3}(h:QTMt X a f):QWM X (.BoolOp .And [a] pos) f:=by
 subst_eqs
 exact pw_and1 h
theorem q_wm_or1 {f:6e3}(h:QTMt X a f):QWM X (.BoolOp .Or [a] pos) f:=by
 subst_eqs
 exact pw_or1 h
theorem ZcF {rest:5e9}{f g:6e3}(h:QTMt X a f)(k:QWM X (.BoolOp .And (b::rest) pos) g):QWM X (.BoolOp .And (a::b::rest) pos) (mAndT f g):=by
 subst_eqs
 exact PW.imp (pw_and h k) fun σ H Q h=>by
   sleep 6
   refine ⟨ι,ρ,C,x,C1,sr,e1,fun H1 f1 c1=>?_⟩
   cases x with
   | true=>rw[if_pos rfl] at e ⊢;exact ⟨ι,ρ,C1,z,C',sr.step f1 c1,e,fun H2 f2 c2=>q H2 (f1.trans f2) c2⟩
   | false=>rw[if_neg Yu] at e ⊢;cases e;exact q H1 f1 c1
theorem q_wm_or {rest:5e9}{f g:6e3}(h:QTMt X a f)(k:QWM X (.BoolOp .Or (b::rest) pos) g):QWM X (.BoolOp .Or (a::b::rest) pos) (mOrT f g):=by
 subst_eqs
 exact PW.imp (pw_or h k) fun σ H Q h=>by
   sleep 6
   refine ⟨ι,ρ,C,x,C1,sr,e1,fun H1 f1 c1=>?_⟩
   cases x with
   | true=>rw[if_pos rfl] at e ⊢;cases e;exact q H1 f1 c1
   | false=>rw[if_neg Yu] at e ⊢;exact ⟨ι,ρ,C1,z,C',sr.step f1 c1,e,fun H2 f2 c2=>q H2 (f1.trans f2) c2⟩
theorem q_em_if {t:6e3}{f g:4e3}(hc:QTMt X c t)(h:QEM X a f)(k:QEM X b g):QEM X (.IfExp c a b pos) (mIf t f g):=by
 subst_eqs
 exact PE.imp (pe_ifExp hc h k) fun σ H Q h=>by
   sleep 6
   refine ⟨ι,ρ,C,x,C1,sr,e1,fun H1 f1 c1=>?_⟩
   cases x with
   | true=>rw[if_pos rfl] at e ⊢;exact ⟨ι,ρ,C1,z,C',sr.step f1 c1,e,fun v H2 f2 c2 r2=>q v H2 (f1.trans f2) c2 r2⟩
   | false=>rw[if_neg Yu] at e ⊢;exact ⟨ι,ρ,C1,z,C',sr.step f1 c1,e,fun v H2 f2 c2 r2=>q v H2 (f1.trans f2) c2 r2⟩
theorem Zad:QAM X [] aNil:=by
 subst_eqs;apply @am_nil<;>assumption
theorem Zaa {f:4e3}{g:2e9}(h:QEM X e f)(k:QAM X es g)(hs:1e8:=by rfl):QAM X 6e8 (aCons f g):=by
 subst_eqs;apply @am_cons<;>assumption
end
section
variable {X:Cx}{a b e c tg:Expr}{es:5e9}{st:Stmt}{rest sts sts':List Stmt}{f g:11e6}{pos p pos':Pos}{x:Str}
theorem Zaw:QBM X [] mSkip:=by
 subst_eqs
 exact PSs.imp pss_nil fun D σ H h_=>by obtain ⟨ι,ρ,C,fl,C',sr,e,d⟩:=h_;cases e;exact d.nx0 sr
theorem Zai (h:QSM X st f):QBM X [st] f:=by
 subst_eqs
 exact pss_one h
theorem Zae (h:QSM X st f)(k:QBM X rest g):QBM X (st::rest) (mSeq f g):=by
 subst_eqs
 exact PSs.imp (pss_cons h k) fun D σ H h_=>by
   sleep 2
   obtain ⟨fl1,C1,e1,e⟩:=Zag e
   refine ⟨ι,ρ,C,fl1,C1,sr,e1,?_⟩
   cases fl1 with
   | nx ρ1=>exact fun ι2 σ' H' x sr'=>⟨ι++ι2,ρ1,C1,fl,C',sr',e,d.tr sr'.cr x⟩
   | rt r=>cases e;exact d
   | bk ρ1=>cases e;exact d
   | ct ρ1=>cases e;exact d
   | rf ps=>cases e;exact d
   | rq ps=>cases e;exact d
theorem Zaz {t:6e3}(hc:QTMt X c t)(h:QBM X sts f)(k:QBM X sts' g):QSM X (.If c sts sts' pos) (mIfS t f g):=by
 subst_eqs
 exact PS.imp (ps_if hc h k) fun D σ H h_=>by
   sleep 2
   obtain ⟨z,C1,e1,e⟩:=Zag e
   refine ⟨ι,ρ,C,z,C1,sr,e1,fun H1 f1 c1=>?_⟩
   cases z with
   | true=>rw[if_pos rfl] at e ⊢;exact ⟨ι,ρ,C1,fl,C',sr.step f1 c1,e,d.fr c1 f1⟩
   | false=>rw[if_neg Yu] at e ⊢;exact ⟨ι,ρ,C1,fl,C',sr.step f1 c1,e,d.fr c1 f1⟩
theorem Zar {f:4e3}(h:QEM X e f):QSM X (.Return (some e) pos) (mRet f):=by
 subst_eqs
 exact PS.imp (ps_ret h) fun D σ H h_=>by
   sleep 2
   obtain ⟨z,C1,e1,e⟩:=Zag e
   cases e
   exact ⟨ι,ρ,C,z,_,sr,e1,fun v H1 f1 c1 r1=>d [] v H1 (Ex.fr f1) (by rw[YJ];exact c1) (by rw[YJ];exact r1)⟩
theorem ZbF {f:6e0}(h:QFM X e f):QSM X (.Return (some e) pos) (mRetF f):=by
 subst_eqs
 exact PS.imp (ps_ret h) fun D σ H h_=>by
   sleep 2
   obtain ⟨ps,C1,e1,g1⟩:=Zag e
   cases g1
   exact ⟨ι,ρ,C,ps,_,sr,e1,fun q vs H1 f1 c1 hq rs=>d [] q vs H1 (Ex.fr f1) (by rw[YJ];exact c1) hq (by rw[YJ];exact rs)⟩
theorem q_sm_retQ {x1}{pt:Pos}{fs:2e9}(h:QAM X es fs):QSM X (.Return (some (.Tuple es x1 pt)) pos) (mRetQ fs):=by
 subst_eqs
 exact PS.imp (ps_ret (pe_tup h)) fun D σ H h_=>by
   sleep 2
   obtain ⟨xs,C1,e1,g1⟩:=Zag e
   by_cases hl:xs.length<=1000
   case neg=>rw[if_neg hl] at g1;cases g1
   rw[if_pos hl] at g1
   cases g1
   exact ⟨ι,ρ,C,xs,_,sr,e1,fun vs H1 f1 c1 r1=>⟨by rw[←RepSs.length r1];exact YR hl (by rw[YU];decide),fun q hq=>d [] q vs H1 (Ex.fr f1) (by rw[YJ];exact c1) hq (by rw[YJ];exact r1)⟩⟩
theorem ZbG {f:4e3}(h:QEM X e f)(hs:WJ e none pos.line X.env=pure false:=by rfl):QSM X (.Expr e pos) (mDrop f):=by
 subst_eqs
 exact PS.imp (ps_expr h hs) fun D σ H h_=>by
   sleep 2
   obtain ⟨z,C1,e1,e⟩:=Zag e
   cases e
   exact ⟨ι,ρ,C,z,_,sr,e1,fun v H1 f1 c1 r1=>Done.nx0 (sr.step f1 c1) (d.fr c1 f1)⟩
theorem Zaj {i:Nat}{f:4e3}(hN:X.N.Nodup)(hi:X.N[i]? = some x)(hx:Loc X.env.scope x)(h:QEM X e f)(hs:WJ e (some (.Name x pos')) pos.line X.env=pure false:=by rfl)
  (hf:7e0:=by first | exact .inl rfl | exact .inr rfl | assumption):QSM X (.Assign [.Name x pos'] e pos) (mSet i f):=by
 subst_eqs
 exact PS.imp (ps_set hN hi hx h hs hf) fun D σ H h_=>by
   sleep 2
   obtain ⟨z,C1,e1,e⟩:=Zag e
   cases e
   exact ⟨ι,ρ,C,z,_,sr,e1,fun v H1 f1 c1 r1=>Done.nx0 ((sr.step f1 c1).set i r1) (d.fr c1 f1)⟩
theorem Za8 {i:Nat}{f:6e0}(hN:X.N.Nodup)(hi:X.N[i]? = some x)(hx:Loc X.env.scope x)(h:QFM X e f)(hs:WJ e (some (.Name x pos')) pos.line X.env=pure false:=by rfl)
  (hf:7e0:=by first | exact .inl rfl | exact .inr rfl | assumption):QSM X (.Assign [.Name x pos'] e pos) (mNew i f):=by
 subst_eqs
 exact PS.imp (ps_set hN hi hx h hs hf) fun D σ H h_=>by
   sleep 2
   obtain ⟨ps,C1,e1,e⟩:=Zag e
   cases e
   exact ⟨ι,ρ,C,ps,C1,sr,e1,fun q vs H' f1 c1 hq rs=>new_cell sr d f1 c1 hq rs⟩
theorem Zao {x1}{fs:2e9}(h:QAM X es fs):QEM X (.Tuple es x1 pos) (mTup fs):=by
 subst_eqs
 exact PE.imp (pe_tup h) fun σ H Q h_=>by
   sleep 11
   sleep 9
   obtain ⟨e2,rfl⟩:=ZaN e
   refine ⟨ι,ρ,C,xs,_,sr,e1,fun vs H1 f1 c1 r1=>?_⟩
   by_cases hl:xs.length<=1000
   ·rw[if_pos hl] at e2
    cases hp:plain xs with
    | none=>rw[hp] at e2;cases e2
    | some ps=>
     rw[hp] at e2;cases e2
     obtain ⟨rs,hv⟩:=ZbV hp r1
     refine ⟨by rw[hv];exact k1000 hl,fun q' hq=>q _ _ (f1.trans (Fr.new hq)) (c1.new hq) ?_⟩
     show Rep _ _ _ 9e2 _
     unfold Rep
     exact ⟨q',vs,rfl,ZaQ,Reps.stay (fun b o e=>by rw[Zax (Zas e hq)];exact e) ps vs rs⟩
   ·rw[if_neg hl] at e2;cases e2
theorem Zat {fs:2e9}(h:QAM X es fs):QFM X (.List es pos) (mLst fs):=by
 subst_eqs
 exact PE.imp (pe_lst h) fun σ H Q h_=>by
   sleep 11
   sleep 9
   obtain ⟨e2,rfl⟩:=ZaN e
   refine ⟨ι,ρ,C,xs,_,sr,e1,fun vs H1 f1 c1 r1=>?_⟩
   by_cases hl:xs.length<=1000
   ·rw[if_pos hl] at e2
    obtain ⟨rs,hv⟩:=ZbV e2 r1
    exact ⟨by rw[hv];exact k1000 hl,fun q' hq=>q q' vs H1 f1 c1 hq rs⟩
   ·rw[if_neg hl] at e2;cases e2
theorem Zau {f:6e0}(h:QFM X e f):QEM X e (mVal f):=by
 subst_eqs
 exact PE.imp h fun σ H Q h_=>by
   sleep 11
   obtain ⟨ps,C1,e1,e⟩:=Zag e
   cases e
   exact ⟨ι,ρ,C,ps,_,sr,e1,fun q' vs H1 f1 c1 hq rs=>q _ _ (f1.trans (Fr.new hq)) (c1.new hq) (Zc3 c1 hq rs)⟩
theorem Zak {i:Nat}(hN:X.N.Nodup)(hi:X.N[i]? = some x)(hx:Loc X.env.scope x)(hf:7e0:=by first | exact .inl rfl | exact .inr rfl | assumption):QGM X (.Name x pos) (hName i):=by
 subst_eqs
 exact PG.imp (pg_name hN hi hx hf) fun v σ H Q h_=>by obtain ⟨ι,ρ,C,p,ρ',sr,r,e,q⟩:=h_;cases e;exact q _ (sr.set i r)
theorem Zbq:QGMs X [] hNil:=by
 subst_eqs
 exact PGs.imp pgs_nil fun v σ H Q h_=>by
   obtain ⟨ι,ρ,C,p,ρ',sr,r,e,q⟩:=h_
   cases p with
   | nil=>cases e;exact ⟨r.inv0,q σ sr⟩
   | cons _ _=>cases e
theorem Zav {g:4e5}{gs:List PV->PSt->Option PSt}(h:QGM X e g)(k:QGMs X es gs)(hs:(Wn 6e8 X.env).map (·.2)=assign e X.env::(Wn es X.env).map (·.2):=by rfl):QGMs X 6e8 (hCons g gs):=by
 subst_eqs
 exact PGs.imp (pgs_cons h k hs) fun v σ H Q h_=>by
    obtain ⟨ι,ρ,C,p,ρ',sr,r,e,q⟩:=h_
    cases p with
    | nil=>cases e
    | cons p ps=>
     obtain ⟨w,ws,rfl,r1,r2⟩:=r.inv
     replace e:(g p ρ).bind (fun ρ'=>gs ps ρ')=some ρ':=e
     cases h1:g p ρ with
     | none=>rw[h1] at e;cases e
     | some ρ1=>
      rw[h1] at e
      exact ⟨w,ws,rfl,ι,ρ,C,p,ρ1,sr,r1,h1,fun σ1 sr1=>⟨ι,ρ1,C,ps,ρ',sr1,r2,e,q⟩⟩
theorem ZbT {gs:List PV->PSt->Option PSt}{k n:Nat}(hc:9e9)(h:QGMs X es gs)(hn:(Wn es X.env).length=n:=by rfl)(hst:(Wn es X.env).findIdx? (·.1)=none:=by rfl):QGM X (.Tuple es k pos) (hTup gs n):=by
 subst_eqs
 exact PG.imp (pg_tup hc h hn hst) fun v σ H Q h_=>by
    obtain ⟨ι,ρ,C,p,ρ',sr,r,e,q⟩:=h_
    cases p with
    | tup ps=>
     unfold Rep at r
     obtain ⟨a,vs,rfl,sq,rs⟩:=r
     replace e:(if ps.length=n then gs ps ρ else none)=some ρ':=e
     by_cases hl:ps.length=n
     ·rw[if_pos hl] at e
      exact ⟨a,vs,rfl,sq.sq,by rw[←rs.length];exact hl,ι,ρ,C,ps,ρ',sr,rs,e,q⟩
     ·rw[if_neg hl] at e;cases e
    | _=>cases e
theorem ZcG {f:4e3}{g:4e5}(h:QEM X e f)(k:QGM X tg g)(hs:swapsWithSole [tg] e pos.line X.env=pure false:=by rfl)(hw:swappedStores [tg] e X.env=pure none:=by rfl)
  (h1:(Wn [tg] X.env).map (·.2)=[assign tg X.env]:=by rfl):QSM X (.Assign [tg] e pos) (mAsg f g):=by
 subst_eqs
 exact PS.imp (ps_asg h k hs hw h1) fun D σ H h_=>by
   sleep 2
   obtain ⟨z,C1,e1,e⟩:=Zag e
   refine ⟨ι,ρ,C,z,C1,sr,e1,fun v H1 f1 c1 r1=>?_⟩
   cases z with
   | c k=>cases e
   | v p=>
    have e:(g p ρ).map (fun ρ'=>(PF.nx ρ',C1))=some (fl,C'):=e
    cases hg:g p ρ with
    | none=>rw[hg] at e;cases e
    | some ρ1=>
     rw[hg] at e
     cases e
     exact ⟨ι,ρ,_,p,ρ1,sr.step f1 c1,r1,hg,fun σ' sr'=>Done.nx0 sr' (d.fr c1 f1)⟩
end
section
variable {X:Cx}{e tg iter elt:Expr}{es:5e9}{body:List Stmt}{f:11e6}{pos p:Pos}{x:Str}
theorem Za3 {it:6e0}{g:4e5}(hp:PassesOwn 2e4 X.A X.env X.xe)(hc:9e9)(hi:QIM X tg iter it)(hg:QGM X tg g)(hb:QBM X body f)
  (hs:∀x,Y4 iter X.env x=pure x:=by intro _;rfl):QSM X (.For tg iter body [] pos) (mFor it g f):=by
 subst_eqs
 exact PS.imp (ps_for hp hc hi hg hb hs) fun D σ H h_=>by
   sleep 2
   sleep 9
   refine ⟨ι,ρ,C,xs,C1,sr,e1,fun J H1 f1 c1 it1=>?_⟩
   have d1:=d.fr c1 f1
   have sr1:=sr.step f1 c1
   refine ⟨fun i m σ2 H2=>∃ι2 ρ2 C2,m=xs.length - i/\i<=xs.length/\Ex ι ι2 H1 H2/\SR X.K 9e1 H2 ρ2 σ2 C2/\loop g f (xs.drop i) ρ2 C2=some (fl,C'),⟨xs.length,[],ρ,C1,rfl,YV _,Ex.fr .refl,by rw[YJ];exact sr1,e⟩,?_⟩
   rintro i m σ2 H2 ⟨ι2,ρ2,C2,rfl,hi2,x2,sr2,e2⟩
   rcases YH i xs.length with hlt | hge
   ·right
    refine ⟨it1.go ι2 H2 C2 x2 sr2.cr i hlt,fun σ' H'=>∃ι2 ρ2 C2,Ex ι ι2 H1 H'/\SR X.K 9e1 H' ρ2 σ' C2/\loop g f (xs.drop (i + 1)) ρ2 C2=some (fl,C'),?_,?_⟩
    ·rintro σ' H' ⟨ι3,ρ3,C3,x3,sr3,e3⟩
     exact ⟨xs.length - (i + 1),by lia,ι3,ρ3,C3,rfl,hlt,x3,sr3,e3⟩
    ·intro v H3 y
     obtain ⟨sm,q,hq,rq⟩:=it1.yld ι2 H2 C2 x2 sr2.cr i v H3 hlt y
     have hd:xs.drop i=q::xs.drop (i + 1):=by
      rw[XS hlt]
      rw[Yd hlt] at hq
      rw[YN hq]
     rw[hd] at e2
     unfold loop at e2
     cases hg1:g q ρ2 with
     | none=>rw[hg1] at e2;cases e2
     | some ρ3=>
      rw[hg1] at e2
      obtain ⟨fl1,C3,e3,e4⟩:=Zag e2
      have fr3:Fr 9e1 H2 H3:=fun b o _ z=>sm b o z
      have cr3:CR X.K 9e1 H3 C2:=sr2.cr.same sm
      have x3:Ex ι ι2 H1 H3:=⟨fun b o n z=>sm b o (x2.1 b o n z),x2.2⟩
      refine ⟨ι++ι2,ρ2,C2,q,ρ3,sr2.step fr3 cr3,rq,hg1,fun σ4 sr4=>⟨ι++ι2,ρ3,C2,fl1,C3,sr4,e3,?_⟩⟩
      cases fl1 with
      | nx ρ5=>exact fun ι5 σ5 H5 x5 sr5=>⟨ι2++ι5,ρ5,C3,x3.trans cr3 x5,by rw[←YD];exact sr5,e4⟩
      | ct ρ5=>exact fun ι5 σ5 H5 x5 sr5=>⟨ι2++ι5,ρ5,C3,x3.trans cr3 x5,by rw[←YD];exact sr5,e4⟩
      | bk ρ5=>cases e4;exact fun ι5 σ5 H5 x5 sr5=>d1 (ι2++ι5) σ5 H5 (x3.trans cr3 x5) (by rw[←YD];exact sr5)
      | rf ps=>cases e4;exact fun ι5 q5 vs5 H5 x5 c5 h5 r5=>d1 (ι2++ι5) q5 vs5 H5 (x3.trans cr3 x5) (by rw[←YD];exact c5) h5 (by rw[←YD];exact r5)
      | rq ps=>cases e4;exact fun ι5 q5 vs5 H5 x5 c5 h5 r5=>d1 (ι2++ι5) q5 vs5 H5 (x3.trans cr3 x5) (by rw[←YD];exact c5) h5 (by rw[←YD];exact r5)
      | rt r=>cases e4;exact fun ι5 v5 H5 x5 c5 r5=>d1 (ι2++ι5) v5 H5 (x3.trans cr3 x5) (by rw[←YD];exact c5) (by rw[←YD];exact r5)
   ·left
    have hi3:i=xs.length:=by lia
    subst hi3
    rw[W6] at e2
    cases e2
    exact ⟨it1.stop ι2 H2 _ x2 sr2.cr,d1 ι2 σ2 H2 x2 sr2⟩
section
variable {ifs:5e9}{scope:Scope}{vs fs:5e6}{fr:11e8}{it:6e0}{g:4e5}{tt:6e3}{te:4e3}
theorem Zbe:QTsM X [] tOk:=by
 subst_eqs
 exact fun pins s σ H Q I h_=>by
   obtain ⟨ι,ρ,C,b,C',sr,e,q⟩:=h_
   cases e
   exact pts_nil pins s σ H Q I (q H .refl sr.cr)
theorem Zbv {c:Expr}{t:6e3}(h:QTMt X c t):QTsM X [c] t:=by
 subst_eqs
 exact pts_one h
theorem Za6 (S:9e6)(hc:9e9)(hi:QIM X tg iter it)
  (bG:∀C s₀ H₀ ex pn,QGM 1e3 tg g) (bT:∀C s₀ H₀ ex pn,QTsM 1e3 ifs tt) (bE:∀C s₀ H₀ ex pn,QEM 1e3 elt te)
  (hs:∀x,Y4 iter X.env x=pure x:=by intro _;rfl):QFM X 10e6 (mComp it vs fr g tt te):=by
 subst_eqs
 exact PE.imp (pe_comp (g:=tMG X.K g) (tt:=tMB X.K tt) (te:=tM X.K te) S hc hi bG bT bE hs) fun σ H Q ⟨ι,ρ,C,res,C',sr,e,q⟩=>comp_pure sr e q
theorem ZbH {i:Nat}{px spos:Pos}(hN:X.N.Nodup)(hx:X.N[i]? = some x)(hl:X.env.scope.names.lookup x=some .local)(S:9e6)(hc:9e9)(hi:QIM X tg iter it)
  (bG:∀C s₀ H₀ ex pn,QGM 1e3 tg g) (bT:∀C s₀ H₀ ex pn,QTsM 1e3 ifs tt) (bE:∀C s₀ H₀ ex pn,QEM 1e3 elt te)
  (hsw:WJ 10e6 (some (.Name x px)) spos.line X.env=pure true:=by rfl) (hs:∀x,Y4 iter X.env x=pure x:=by intro _;rfl):
  QSM X (.Assign [.Name x px] 10e6 spos) (mSet i (mVal (mComp it vs fr g tt te))):=by
 subst_eqs
 exact PS.imp (ps_comp (g:=tMG X.K g) (tt:=tMB X.K tt) (te:=tM X.K te) hN hx hl S hc hi bG bT bE hsw hs) fun D σ H h_=>by
   sleep 2
   obtain ⟨z,C1,e1,e⟩:=Zag e
   cases e
   obtain ⟨res,C2,e2,e3⟩:=Zag e1
   cases e3
   exact comp_pure sr e2 fun q vs H' f1 c1 hq rs=>Done.nx0 (((sr.step f1 c1).step (Fr.new hq) (c1.new hq)).set i (s:=.v (.lst _)) (Zc3 c1 hq rs)) (d.fr (c1.new hq) (f1.trans (Fr.new hq)))
end
end
section
variable {P:YC}{w:World}{K:W.Frag}{mg:3e1}{base:Heap}
theorem q_fn_mk {x qual:Str}{st:Stmt}{f:Addr}{fd:XZ}{N ps:5e6}{k:Nat}{body:11e6}(F:Fun K x qual st f fd)(S:FnScope N ps 15e2)
  (hbody:∀(cdv:Value) (A:Around) (outer:List Env) (s:Shared) (H:Hp) (E:XK),Room k (A.deeper (envOfC qual 15e2 s.heap.objs.size f cdv))->
   QBM (cxOf CX0 P w K mg base N qual (defScope st) f cdv A outer s H E).nox (defBody st) body):FnOk P w K mg base CX0 (k + 1) f fd ps (liftSp K (mDef ps.length (N.length - ps.length) body)):=by
 subst_eqs;apply @fn_mk<;>assumption
end
end Pu
namespace Pu
open PySem PySem.Spec L2
open PyProof.Rows hiding St Fr
section
variable {X:Cx}
variable {a b e c:Expr}{es:5e9}{fa fb fc:4e3}{pos p:Pos}{x:Str}
theorem Zam (ha:QEM X a fa)(hb:QEM X b fb):QEM X (.BinOp a .Add b pos) (mOp 4e2 fa fb):=by
 subst_eqs
 exact em_op op_addAll add_ok.r ha hb
theorem Zcb (ha:QEM X a fa)(hb:QEM X b fb):QEM X (.BinOp a .Sub b pos) (mOp (g2 subP) fa fb):=by
 subst_eqs
 exact em_op op_sub (int_ok0 fun _ _ _ _=>repI).r ha hb
theorem ZaX (ha:QEM X a fa)(hb:QEM X b fb):QEM X (.BinOp a .Mult b pos) (mOp (g2 mulP) fa fb):=by
 subst_eqs
 exact em_op op_mul (int_ok fun i j h=>by
   rw[UE] at h
   rcases h with h | h
   ·exact .inl (of_decide_eq_true h)
   ·exact .inr (of_decide_eq_true h)).r ha hb
theorem ZaM (ha:QEM X a fa)(hb:QEM X b fb):QEM X (.BinOp a .Mod b pos) (mOp (g2 modP) fa fb):=by
 subst_eqs
 exact em_op op_mod (int_ok fun i j h=>of_decide_eq_true h).r ha hb
theorem q_em_fdiv (ha:QEM X a fa)(hb:QEM X b fb):QEM X (.BinOp a .FloorDiv b pos) (mOp (g2 fdivP) fa fb):=by
 subst_eqs
 exact em_op op_fdiv (int_ok fun i j h=>(of_decide_eq_true h:0 < j/\j < 1073741824)).r ha hb
theorem q_em_pow (ha:QEM X a fa)(hb:QEM X b fb):QEM X (.BinOp a .Pow b pos) (mOp (g2 powP) fa fb):=by
 subst_eqs
 exact em_op op_pow (int_ok fun i j h=>by
   have h:=of_decide_eq_true h
   exact ⟨h.1,Int.le_trans h.2.1 (by decide),h.2.2⟩).r ha hb
theorem q_em_neg (ha:QEM X a fa):QEM X (.UnaryOp .USub a pos) (mNeg fa):=by
 subst_eqs
 refine PE.imp (pe_un un_neg ha) fun σ H Q h_=>?_
 obtain ⟨ι,ρ,C,z,C',sr,e,k⟩:=h_
 obtain ⟨x,C1,e1,e⟩:=Zag e
 obtain ⟨e2,rfl⟩:=ZaN e
 refine ⟨ι,ρ,C,x,_,sr,e1,fun v H1 f1 c1 r1=>?_⟩
 unfold negP at e2
 split at e2
 ·rename_i i hd
  cases e2
  have l:=r1.lies c1 hd
  cases l
  exact ⟨i,rfl,k _ H1 f1 c1 (show Rep _ _ _ _ _ from repI)⟩
 ·cases e2
end
section
variable {X:Cx}{a b e c o:Expr}{es:5e9}{fa fb fc fo:4e3}{fs:2e9}{pos p apos cpos:Pos}{x:Str}
theorem q_em_isi (hgl:Gl X "isinstance")(hm:X.mg "isinstance"=none)(hv:Xb "isinstance"=some (.builtin "isinstance"))(ha:QAM X 6e8 fs)
  (he:1e8:=by rfl) (hpl:2e8:=by rfl):QEM X (.Call (.Name "isinstance" p) 6e8 [] pos) (mCB (g1 isiH) fs):=by
 subst_eqs
 exact ZcL call_isi isi_ok.c hgl hm hv ha 1e1 1e1 he hpl
theorem ZaI (hgl:Gl X "len")(hm:X.mg "len"=none)(ha:QAM X 6e8 fs)
  (he:1e8:=by rfl) (hpl:2e8:=by rfl):QEM X (.Call (.Name "len" p) 6e8 [] pos) (mCB 9e3 fs):=by
 subst_eqs
 exact ZcL call_len len_ok.c hgl hm PySem.boot_len ha 1e1 1e1 he hpl
theorem q_em_max (hc:9e9)(hgl:Gl X "max")(hm:X.mg "max"=none)(hv:Xb "max"=some (.builtin "max"))(ha:QAM X 6e8 fs)
  (he:1e8:=by rfl) (hpl:2e8:=by rfl):QEM X (.Call (.Name "max" p) 6e8 [] pos) (mCB (g1 maxH) fs):=by
 subst_eqs
 exact ZcL (call_max2 hc) max_ok.c hgl hm hv ha 1e1 1e1 he hpl
theorem q_em_min (hc:9e9)(hgl:Gl X "min")(hm:X.mg "min"=none)(hv:Xb "min"=some (.builtin "min"))(ha:QAM X 6e8 fs)
  (he:1e8:=by rfl) (hpl:2e8:=by rfl):QEM X (.Call (.Name "min" p) 6e8 [] pos) (mCB (g1 minH) fs):=by
 subst_eqs
 exact ZcL (call_min2 hc) min_ok.c hgl hm hv ha 1e1 1e1 he hpl
theorem q_em_intc (hgl:Gl X "int")(hm:X.mg "int"=none)(hv:Xb "int"=some (.type "int"))(ha:QAM X 6e8 fs)
  (he:1e8:=by rfl) (hpl:2e8:=by rfl):QEM X (.Call (.Name "int" p) 6e8 [] pos) (mCB (g1 intH) fs):=by
 subst_eqs
 exact em_callTy call_int1 intc_ok.c hgl hm hv ha 1e1 1e1 he hpl
theorem Zbr (hgl:Gl X "tuple")(hm:X.mg "tuple"=none)(hv:Xb "tuple"=some (.type "tuple"))(ha:QAM X 6e8 fs)
  (he:1e8:=by rfl) (hpl:2e8:=by rfl):QEM X (.Call (.Name "tuple" p) 6e8 [] pos) (mCB (g1 tupH) fs):=by
 subst_eqs
 exact em_callTy call_tuple_of tup_ok.c hgl hm hv ha 1e1 1e1 he hpl
theorem Zdw (hgl:Gl X "list")(hm:X.mg "list"=none)(hv:Xb "list"=some (.type "list"))(ha:QAM X 6e8 fs)
  (he:1e8:=by rfl) (hpl:2e8:=by rfl):QFM X (.Call (.Name "list" p) 6e8 [] pos) (mList fs):=by
 subst_eqs
 exact PE.imp (pe_callTy call_list_of hgl hm hv ha 1e1 1e1 he hpl) fun σ H Q h_=>by
    sleep 11
    sleep 9
    obtain ⟨e2,rfl⟩:=ZaN e
    refine ⟨ι,ρ,C,xs,_,sr,e1,fun vs H1 f1 c1 r1=>?_⟩
    unfold listH at e2
    split at e2
    ·rename_i x
     obtain ⟨v,w,rfl,r1,hw⟩:=r1
     cases (show w=[] from hw)
     split at e2
     ·rename_i hd
      cases e2
      obtain ⟨a,ws,rfl,h1,r2⟩:=liesL (r1.lies c1 hd)
      exact ⟨a,ws,rfl,.inl h1,fun l hl=>q l ws H1 f1 c1 hl r2⟩
     ·rename_i hd
      cases e2
      obtain ⟨a,ws,rfl,h1,r2⟩:=liesT (r1.lies c1 hd)
      exact ⟨a,ws,rfl,.inr h1.sq,fun l hl=>q l ws H1 f1 c1 hl r2⟩
     ·cases e2
    ·cases e2
end
section
variable {X:Cx}{a b e c o i:Expr}{es:5e9}{fa fb fc fo fi fv:4e3}{fs:2e9}{pos p apos cpos:Pos}{x:Str}
theorem Zbc (ho:QEM X o fo)(ha:QAM X 6e8 fs)(hbase:attributeBase o "append" X.env (eval o X.env)=eval o X.env:=by rfl)
  (hfew:((backTo cpos (Yp 6e8 X.env)).all (fun x=>!x.1)&&(backToKw cpos (keywordEach [] X.env)).all (fun x=>x.1.isSome)
   &&decide ((e::es).length + ([]:List Keyword).length + (if ([]:List Keyword).isEmpty then 0 else 1) < 30))=true:=by rfl)
  (hline:(apos.endLine==cpos.line)=true:=by rfl) (hs:1e8:=by rfl) (hplain:(backTo cpos (Yp es X.env)).any (·.1)=false:=by rfl):
  QEM X (.Call (.Attribute o "append" apos) 6e8 [] cpos) (mApp fo fs):=by
 subst_eqs
 exact PE.imp (pe_bm PySem.F.plainAttrs_list PySem.F.slot_list_append PySem.F.type_list_append mt_append ho ha hbase hfew hline hs hplain) fun σ H Q h_=>by
    sleep 11
    obtain ⟨x,C1,e1,g1⟩:=Zag e
    obtain ⟨u,C2,e2,g2⟩:=Zag g1
    obtain ⟨ys,C3,e3,g3⟩:=Zag g2
    obtain ⟨hC,k,ps0,hx,hc0⟩:=isLst_some e2
    obtain ⟨k',p',ps,hx',hy,hc,hl,hr,hC'⟩:=appC_some g3
    clear e g1 g2 g3 e2
    subst hC hx hr hC' hy
    cases hx'
    refine ⟨ι,ρ,C,_,_,sr,e1,fun v H1 f1 c1 r1=>?_⟩
    obtain ⟨a,rfl,hk⟩:=r1
    obtain ⟨vs0,h0,_⟩:=cell_lst c1 hk hc0
    refine ⟨.inl ⟨rfl,_,.of h0⟩,ι,ρ,_,_,C3,sr.step f1 c1,e3,fun ws H2 f2 c2 r2=>?_⟩
    obtain ⟨w,wr,rfl,rw1,hw⟩:=r2
    cases (show wr=[] from hw)
    obtain ⟨vs,h1,rv⟩:=cell_lst c2 hk hc
    obtain ⟨c4,f4⟩:=cr_set c2 hk (rv.append (.cons rw1 .nil))
    exact ⟨a,vs,w,rfl,rfl,h1,by rw[←rv.length];exact Yk hl (k100000 (Yj _)),q _ _ (f1.trans (f2.trans f4)) c4 (show Rep _ _ _ _ _ from repN)⟩
theorem Zdv {spos:Pos}(hv:QEM X e fv)(ho:QEM X o fo)(hi:QEM X i fi)
  (ha:∀v,assign (.Subscript o i spos) X.env v=(do
   let ov ←Ur [v] (eval o X.env)
   let iv ←Ur [v,ov] (eval i X.env)
   UU spos
   Ur [v,ov,iv] (setItem ov iv v)
   release [v,ov,iv] []):=by intro _;rfl)
  (hs:swapsWithSole [.Subscript o i spos] e pos.line X.env=pure false:=by rfl) (hw:swappedStores [.Subscript o i spos] e X.env=pure none:=by rfl)
  (h1:(Wn [.Subscript o i spos] X.env).map (·.2)=[assign (.Subscript o i spos) X.env]:=by rfl):QSM X (.Assign [.Subscript o i spos] e pos) (mSetIx fv fo fi):=by
 subst_eqs
 exact PS.imp (ps_asg hv (pg_sub ho hi set_list ha) hs hw h1) fun D σ H h_=>by
    sleep 2
    obtain ⟨v,C1,e1,g1⟩:=Zag e
    obtain ⟨o,C2,e2,g2⟩:=Zag g1
    obtain ⟨i,C3,e3,g3⟩:=Zag g2
    obtain ⟨k,n,p',ps,j,ho,hi,hv,hc,hj,hf,hC⟩:=setC_some g3
    clear e g1 g2 g3
    subst ho hi hv hf hC
    refine ⟨ι,ρ,C,_,C1,sr,e1,fun x H1 f1 c1 r1=>⟨ι,ρ,C1,_,C2,sr.step f1 c1,e2,fun y H2 f2 c2 r2=>⟨ι,ρ,C2,_,C3,(sr.step f1 c1).step f2 c2,e3,fun w H3 f3 c3 r3=>?_⟩⟩⟩
    obtain ⟨a,rfl,hk⟩:=r2
    have r3:w=.int n:=by unfold RepS Rep at r3;exact r3
    obtain ⟨vs,h1,rv⟩:=cell_lst c3 hk hc
    have r1':Rep X.K ι H3 p' x:=Rep.mono c2 f3 _ _ (Rep.mono c1 f2 _ _ r1)
    obtain ⟨c4,f4⟩:=cr_set c3 hk (rv.set j r1')
    refine ⟨a,vs,n,j,rfl,r3,h1,by rw[←rv.length];exact hj,?_⟩
    exact Done.nx0 ((((sr.step f1 c1).step f2 c2).step f3 c3).step f4 c4) (d.fr c4 (f1.trans (f2.trans (f3.trans f4))))
variable {tg l:Expr}
theorem ZaT (hl:QEM X l fa):QIM X tg l (mItems fa):=by
 subst_eqs
 intro pins s σ H R I h
 obtain ⟨ι,ρ,C,xs,C',sr,e,q⟩:=h
 obtain ⟨x,C1,e1,e⟩:=Zag e
 obtain ⟨e2,rfl⟩:=ZaN e
 refine thn (hl pins s σ H (fun v H1=>Fr ι H H1/\CR X.K ι H1 C'/\RepS X.K ι H1 x v) I ⟨ι,ρ,C,x,C',sr,e1,fun v H1 f1 c1 r1=>⟨f1,c1,r1⟩⟩) fun v s1 h_=>?_
 obtain ⟨y,H1,I1,r1,f1,c1,rx⟩:=h_
 have fp:∀b∈[s1.heap.objs.size],FpOk X pins H1 b:=fun b hb=>by
  have e:b=s1.heap.objs.size:=by simpa using hb
  subst e
  exact I1.fpOk (Yj _) (I1.hok.fresh (Yj _))
 unfold itemsP at e2
 split at e2
 ·cases e2
  have rx:Rep X.K ι H1 (.lst _) y:=rx
  unfold Rep at rx
  obtain ⟨a,vs,rfl,hq,rv⟩:=rx
  cases r1
  obtain ⟨its,_,p,hz⟩:=I1.list hq.sq
  refine wpAny_pyIter_list p.isList ?_
  exact ⟨s1.heap.objs.size,[s1.heap.objs.size],_,_,H1,rfl,I1.kept (t':=s1.toks) fun b o e=>Yb _ e,turn_list a _,⟨_,Yo _ rfl,rfl,rfl⟩,fp,q _ H1 f1 c1 (iter_list c1 hq rv)⟩
 ·cases e2
  have rx:Rep X.K ι H1 (.tup _) y:=rx
  unfold Rep at rx
  obtain ⟨a,vs,rfl,hq,rv⟩:=rx
  cases r1
  obtain ⟨its,_,p,hz⟩:=I1.tuple hq.sq
  refine wpAny_pyIter_tuple (show s1.heap.IsTuple a its.toArray from p) ?_
  exact ⟨s1.heap.objs.size,[s1.heap.objs.size],_,_,H1,rfl,I1.kept (t':=s1.toks) fun b o e=>Yb _ e,turn_tuple a _,⟨_,Yo _ rfl,rfl,rfl⟩,fp,q _ H1 f1 c1 (iter_tup c1 hq.sq rv)⟩
 ·cases e2
  have rx:Rep X.K ι H1 (.str _) y:=rx
  rename Str=>z
  unfold Rep at rx
  obtain ⟨rfl,hz⟩:=rx
  obtain ⟨t,rfl⟩:=r1
  cases ha:z.cps.all (· < 128)
  ·exact wpAny_pyIter_wide ha ⟨s1.heap.objs.size,[s1.heap.objs.size],_,_,H1,rfl,I1.kept (t':=s1.toks) fun b o e=>Yb _ e,turn_str (t:=t) (.inr rfl),⟨_,Yo _ rfl,rfl,rfl⟩,fp,q _ H1 f1 c1 iter_str⟩
  ·exact wpAny_pyIter_ascii ha ⟨s1.heap.objs.size,[s1.heap.objs.size],_,_,H1,rfl,I1.kept (t':=s1.toks) fun b o e=>Yb _ e,turn_str (t:=t) 15e4,⟨_,Yo _ rfl,rfl,rfl⟩,fp,q _ H1 f1 c1 iter_str⟩
 ·cases e2
theorem ZaU (hg:Gl X "range")(hm:X.mg "range"=none)(ha:QAM X [a] fs)(hs:Yp [a] X.env=[(false,eval a X.env)]:=by rfl):QIM X tg (.Call (.Name "range" p) [a] [] pos) (mRange1 fs):=by
 subst_eqs
 exact PI.imp (pi_range1 hg hm ha hs) fun σ H R h_=>by
    obtain ⟨ι,ρ,C,xs,C',sr,e,q⟩:=h_
    obtain ⟨zs,C1,e1,g1⟩:=Zag e
    obtain ⟨e2,hC⟩:=ZaN g1
    subst hC
    refine ⟨ι,ρ,C,zs,_,sr,e1,fun vs H1 f1 c1 r1=>?_⟩
    obtain ⟨j,rfl,h,rfl⟩:=rng1_some e2
    obtain ⟨v,w,rfl,r1,hw⟩:=r1
    cases (show w=[] from hw)
    have r1:v=.int j:=by unfold RepS Rep at r1;exact r1
    subst r1
    exact ⟨j,rfl,by lia,by lia,q _ H1 f1 c1 Zdz⟩
theorem q_im_range2 (hg:Gl X "range")(hm:X.mg "range"=none)(ha:QAM X [a,b] fs)(hs:Yp [a,b] X.env=[(false,eval a X.env),(false,eval b X.env)]:=by rfl)(hs2:Yp [b] X.env=[(false,eval b X.env)]:=by rfl):QIM X tg (.Call (.Name "range" p) [a,b] [] pos) (mRange2 fs):=by
 subst_eqs
 exact PI.imp (pi_range2 hg hm ha hs hs2) fun σ H R h_=>by
    obtain ⟨ι,ρ,C,xs,C',sr,e,q⟩:=h_
    obtain ⟨zs,C1,e1,g1⟩:=Zag e
    obtain ⟨e2,hC⟩:=ZaN g1
    subst hC
    refine ⟨ι,ρ,C,zs,_,sr,e1,fun vs H1 f1 c1 r1=>?_⟩
    obtain ⟨i,j,rfl,h,rfl⟩:=rng2_some e2
    obtain ⟨v,w,rfl,r1,hw⟩:=r1
    obtain ⟨v2,w2,rfl,r2,hw⟩:=hw
    cases (show w2=[] from hw)
    have r1:v=.int i:=by unfold RepS Rep at r1;exact r1
    have r2:v2=.int j:=by unfold RepS Rep at r2;exact r2
    subst r1 r2
    exact ⟨i,j,rfl,⟨by lia,by lia,by lia,by lia⟩,q _ H1 f1 c1 Zdz⟩
end
section
variable {X:Cx}{a b e c o i:Expr}{es:5e9}{fa fb fc fo fi fv:4e3}{fs:2e9}{pos p apos cpos p2:Pos}{x:Str}{lo hi:Option Expr}{l h:PSt->M (Option Int)}
theorem ZaJ:QOM X none oNo:=by
 subst_eqs
 exact PO.imp po_none fun σ H Q h_=>by obtain ⟨ι,ρ,C,r,C',sr,e,q⟩:=h_;cases e;exact q H .refl sr.cr
theorem ZaF (he:QEM X e fa):QOM X (some e) (oPart fa):=by
 subst_eqs
 exact PO.imp (po_some he) fun σ H Q h_=>by
   obtain ⟨ι,ρ,C,r,C',sr,e,q⟩:=h_
   obtain ⟨z,C1,e1,g1⟩:=Zag e
   obtain ⟨e2,hC⟩:=ZaN g1
   subst hC
   refine ⟨ι,ρ,C,z,_,sr,e1,fun v H1 f1 c1 r1=>?_⟩
   unfold intD at e2
   split at e2
   ·rename_i j hd
    cases e2
    have l:=r1.lies c1 hd
    cases l
    exact ⟨j,rfl,q H1 f1 c1⟩
   ·cases e2
theorem ZaB (he:QEM X e fa)(hl:QOM X lo l)(hh:QOM X hi h):QEM X (.Subscript e (.Slice lo hi none p2) pos) (mSlice fa l h):=by
 subst_eqs
 exact PE.imp (pe_slice (SlR.or sl_list (SlR.or sl_tup sl_tupW)) he hl hh) fun σ H Q h_=>by
    sleep 11
    obtain ⟨x,C1,e1,g1⟩:=Zag e
    obtain ⟨i,C2,e2,g2⟩:=Zag g1
    obtain ⟨j,C3,e3,g3⟩:=Zag g2
    obtain ⟨e4,hC⟩:=ZaN g3
    subst hC
    clear e g1 g2 g3
    refine ⟨ι,ρ,C,x,C1,sr,e1,fun v H1 f1 c1 r1=>⟨ι,ρ,C1,i,C2,sr.step f1 c1,e2,fun H2 f2 c2=>⟨ι,ρ,C2,j,_,(sr.step f1 c1).step f2 c2,e3,fun H3 f3 c3=>?_⟩⟩⟩
    have fr:=f1.trans (f2.trans f3)
    have r3:=(r1.mono c1 f2).mono c2 f3
    rcases sliceD_some e4 with ⟨xs,hd,rfl⟩ | ⟨xs,hd,rfl⟩
    ·obtain ⟨a,vs,rfl,h1,rv⟩:=liesL (r3.lies c3 hd)
     exact .inl ⟨a,vs,rfl,h1,fun p hp=>q _ _ (fr.trans (Fr.new hp)) (c3.new hp) (show Rep _ _ _ _ _ from Zc3 c3 hp (reps_cut rv i j))⟩
    ·obtain ⟨a,vs,rfl,h1,rv⟩:=liesT (r3.lies c3 hd)
     by_cases hw:HT.sIx vs.length 0 i=0/\HT.sIx vs.length vs.length j=vs.length
     ·refine .inr (.inr ⟨a,vs,rfl,h1.sq,hw,?_⟩)
      rw[←rv.length] at hw
      rw[cut_whole hw] at q
      exact q _ H3 fr c3 (show Rep _ _ _ _ _ by unfold Rep;exact ⟨a,vs,rfl,h1,rv⟩)
     ·exact .inr (.inl ⟨a,vs,rfl,h1.sq,hw,fun p hp=>q _ _ (fr.trans (Fr.new hp)) (c3.new hp) (show Rep _ _ _ _ _ from Zc4 hp (reps_cut rv i j))⟩)
end
section
variable {X:Cx}{a b e c o i:Expr}{es:5e9}{fa fb fc fo fi fv:4e3}{fs:2e9}{pos p apos cpos p2:Pos}{x:Str}
theorem Zah (hu:X.A.units + 1 < cLine)(ha:QEM X a fa)(hb:QEM X b fb)(hs:PlainIx b:=by exact fun _ _=>rfl):QEM X (.Subscript a b pos) (mOp 3e5 fa fb):=by
 subst_eqs
 exact em_ix (IxR.or ix_seq (ix_dict hu)) ixQ_ok.r ha hb hs
end
end Pu
namespace Pu
open PySem PySem.Spec PySem.W PySem.Calls L2 PySem.SeqAt
open PyProof.Rows hiding St Fr
section
variable {X:Cx}{e o i:Expr}{es:5e9}{fs:2e9}{p pos pos':Pos}{x:Str}{fv fo fi:4e3}
theorem q_sm_newT {n:Nat}{dpos:Pos}(hN:X.N.Nodup)(hi:X.N[n]? = some x)(hx:Loc X.env.scope x)(hs:WJ (.Dict [] [] dpos) (some (.Name x pos')) pos.line X.env=pure false:=by rfl)
  (hf:7e0:=by first | exact .inl rfl | exact .inr rfl | assumption):QSM X (.Assign [.Name x pos'] (.Dict [] [] dpos) pos) (mNewT n):=by
 subst_eqs
 exact PS.imp (ps_set hN hi hx pe_dnewT hs hf) fun D σ H h_=>by
   sleep 2
   cases e
   intro q hq
   have c1:=sr.cr
   have c2:CR X.K (ι++[q]) (upd H q (.dT [])) (C++[.dtt [] []]):=c1.add hq ⟨[],ZaQ,rfl,.nil⟩
   have x:Ex ι [q] H (upd H q (.dT [])):=⟨Fr.new hq,fun b hb=>by
    have:b=q:=by simpa using hb
    subst this;exact hq⟩
   refine d [q] _ _ x ((sr.ex x c2).set n ⟨q,rfl,?_⟩)
   rw[←c1.len];simp
theorem q_sm_setixT {spos:Pos}(hu:8e3)(hv:QEM X e fv)(ho:QEM X o fo)(hi:QEM X i fi)
  (hs:WJ e (some (.Subscript o i spos)) pos.line X.env=pure false:=by rfl):QSM X (.Assign [.Subscript o i spos] e pos) (mSetIxT fv fo fi):=by
 subst_eqs
 exact PS.imp (ps_dput 1e2 ho hi hv hs) fun D σ H h_=>by
    sleep 2
    obtain ⟨v,C1,e1,g1⟩:=Zag e
    obtain ⟨o,C2,e2,g2⟩:=Zag g1
    obtain ⟨i,C3,e3,g3⟩:=Zag g2
    obtain ⟨k,qs,p',ks,ps,key,ho,hi,hv,hc,hj,hlen,hf,hC⟩:=setT_some g3
    clear e g1 g2 g3
    subst ho hi hv hf hC
    refine ⟨ι,ρ,C,_,C1,sr,e1,fun x H1 f1 c1 r1=>⟨ι,ρ,C1,_,C2,sr.step f1 c1,e2,fun y H2 f2 c2 r2=>⟨ι,ρ,C2,_,C3,(sr.step f1 c1).step f2 c2,e3,fun w H3 f3 c3 r3=>?_⟩⟩⟩
    obtain ⟨a,rfl,hk⟩:=r2
    obtain ⟨vs,h1,hl,rv⟩:=(show CellOk X.K ι H3 a (.dtt ks ps) from c3.ok k a _ hk hc)
    obtain ⟨b,rfl,hb⟩:=Zb1 (show Rep X.K ι H3 (.tup qs) w from r3) hj
    have r1':Rep X.K ι H3 p' x:=Rep.mono c2 f3 _ _ (Rep.mono c1 f2 _ _ r1)
    obtain ⟨z1,z2⟩:=put_zip (k:=key) (v:=x) hl
    have fr:Fr ι H3 (upd H3 a (.dT (putK (ks.zip vs) key x))):=fun b u n e=>by
     rw[Zax (fun z=>n (by rw[z];exact YQ hk))];exact e
    have c4:CR X.K ι (upd H3 a (.dT (putK (ks.zip vs) key x))) (C3.set k (.dtt (putKs ks key) (putVs ks ps key p'))):=
     c3.put hk ⟨putVs ks vs key x,by rw[←z1];exact ZaQ,z2,Reps.mono c3 fr _ _ (reps_put r1' rv)⟩
    refine ⟨a,_,rfl,DPut.t h1 hb (by rw[VP,YU];lia),?_⟩
    exact Done.nx0 ((((sr.step f1 c1).step f2 c2).step f3 c3).step fr c4) (d.fr c4 (f1.trans (f2.trans (f3.trans fr))))
end
end Pu
namespace Pu
open PySem PySem.Spec PySem.W PySem.Calls L2 PySem.SeqAt
open PyProof.Rows hiding St Fr
section
variable {X:Cx}{e o i a:Expr}{es:5e9}{p pos pos' cpos apos:Pos}{x:Str}{fv fo fi fa:4e3}{fs:2e9}
theorem q_sm_newK {n:Nat}{dpos:Pos}(hN:X.N.Nodup)(hi:X.N[n]? = some x)(hx:Loc X.env.scope x)(hs:WJ (.Dict [] [] dpos) (some (.Name x pos')) pos.line X.env=pure false:=by rfl)
  (hf:7e0:=by first | exact .inl rfl | exact .inr rfl | assumption):QSM X (.Assign [.Name x pos'] (.Dict [] [] dpos) pos) (mNewK n):=by
 subst_eqs
 exact PS.imp (ps_set hN hi hx pe_dnewK hs hf) fun D σ H h_=>by
   sleep 2
   cases e
   intro q hq
   have c1:=sr.cr
   have c2:CR X.K (ι++[q]) (upd H q (.dK [])) (C++[.dct [] []]):=c1.add hq ⟨[],[],ZaQ,rfl,rfl,.nil⟩
   have x:Ex ι [q] H (upd H q (.dK [])):=⟨Fr.new hq,fun b hb=>by
    have:b=q:=by simpa using hb
    subst this;exact hq⟩
   refine d [q] _ _ x ((sr.ex x c2).set n ⟨q,rfl,?_⟩)
   rw[←c1.len];simp
theorem q_sm_setixK {spos:Pos}(hu:8e3)(hv:QEM X e fv)(ho:QEM X o fo)(hi:QEM X i fi)
  (hs:WJ e (some (.Subscript o i spos)) pos.line X.env=pure false:=by rfl):QSM X (.Assign [.Subscript o i spos] e pos) (mSetIxK fv fo fi):=by
 subst_eqs
 exact PS.imp (ps_dput 1e2 ho hi hv hs) fun D σ H h_=>by
    sleep 2
    obtain ⟨v,C1,e1,g1⟩:=Zag e
    obtain ⟨o,C2,e2,g2⟩:=Zag g1
    obtain ⟨i,C3,e3,g3⟩:=Zag g2
    obtain ⟨k,ip,p',ks,ps,qs,key,ho,hi,hv,hc,hj,hks,hlen,hf,hC⟩:=setK_some g3
    clear e g1 g2 g3
    subst ho hi hv hf hC
    refine ⟨ι,ρ,C,_,C1,sr,e1,fun x H1 f1 c1 r1=>⟨ι,ρ,C1,_,C2,sr.step f1 c1,e2,fun y H2 f2 c2 r2=>⟨ι,ρ,C2,_,C3,(sr.step f1 c1).step f2 c2,e3,fun w H3 f3 c3 r3=>?_⟩⟩⟩
    obtain ⟨a,rfl,hk⟩:=r2
    obtain ⟨qs',vs,h1,hl,hk',rv⟩:=(show CellOk X.K ι H3 a (.dct ks ps) from c3.ok k a _ hk hc)
    subst hk'
    rw[Za1] at hks
    cases hks
    have hw:w=kV key:=rep_key (show Rep X.K ι H3 ip w from r3) hj
    subst hw
    have r1':Rep X.K ι H3 p' x:=Rep.mono c2 f3 _ _ (Rep.mono c1 f2 _ _ r1)
    obtain ⟨z1,z2⟩:=put_zip (k:=key) (v:=x) hl
    have fr:Fr ι H3 (upd H3 a (.dK (putK (qs.zip vs) key x))):=fun b u n e=>by
     rw[Zax (fun z=>n (by rw[z];exact YQ hk))];exact e
    have c4:CR X.K ι (upd H3 a (.dK (putK (qs.zip vs) key x))) (C3.set k (.dct ((putKs qs key).map kP) (putVs qs ps key p'))):=
     c3.put hk ⟨putKs qs key,putVs qs vs key x,by rw[←z1];exact ZaQ,z2,rfl,Reps.mono c3 fr _ _ (reps_put r1' rv)⟩
    rw[YE] at hlen
    refine ⟨a,_,rfl,DPut.k h1 (by rw[VP,YU];lia),?_⟩
    exact Done.nx0 ((((sr.step f1 c1).step f2 c2).step f3 c3).step fr c4) (d.fr c4 (f1.trans (f2.trans (f3.trans fr))))
end
section
variable {X:Cx}
theorem Zbf {e:Expr}{es:5e9}{fs:2e9}{p pos:Pos}(hcm:9e9)(hu:8e3)(hgl:Gl X "sorted")(hm:X.mg "sorted"=none)(hv:Xb "sorted"=some (.builtin "sorted"))(ha:QAM X 6e8 fs)
  (he:1e8:=by rfl) (hpl:2e8:=by rfl):QFM X (.Call (.Name "sorted" p) 6e8 [] pos) (mSorted3 fs):=by
 subst_eqs
 exact PE.imp (PE.or (fm_sorted2 (p:=p) (pos:=pos) hcm hu hgl hm hv ha he hpl) (pe_callB (call_sortedK hcm hu) hgl hm hv ha 1e1 1e1 he hpl)) fun σ H Q h_=>by
    sleep 11
    sleep 9
    obtain ⟨e2,rfl⟩:=ZaN e
    unfold sortedH3 at e2
    split at e2
    ·rename_i x
     split at e2
     ·rename_i ks vs hd
      split at e2
      ·rename_i qs hk
       by_cases ho:qs.all keyOk=true
       ·rw[if_pos ho] at e2
        refine .inr ⟨ι,ρ,C,[x],_,sr,e1,fun vs H1 f1 c1 r1=>?_⟩
        obtain ⟨v,w,rfl,r1,hw⟩:=r1
        cases (show w=[] from hw)
        obtain ⟨a,qs',ws,rfl,rfl,hd',hl,r⟩:=liesD (r1.lies c1 hd)
        rw[Za1] at hk
        cases hk
        have ek:((qs.zip ws).map fun q=>kP q.1)=qs.map kP:=by
         have:(qs.zip ws).map UJ=qs:=W7 1e2
         exact (Xf (f:=UJ) (g:=kP) (l:=qs.zip ws)).symm.trans (by rw[this])
        have ev:((qs.zip ws).map fun q=>kV q.1)=qs.map kV:=by
         have:(qs.zip ws).map UJ=qs:=W7 1e2
         exact (Xf (f:=UJ) (g:=kV) (l:=qs.zip ws)).symm.trans (by rw[this])
        have ef:(qs.zip ws).map (·.1)=qs:=W7 1e2
        refine ⟨a,qs.zip ws,rfl,hd',by rw[ef];exact ho,by rw[ek,e2];rfl,fun l hl=>?_⟩
        refine q l _ H1 f1 c1 hl ?_
        rw[ZbN e2,ek,ev]
        exact ZbQ (reps_kP ho) fun i hi=>Zbk i hi
       ·rw[if_neg ho] at e2;cases e2
      ·cases e2
     ·exact .inl ⟨ι,ρ,C,z,_,sr,by unfold mSorted2;show bnd (fs ρ) _ C=_;unfold bnd;rw[e1];show opM _ _=_;unfold opM;dsimp only;rw[e2],q⟩
    ·cases e2
end
end Pu
namespace Pu
open PySem PySem.Spec L2
open PyProof.Rows hiding St Fr
section
variable {X:Cx}{l:Expr}{elts:5e9}{x1:Nat}{tpos p pos:Pos}
theorem q_im_enum {fs:2e9}(hg:Gl X "enumerate")(hm:X.mg "enumerate"=none)(ha:QAM X [l] fs)(hs:Yp [l] X.env=[(false,eval l X.env)]:=by rfl):QIM X (.Tuple elts x1 tpos) (.Call (.Name "enumerate" p) [l] [] pos) (mEnum fs):=by
 subst_eqs
 exact PI.imp (pi_enum hg hm ha hs) fun σ H R h_=>by
    obtain ⟨ι,ρ,C,xs,C',sr,e,q⟩:=h_
    obtain ⟨zs,C1,e1,g1⟩:=Zag e
    obtain ⟨e2,hC⟩:=ZaN g1
    subst hC
    refine ⟨ι,ρ,C,zs,_,sr,e1,fun vs H1 f1 c1 r1=>?_⟩
    unfold enumP at e2
    split at e2
    ·cases e2
     obtain ⟨v,w,rfl,r1,hw⟩:=r1
     cases (show w=[] from hw)
     replace r1:Rep X.K ι H1 (.lst _) v:=r1
     unfold Rep at r1
     obtain ⟨a,vs,rfl,hq,rv⟩:=r1
     exact ⟨a,rfl,⟨vs,hq.sq⟩,q _ H1 f1 c1 (iter_enum c1 hq rv)⟩
    ·cases e2
theorem q_sm_forE {fs:2e9}{f:11e6}{body:List Stmt}{fpos:Pos}{g:4e5}(hp:PassesOwn 2e4 X.A X.env X.xe)(hc:9e9)(hgl:Gl X "enumerate")(hm:X.mg "enumerate"=none)(ha:QAM X [l] fs)(hg:QGM X (.Tuple elts x1 tpos) g)(hb:QBM X body f)
  (hs:∀x,Y4 (.Call (.Name "enumerate" p) [l] [] pos) X.env x=pure x:=by intro _;rfl) (hs1:Yp [l] X.env=[(false,eval l X.env)]:=by rfl):QSM X (.For (.Tuple elts x1 tpos) (.Call (.Name "enumerate" p) [l] [] pos) body [] fpos) (mForE fs g f):=by
 subst_eqs
 exact PS.imp (ps_for hp hc (pi_enum hgl hm ha hs1) hg hb hs) fun D σ H h_=>by
   sleep 2
   obtain ⟨x,C1,e1,e⟩:=Zag e
   refine ⟨ι,ρ,C,x,C1,sr,e1,fun v H1 f1 c1 r1=>?_⟩
   split at e
   case h_2=>cases e
   rename_i k
   obtain ⟨v,w,rfl,⟨a,rfl,hk⟩,hw⟩:=r1
   cases (show w=[] from hw)
   have d1:=d.fr c1 f1
   have sr1:=sr.step f1 c1
   have cell:∀{ι2:3e7} {H2:Hp} {C2:Cs} {qs:List PV},CR X.K 9e1 H2 C2->C2[k]? = some (.lst qs)->∃vs,H2 a=some (.lst vs)/\Reps X.K 9e1 H2 qs vs:=fun {ι2 H2 C2 qs} cr h=>by
    have hkl:k < ι.length:=by
     rcases YH k ι.length with q | q
     ·exact q
     ·rw[Yi.mpr q] at hk;cases hk
    exact cr.ok k a _ (by rw[Yf hkl];exact hk) h
   refine ⟨a,rfl,?_,?_⟩
   ·unfold loopE at e
    split at e
    ·rename_i qs hq
     obtain ⟨vs,h1,_⟩:=cell (ι2:=[]) (by rw[YJ];exact c1) hq
     exact ⟨vs,.inl (.inl h1)⟩
    ·cases e
   refine ⟨fun i m σ2 H2=>∃ι2 ρ2 C2,Ex ι ι2 H1 H2/\SR X.K 9e1 H2 ρ2 σ2 C2/\loopE g f k m i ρ2 C2=some (fl,C'),⟨1000,[],ρ,C1,Ex.fr .refl,by rw[YJ];exact sr1,e⟩,?_⟩
   rintro i m σ2 H2 ⟨ι2,ρ2,C2,x2,sr2,e2⟩
   cases m with
   | zero=>cases e2
   | succ m=>
   unfold loopE at e2
   split at e2
   ·rename_i qs hq
    obtain ⟨vs,h1,rv⟩:=cell sr2.cr hq
    split at e2
    ·rename_i q hqi
     right
     obtain ⟨w,hw,rw'⟩:=rv.get hqi
     refine ⟨⟨vs,w,.inl (.inl h1),hw⟩,fun σ' H'=>∃ι2 ρ2 C2,Ex ι ι2 H1 H'/\SR X.K 9e1 H' ρ2 σ' C2/\loopE g f k m (i + 1) ρ2 C2=some (fl,C'),?_,?_⟩
     ·rintro σ' H' h
      exact ⟨m,W5 _,h⟩
     ·intro v H3 y
      obtain ⟨b,v',hn,rfl,rfl,y⟩:=y
      have ev:v'=w:=by have:=y vs (.inl (.inl h1));rw[hw] at this;exact (YN this).symm
      subst ev
      split at e2
      ·cases e2
      ·rename_i ρ3 hg1
       obtain ⟨fl1,C3,e3,e4⟩:=Zag e2
       have sm:∀c o,H2 c=some o->upd H2 b (.tup [.int i,v']) c=some o:=fun c o e=>by rw[Zax (Zas e hn)];exact e
       have x3:Ex ι ι2 H1 (upd H2 b (.tup [.int i,v'])):=⟨fun c o n z=>sm c o (x2.1 c o n z),x2.2⟩
       have cr3:=sr2.cr.same sm
       refine ⟨ι++ι2,ρ2,C2,.tup [.int (i:Nat),q],ρ3,sr2.step (fun c o _ z=>sm c o z) cr3,Zc4 hn (.cons repI (.cons rw' .nil)),hg1,fun σ4 sr4=>⟨ι++ι2,ρ3,C2,fl1,C3,sr4,e3,?_⟩⟩
       cases fl1 with
       | nx ρ5=>exact fun ι5 σ5 H5 x5 sr5=>⟨ι2++ι5,ρ5,C3,x3.trans cr3 x5,by rw[←YD];exact sr5,e4⟩
       | ct ρ5=>exact fun ι5 σ5 H5 x5 sr5=>⟨ι2++ι5,ρ5,C3,x3.trans cr3 x5,by rw[←YD];exact sr5,e4⟩
       | bk ρ5=>cases e4;exact fun ι5 σ5 H5 x5 sr5=>d1 (ι2++ι5) σ5 H5 (x3.trans cr3 x5) (by rw[←YD];exact sr5)
       | rf ps=>cases e4;exact fun ι5 q5 vs5 H5 x5 c5 h5 r5=>d1 (ι2++ι5) q5 vs5 H5 (x3.trans cr3 x5) (by rw[←YD];exact c5) h5 (by rw[←YD];exact r5)
       | rq ps=>cases e4;exact fun ι5 q5 vs5 H5 x5 c5 h5 r5=>d1 (ι2++ι5) q5 vs5 H5 (x3.trans cr3 x5) (by rw[←YD];exact c5) h5 (by rw[←YD];exact r5)
       | rt r=>cases e4;exact fun ι5 v5 H5 x5 c5 r5=>d1 (ι2++ι5) v5 H5 (x3.trans cr3 x5) (by rw[←YD];exact c5) (by rw[←YD];exact r5)
    ·rename_i hqi
     left
     cases e2
     refine ⟨⟨vs,.inl (.inl h1),?_⟩,d1 ι2 σ2 H2 x2 sr2⟩
     rw[←rv.length];exact Yi.mp hqi
   ·cases e2
end
section
variable {X:Cx}{tg kx vx iter:Expr}{ifs:5e9}{pos:Pos}{scope:Scope}{vs fs:5e6}{fr:11e8}{it:6e0}{g:4e5}{tt:6e3}{tk te:4e3}
theorem q_em_compD (S:9e6)(hc:9e9)(hu:8e3)(hi:QIM X tg iter it)
  (bG:∀C s₀ H₀ ex pn,QGM 1e3 tg g) (bT:∀C s₀ H₀ ex pn,QTsM 1e3 ifs tt) (bK:∀C s₀ H₀ ex pn,QEM 1e3 kx tk) (bE:∀C s₀ H₀ ex pn,QEM 1e3 vx te)
  (hs:∀x,Y4 iter X.env x=pure x:=by intro _;rfl):QEM X (.DictComp kx vx [⟨tg,iter,ifs,0⟩] scope pos) (mCompD it vs fr g tt tk te):=by
 subst_eqs
 exact PE.imp (pe_compD (g:=tMG X.K g) (tt:=tMB X.K tt) (tk:=tM X.K tk) (te:=tM X.K te) S hc 1e2 hi bG bT bK bE hs) fun σ H Q ⟨ι,ρ,C,res,C',sr,e,q⟩=>compD_pure sr e q
end
end Pu
namespace Pu
open PySem PySem.Spec PySem.W PySem.Calls L2 PySem.SeqAt Se
open PyProof.Rows hiding St Fr
section
variable {X:Cx}{elt t0 i0 t1 i1:Expr}{ifs:5e9}{scope:Scope}{p pos pos1:Pos}{vs fs:5e6}{fr:11e8}{it0 it1:6e0}{g0 g1:4e5}{tt:6e3}{te:4e3}
theorem q_fm_sortset (S:9e6)(hc:9e9)(hu:8e3)(hgl:Gl X "sorted")(hm:X.mg "sorted"=none)(hv:Xb "sorted"=some (.builtin "sorted"))(hi:QIM X t0 i0 it0)
  (bG0:∀C s₀ H₀ ex pn,QGM 1e3 t0 g0) (bI:∀C s₀ H₀ ex pn,QIM 1e3 t1 i1 it1) (bG1:∀C s₀ H₀ ex pn,QGM 1e3 t1 g1)
  (bT:∀C s₀ H₀ ex pn,QTsM 1e3 ifs tt) (bE:∀C s₀ H₀ ex pn,QEM 1e3 elt te)
  (hs:∀x,Y4 i0 X.env x=pure x:=by intro _;rfl) (hs1:∀(env:Env) x,Y4 i1 env x=pure x:=by intro _ _;rfl):
  QFM X (.Call (.Name "sorted" p) [.SetComp elt [⟨t0,i0,[],0⟩,⟨t1,i1,ifs,0⟩] scope pos1] [] pos) (mSortSet it0 vs fr g0 it1 g1 tt te):=by
 subst_eqs
 intro pins s σ H Q I h_
 obtain ⟨ι,ρ,C,res,C',sr,e,q⟩:=h_
 refine Wd (Zci I hgl hm hv ?_ 1e1 1e1)
 refine Vw ?_ rfl rfl
 show wpAny _ _ (spliced ((false,eval (sc2 elt t0 i0 t1 i1 ifs scope pos1) X.env)::backTo pos (Yp [] X.env))) _ _ s
 refine VZ ?_
 sleep 9
 obtain ⟨ks,C9,e9,e10⟩:=Zag e
 obtain ⟨e11,ec⟩:=ZaN e10
 rw[←ec] at e9
 by_cases hko:keysOk ks=true
 case neg=>rw[if_neg hko] at e11;cases e11
 rw[if_pos hko] at e11
 refine thn (setcomp_at (wi0:=tMI X.K it0) (g0:=tMG X.K g0) (wi1:=tMI X.K it1) (g1:=tMG X.K g1) (tt:=tMB X.K tt) (te:=tM X.K te) (Q:=fun bs H2=>bs.map (·.1)=ks/\Fr ι H H2/\CR X.K ι H2 C'/\FineB bs H2) S hc 1e2 hi hs1 bG0 bI bG1 bT bE I ?_ hs) fun v s2 ⟨D,bs,H2,ev,I2,SU,hD,hks,f2,c2,fb⟩=>?_
 ·refine ⟨ι,ρ,C,xs,C1,sr,e1,fun J H1 f1 c1 it1'=>?_⟩
  have sr1:=(sr.step f1 c1).block vs fr
  have x0:∀{H2:Hp},Fr ι H1 H2->Ex ι [] H1 H2:=fun f=>Ex.fr f
  have c0:∀{H2:Hp} {C2:Cs},CR X.K ι H2 C2->CR X.K (ι++[]) H2 C2:=fun c=>by rw[YJ];exact c
  refine ⟨fun i m σ2 bs H2=>∃ρ2 C2,m=xs.length - i/\i<=xs.length/\Fr ι H1 H2/\SR X.K ι H2 ρ2 σ2 C2/\FineB bs H2/\compS0 g0 it1 g1 tt te (xs.drop i) ρ2 (bs.map (·.1)) C2=some (ks,C'),⟨xs.length,_,C1,rfl,YV _,.refl,sr1,fun p hp=>(nomatch hp),e9⟩,?_⟩
  rintro i m σ2 bs2 H2 ⟨ρ2,C2,rfl,hi2,f2,sr2,fb2,e2⟩
  rcases YH i xs.length with hlt | hge
  ·right
   refine ⟨it1'.go [] H2 C2 (x0 f2) (c0 sr2.cr) i hlt,fun σ' bs' H'=>∃ρ2 C2,Fr ι H1 H'/\SR X.K ι H' ρ2 σ' C2/\FineB bs' H'/\compS0 g0 it1 g1 tt te (xs.drop (i + 1)) ρ2 (bs'.map (·.1)) C2=some (ks,C'),?_,?_⟩
   ·rintro σ' bs' H' ⟨ρ3,C3,f3,sr3,fb3,e3⟩
    exact ⟨xs.length - (i + 1),by lia,ρ3,C3,rfl,hlt,f3,sr3,fb3,e3⟩
   ·intro v H3 y
    obtain ⟨sm,qv,hq,rq⟩:=it1'.yld [] H2 C2 (x0 f2) (c0 sr2.cr) i v H3 hlt y
    rw[YJ] at rq
    have hd:xs.drop i=qv::xs.drop (i + 1):=by
     rw[XS hlt]
     rw[Yd hlt] at hq
     rw[YN hq]
    rw[hd] at e2
    unfold compS0 at e2
    cases hg1:g0 qv ρ2 with
    | none=>rw[hg1] at e2;cases e2
    | some ρ3=>
     rw[hg1] at e2
     obtain ⟨ys,C4,e3,e4⟩:=Zag e2
     obtain ⟨⟨ρ5,ks5⟩,C5,e5,e6⟩:=Zag e4
     have fr3:Fr ι H2 H3:=fun b o _ z=>sm b o z
     have cr3:CR X.K ι H3 C2:=sr2.cr.same sm
     refine ⟨ι,ρ2,C2,qv,ρ3,sr2.step fr3 cr3,rq,hg1,fun σ4 sr4=>⟨ι,ρ3,C2,ys,C4,sr4,e3,fun J1 H5 f5 c5 it5=>?_⟩⟩
     refine compS1_pure it5 (sr4.step f5 c5) (Zbt cr3 f5 (Zbt sr2.cr fr3 fb2)) e5 fun σ6 bs6 H6 f6 sr6 fb6 hk6=>⟨ρ5,C5,f2.trans (fr3.trans (f5.trans f6)),sr6,fb6,?_⟩
     rw[hk6];exact e6
  ·left
   have hi3:i=xs.length:=by lia
   subst hi3
   rw[W6] at e2
   unfold compS0 at e2
   have e2':some (bs2.map (·.1),C2)=some (ks,C'):=e2
   simp only[Option.some.injEq,Prod.mk.injEq] at e2'
   obtain ⟨hk,rfl⟩:=e2'
   exact ⟨it1'.stop [] H2 _ (x0 f2) (c0 sr2.cr),hk,f1.trans f2,sr2.cr,fb2⟩
 ·subst ev
  refine V9 (sorted_set hc hu I2 SU fb (by rw[hks];exact hko) (qs:=res) ?_ fun ws l rs hl=>q l ws H2 f2 c2 hl (rs ι))
  rw[←e11,←hks,Xf];rfl
end
end Pu
namespace Pu
open PySem PySem.Spec PySem.W PySem.Calls L2
open PyProof.Rows hiding St Fr
section
variable {X:Cx}{e:Expr}{es:5e9}{p pos:Pos}{x:Str}{k:Nat}{ps:5e6}{F:List SV->M SV}{fs:2e9}
theorem Zaf (c:Cal X.prog X.w X.K X.mg X.base k x ps (liftSp X.K F))(hr:Room k X.A)(hg:Gl X x)(ha:QAM X 6e8 fs)(hdb:5e1:=by decide)(he:1e8:=by rfl)(hpl:2e8:=by rfl):
  QEM X 8e4 (mFn F fs):=by
 subst_eqs
 obtain ⟨f,fd,G,m,k,b⟩:=c
 exact em_call G hr hg m k b ha hdb he hpl
theorem q_em_calS (ix:11e8)(c:Cal X.prog X.w X.K X.mg X.base k x ps (liftSp X.K F))(hr:Room k X.A)(hg:Gl X x)(ha:QAM X 6e8 fs)(hdb:5e1:=by decide)(he:1e8:=by rfl)(hpl:2e8:=by rfl):
  QEM X 8e4 (mFnS F ix fs):=by
 subst_eqs
 obtain ⟨f,fd,G,m,k,b⟩:=c
 exact em_callS ix G hr hg m k b ha hdb he hpl
theorem q_em_calN {f0:6e0}(c:Cal X.prog X.w X.K X.mg X.base k x ps (liftSp X.K F))(hr:Room k X.A)(hg:Gl X x)(h0:QFM X e f0)(ha:QAM X es fs)(hdb:5e1:=by decide)(he:1e8:=by rfl)(hpl:2e8:=by rfl):
  QEM X 8e4 (mFnN F f0 fs):=by
 subst_eqs
 obtain ⟨f,fd,G,m,k,b⟩:=c
 exact em_callN G hr hg m k b h0 ha hdb he hpl
theorem ZbU {F:List SV->M 13e5}(c:Cal X.prog X.w X.K X.mg X.base k x ps (liftSpF X.K F))(hr:Room k X.A)(hg:Gl X x)(ha:QAM X 6e8 fs)(hdb:5e1:=by decide)(he:1e8:=by rfl)(hpl:2e8:=by rfl):
  QFM X 8e4 (mFnF F fs):=by
 subst_eqs
 obtain ⟨f,fd,G,m,k,b⟩:=c
 exact fm_call G hr hg m k b ha hdb he hpl
end
section
variable {P:YC}{w:World}{K:W.Frag}{mg:3e1}{base:Heap}{x:Str}{st:Stmt}{N ps:5e6}{k:Nat}{body:11e6}
theorem ZaG (F:Hd.FnAt K mg x st)(S:FnScope N ps 15e2)(hb:∀(kV doc pm:Value) (an:Option Addr) (cdv ct:Value) (us:4e1),us.length=ps.length->bindArgs (W.fnOf x x (defArgs st) (defBody st) 15e2 .none kV doc pm an cdv ct) ⟨us,[]⟩=pure (ps.zip us))
  (hbody:∀(f:Addr) (cdv:Value) (A:Around) (outer:List Env) (s:Shared) (H:Hp) (E:XK),Room k (A.deeper (envOfC x 15e2 s.heap.objs.size f cdv))->
   QBM (cxOf CX0 P w K mg base N x (defScope st) f cdv A outer s H E).nox (defBody st) body):Cal P w K mg base (k + 1) x ps (liftSp K (mDef ps.length (N.length - ps.length) body)):=by
 subst_eqs
 obtain ⟨f,fd,m,F⟩:=F
 exact ⟨f,fd,fn_mk F S (hbody f),m,F.kp,F.binds hb⟩
theorem q_fn_calF (F:Hd.FnAt K mg x st)(S:FnScope N ps 15e2)(hb:∀(kV doc pm:Value) (an:Option Addr) (cdv ct:Value) (us:4e1),us.length=ps.length->bindArgs (W.fnOf x x (defArgs st) (defBody st) 15e2 .none kV doc pm an cdv ct) ⟨us,[]⟩=pure (ps.zip us))
  (hbody:∀(f:Addr) (cdv:Value) (A:Around) (outer:List Env) (s:Shared) (H:Hp) (E:XK),Room k (A.deeper (envOfC x 15e2 s.heap.objs.size f cdv))->
   QBM (cxOf CX0 P w K mg base N x (defScope st) f cdv A outer s H E).nox (defBody st) body):Cal P w K mg base (k + 1) x ps (liftSpF K (mDefF ps.length (N.length - ps.length) body)):=by
 subst_eqs
 obtain ⟨f,fd,m,F⟩:=F
 exact ⟨f,fd,fn_mkF F S (hbody f),m,F.kp,F.binds hb⟩
end
section
variable {X:Cx}{e:Expr}{f:4e3}{p p2 pos pos2:Pos}
theorem q_fm_listrev (hcm:9e9)(hgl:Gl X "list")(hml:X.mg "list"=none)(hgs:Gl X "reversed")(hms:X.mg "reversed"=none)(h:QEM X e f)(he:Yp [e] X.env=(false,eval e X.env)::Yp [] X.env:=by rfl):
  QFM X (.Call (.Name "list" p) [.Call (.Name "reversed" p2) [e] [] pos2] [] pos) (mListRev f):=by
 subst_eqs
 intro pins s σ H Q I h_
 obtain ⟨ι,ρ,C,res,C',sr,e1,q⟩:=h_
 obtain ⟨x,C1,e2,e3⟩:=Zag e1
 obtain ⟨e4,rfl⟩:=ZaN e3
 refine Wd (Zci I hgl hml boot_list_ ?_ 1e1 1e1)
 refine Xq ?_ rfl rfl
 show wpAny _ _ (spliced ((false,eval (.Call (.Name "reversed" p2) [e] [] pos2) X.env)::backTo pos (Yp [] X.env))) _ _ s
 refine VZ ?_
 refine Wd (Zci I hgs hms Zds ?_ 1e1 1e1)
 have ha:AM X [e] (aCons f aNil):=am_cons h am_nil he
 have ea:aCons f aNil ρ C=some ([x],C'):=by unfold aCons bnd;rw[e2];rfl
 refine Xq (thn (ha pos2 pins s σ H (fun vs H1=>Fr ι H H1/\CR X.K ι H1 C'/\RepSs X.K ι H1 [x] vs) I ⟨ι,ρ,C,[x],C',sr,ea,fun vs H1 f1 c1 r1=>⟨f1,c1,r1⟩⟩) fun us s1 ⟨vs,H1,I1,r1,f1,c1,rs⟩=>?_) he rfl
 obtain ⟨v,w,rfl,rv,hw⟩:=rs
 cases (show w=[] from hw)
 obtain ⟨u,rfl,ru⟩:=Vals.one r1
 cases hd:deref C' x with
 | none=>rw[hd] at e4;cases e4
 | some pv=>
  rw[hd] at e4
  cases pv with
  | lst qs=>
   cases e4
   obtain ⟨a,ws,rfl,hq,r2⟩:=liesL (rv.lies c1 hd)
   cases (show u=YF a from ru)
   obtain ⟨its,vi,⟨o,n,h1,h2,h3,h4⟩,hz⟩:=I1.list hq
   refine thn (list_reversed (items:=its.toArray) (I1.ok.hd hcm) ⟨o,h1,h2,n,h4⟩ (by rw[Ym,←vi.length];exact hz) fun D h' tk c acc hD k eD hacc=>?_) fun v2 s2 q2=>V9 q2
   have ea':acc=its.reverse.toArray:=by
    rw[←Array.toArray_toList (xs:=acc),hacc]
   rw[ea'] at eD
   have vr:=vals_rev vi
   have hl:ws.reverse.length<=sizeLine:=by rw[List.length_reverse];exact hz
   refine ⟨.ref D,_,I1.laid (t':=tk) k hD (show ObjOk X.prog X.w _ h' _ (.lst ws.reverse) from ⟨hl,its.reverse,c,vr,eD⟩),rfl,?_⟩
   exact q D _ H1 f1 c1 (I1.hok.fresh hD) (reps_rev r2)
  | _=>cases e4
end
end Pu
namespace K16
open PySem PySem.Spec L2 Pu
open PyProof.Rows hiding St Fr
abbrev B_name_of:PSt->M PF:=(mRet (mSlice 2e1 oNo (oPart 6e6)))
def F_name_of:List SV->M SV:=mDef 1 0 (B_name_of)
abbrev B_by_name:PSt->M PF:=(mRet (mCompD (mItems 2e1) ["letter"] [] 7e1 tOk (mFn F_name_of 13e7) 2e1))
def F_by_name:List SV->M SV:=mDef 1 0 (B_by_name)
abbrev B_followed:PSt->M PF:=(mRet (mTup (aCons (mOp 3e5 2e1 3e4) (aCons (mOp 3e5 2e1 1e9) (aCons (mOp 3e5 2e1 6e6) aNil)))))
def F_followed:List SV->M SV:=mDef 1 0 (B_followed)
abbrev B_asked_by:PSt->M PF:=(mSeq (mSet 1 (mVal (mList (aCons (mOp 3e5 2e1 15e3) aNil)))) (mRet (mIf (mTest (mOp (g2 eqP) (mOp 3e5 2e1 6e6) 3e4)) 3e9 (mOp 4e2 (mVal (mLst (aCons (mFn F_followed 13e7) aNil))) 3e9))))
def F_asked_by:List SV->M SV:=mDef 1 1 (B_asked_by)
abbrev B_gaps:PSt->M PF:=(mSeq (mSet 1 (mFn F_by_name 13e7)) (mRetF (mSortSet (mItems 2e1) ["letter","name"] [1] 7e1 (mItems (mFn F_asked_by 13e7)) (hName 1) (mTest (mOp (g2 (inTP true)) 3e9 5e8)) 3e9)))
def F_gaps:List SV->M SV:=mDef 1 1 (B_gaps)
abbrev B_is_whole:PSt->M PF:=(mRet (mOp 9e8 (mFn F_gaps 13e7) (mVal 11e0)))
def F_is_whole:List SV->M SV:=mDef 1 0 (B_is_whole)
abbrev B_l_cell_at:PSt->M PF:=(mSeq (mIfS (mTest (mOp (g2 ltP) 3e9 (mCB 9e3 13e7))) (mRet (mOp 3e5 2e1 3e9)) mSkip) (mRet 3e4))
def F_l_cell_at:List SV->M SV:=mDef 2 0 (B_l_cell_at)
abbrev B_l_left:PSt->M PF:=(mSeq (mSet 2 (mFn F_l_cell_at (aCons 2e1 (aCons (mOp (g2 modP) 3e9 (mCB (g1 maxH) (aCons 1e9 (aCons (mCB 9e3 13e7) aNil)))) aNil)))) (mSeq (mSet 3 (mOp (g2 modP) (mOp (g2 mulP) (mOp 4e2 (mOp 4e2 (mOp (g2 modP) 5e8 (mC (.int 2147483629))) (mOp (g2 mulP) (mOp (g2 mulP) (mC (.int 7919)) 3e9) 3e9)) (mC (.int 11))) (mC (.int 48271))) (mC (.int 2147483647)))) (mSeq (mIfS (mTest (mOp (g2 eqP) (mOp (g2 modP) (mFn F_l_cell_at (aCons 2e1 (aCons 3e4 aNil))) 2e6) 3e4)) (mSet 2 3e4) mSkip) (mRetF (mLst (aCons (mOp (g2 modP) 5e8 (mOp (g2 powP) (mC (.int 10)) (mC (.int 40)))) 11e9))))))
def F_l_left:List SV->M SV:=mDef 2 2 (B_l_left)
def FF_l_left:List SV->M 13e5:=mDefF 2 2 (B_l_left)
abbrev B_l_pick:PSt->M PF:=(mSeq (mIfS (mTest (mOp (g2 gtP) (mOp 3e5 2e1 3e4) 3e4)) (mSeq (mSet 2 (mOp (g2 modP) (mOp 3e5 2e1 3e4) 3e9)) (mSeq (mSetIx (mOp (g2 fdivP) (mOp 3e5 2e1 3e4) 3e9) 2e1 3e4) (mRet 5e8))) mSkip) (mSeq (mSetIx (mOp (g2 modP) (mOp 4e2 (mOp (g2 mulP) (mOp 3e5 2e1 1e9) (mC (.int 48271))) (mC (.int 12345))) (mC (.int 2147483647))) 2e1 1e9) (mRet (mOp (g2 modP) (mOp (g2 modP) (mOp (g2 mulP) (mOp 3e5 2e1 1e9) (mOp 3e5 2e1 1e9)) (mC (.int 1999999973))) 3e9))))
def F_l_pick:List SV->M SV:=mDef 2 1 (B_l_pick)
abbrev B_l_words:PSt->M PF:=(mSeq (mSet 2 (mC (.str "abcdefghijklmnopqrstuvwxyz"))) (mSeq (mSet 3 (mFn F_l_pick (aCons 2e1 (aCons (mC (.int 26)) aNil)))) (mSeq (mSet 4 (mOp 3e5 (mVal (mLst (aCons 1e9 (aCons 6e6 (aCons 13e2 (aCons (mC (.int 7)) (aCons (mC (.int 9)) (aCons (mC (.int 11)) aNil)))))))) (mFn F_l_pick (aCons 2e1 (aCons (mC (.int 6)) aNil))))) (mRetF (mComp (mRange1 (aCons 3e9 aNil)) ["_law_k"] [2,3,4] 7e1 tOk (mOp 4e2 (mOp 3e5 3e9 (mOp (g2 modP) (mOp 4e2 5e8 (mOp (g2 mulP) 7e4 2e1)) (mC (.int 26)))) (mOp 3e5 (mVal (mLst (aCons (mC (.str "")) (aCons (mC (.str "zq")) (aCons (mC (.str "x")) (aCons (mC (.str "qqzzx")) aNil)))))) (mOp (g2 modP) (mOp 4e2 5e8 (mOp (g2 mulP) 2e1 2e1)) 15e3))))))))
def F_l_words:List SV->M SV:=mDef 2 3 (B_l_words)
abbrev B_l_event:PSt->M PF:=(mSeq (mAsg 3e9 (hTup (hCons (hName 4) (hCons (hName 5) (hCons (hName 6) hNil))) 3)) (mSeq (mSet 7 (mFn F_l_pick (aCons 2e1 (aCons (mC (.int 6)) aNil)))) (mSeq (mIfS (mTest (mOp (g2 ltP) 14e4 2e6)) (mRet (mTup (aCons (mC (.str "joined")) (aCons (mFn F_l_pick (aCons 2e1 14e9)) aNil)))) mSkip) (mSeq (mIfS (mTest (mOp (g2 ltP) 14e4 15e3)) (mRet (mTup (aCons (mC (.str "said")) (aCons (mFn F_l_pick (aCons 2e1 14e9)) (aCons (mOp 3e5 5e8 (mFn F_l_pick (aCons 2e1 (aCons 15e3 aNil)))) aNil))))) mSkip) (mSeq (mSet 8 (mFn F_l_pick (aCons 2e1 (aCons (mOp 4e2 (mCB 9e3 12e9) 1e9) aNil)))) (mSeq (mSet 9 (mOp 3e5 (mOp 4e2 (mVal (mLst (aCons 12e7 aNil))) 7e8) (mVar 8))) (mSeq (mSet 10 (mFn F_l_pick (aCons 2e1 (aCons (mCB 9e3 (aCons (mVar 9) aNil)) aNil)))) (mSeq (mIfS (mAndT (mTest (mOp (g2 eqP) (mVar 8) 3e4)) (mTest (mOp (g2 eqP) 9e4 7e4))) (mRet (mTup (aCons (mC (.str "joined")) (aCons (mFn F_l_pick (aCons 2e1 14e9)) aNil)))) mSkip) (mRet (mTup (aCons (mC (.str "did")) (aCons (mVar 8) (aCons 9e4 (aCons (mFn F_l_pick (aCons 2e1 (aCons (mOp 3e5 (mVar 9) 9e4) aNil))) aNil))))))))))))))
def F_l_event:List SV->M SV:=mDef 4 7 (B_l_event)
abbrev B_l_clauses:PSt->M PF:=(mSeq (mNew 5 11e0) (mSeq (mFor (mEnum 8e8) (hTup (hCons (hName 6) (hCons (hName 7) hNil)) 2) (mSeq (mSet 8 (mFn F_l_pick (aCons 2e1 (aCons 3e9 aNil)))) (mSeq (mSet 9 (mOp (g2 modP) (mOp 4e2 (mOp 4e2 (mVar 8) 1e9) (mFn F_l_pick (aCons 2e1 (aCons (mOp (g2 subP) 3e9 1e9) aNil)))) 3e9)) (mSeq (mNew 10 11e0) (mSeq (mFor (mRange1 (aCons (mOp 3e5 (mVal (mLst (aCons 3e4 (aCons 1e9 (aCons 3e4 (aCons 2e6 (aCons 1e9 (aCons 3e4 (aCons 6e6 10e5))))))))) (mFn F_l_pick (aCons 2e1 10e5))) aNil)) (hName 11) (mSeq (mSet 12 (mFn F_l_event (aCons 2e1 (aCons (mTup (aCons 3e9 (aCons 7e4 8e8))) (aCons 7e7 (aCons 12e7 aNil)))))) (mIfS 11e4 (mDrop (mApp 9e4 (aCons (mVar 12) aNil))) mSkip))) (mSeq (mSet 13 (mTup aNil)) (mSeq (mIfS (mTest (mOp 9e8 10e1 3e4)) (mSeq (mSet 12 (mFn F_l_event (aCons 2e1 (aCons (mTup (aCons 3e9 (aCons 7e4 8e8))) (aCons 7e7 (aCons 12e7 aNil)))))) (mIfS 11e4 (mSet 13 (mTup (aCons (mVar 12) (aCons (mOp 4e2 1e9 10e0) aNil)))) mSkip)) mSkip) (mSeq (mSet 14 (mOp 3e5 (mVal (mLst (aCons (mOp 4e2 1e9 (mFn F_l_pick (aCons 2e1 (aCons (mC (.int 6)) aNil)))) (aCons (mOp 4e2 1e9 (mFn F_l_pick (aCons 2e1 (aCons (mC (.int 40)) aNil)))) aNil)))) 10e1)) (mDrop (mApp 7e8 (aCons (mTup (aCons (mVar 8) (aCons (mVar 9) (aCons 14e4 (aCons (mVar 14) (aCons (mCB (g1 tupH) (aCons 9e4 aNil)) (aCons (mVar 13) aNil))))))) aNil))))))))))) (mRet (mCB (g1 tupH) 12e9))))
def F_l_clauses:List SV->M SV:=mDef 5 10 (B_l_clauses)
abbrev B_l_town:PSt->M PF:=(mSeq (mNew 1 (mFnF FF_l_left (aCons 2e1 (aCons 1e9 aNil)))) (mSeq (mSet 2 (mFn F_l_words (aCons 3e9 (aCons (mC (.int 16)) aNil)))) (mSeq (mSet 3 (mOp 3e5 (mVal (mLst (aCons 1e9 (aCons 1e9 (aCons 2e6 (aCons 2e6 (aCons 6e6 (aCons 1e9 (aCons 2e6 (aCons (mC (.int 7)) aNil)))))))))) 4e8)) (mSeq (mNew 4 11e0) (mSeq (mFor (mRange1 11e9) (hName 5) (mSeq (mNew 1 (mFnF FF_l_left (aCons 2e1 (aCons (mOp 4e2 2e6 7e8) aNil)))) (mSeq (mSet 6 (mOp 3e5 (mVal (mLst (aCons 2e6 (aCons 6e6 (aCons 2e6 (aCons 6e6 (aCons 15e3 (aCons 2e6 (aCons 13e2 10e5))))))))) 4e8)) (mSeq (mSet 7 (mOp 3e5 (mVal (mLst (aCons 1e9 (aCons 2e6 (aCons 1e9 (aCons 6e6 (aCons 2e6 (aCons 15e3 (aCons (mC (.int 7)) (aCons (mC (.int 12)) aNil)))))))))) 4e8)) (mSeq (mSet 8 (mVal (mComp (mRange1 (aCons 14e4 aNil)) ["_law_c"] [1] 7e1 tOk (mOp 3e5 (mVal (mLst (aCons 1e9 (aCons 1e9 (aCons 2e6 (aCons 1e9 (aCons 6e6 (aCons 1e9 (aCons 2e6 (aCons (mC (.int 9)) aNil)))))))))) 4e8)))) (mDrop (mApp 7e7 (aCons (mTup (aCons 12e7 (aCons (mVar 8) (aCons (mFn F_l_pick (aCons 3e9 (aCons 6e6 aNil))) aNil)))) aNil)))))))) (mSeq (mNewK 9) (mSeq (mForE 14e9 (hTup (hCons (hName 5) (hCons (hName 10) hNil)) 2) (mSeq (mNew 1 (mFnF FF_l_left (aCons 2e1 (aCons (mOp 4e2 (mC (.int 9)) 7e8) aNil)))) (mSeq (mSet 11 4e8) (mSeq (mSet 6 (mCB (g1 tupH) (aCons (mVal (mComp (mRange1 (aCons (mOp 3e5 9e4 3e4) aNil)) ["_law_j"] [2,11] 7e1 tOk (mOp 3e5 3e9 (mOp (g2 modP) (mOp 4e2 5e8 2e1) (mC (.int 8)))))) aNil))) (mSeq (mSet 12 (mSlice (mVal (mComp (mRange1 11e9) ["_law_j"] [5] 7e1 (mTest (mOp (g2 neP) 2e1 3e9)) 2e1)) oNo (oPart (mOp 3e5 9e4 2e6)))) (mSeq (mSet 13 (mOp 4e2 (mOp 3e5 (mVal (mLst (aCons (mC (.int 12)) (aCons (mC (.int 30)) (aCons (mC (.int 60)) (aCons (mC (.int 1000)) aNil)))))) (mFn F_l_pick (aCons 3e9 (aCons 15e3 aNil)))) (mFn F_l_pick (aCons 3e9 (aCons 13e2 aNil))))) (mSeq (mSet 7 (mFn F_l_clauses (aCons 3e9 (aCons (mOp 3e5 9e4 3e4) (aCons (mOp 3e5 9e4 1e9) (aCons (mVal (mComp (mItems (mVar 12)) ["_law_j"] [4] 7e1 tOk (mOp 3e5 (mOp 3e5 3e9 2e1) 1e9))) 8e8)))))) (mSetIxK (mTup (aCons 12e7 (aCons (mCB (g1 tupH) (aCons (mVal (mComp (mItems (mVar 12)) ["_law_j"] [2] 7e1 tOk (mOp 3e5 3e9 (mOp 4e2 13e2 2e1)))) aNil)) (aCons (mVar 13) (aCons 14e4 aNil))))) (mVar 9) (mOp 3e5 5e8 (mOp 4e2 13e2 7e8)))))))))) (mRetQ (aCons (mOp 3e5 (mVal (mLst (aCons 3e4 (aCons 1e9 (aCons 2e6 (aCons 13e2 (aCons (mC (.int 30)) aNil))))))) (mFn F_l_pick (aCons 3e9 (aCons 13e2 aNil)))) (aCons (mVar 9) aNil))))))))))
def F_l_town:List SV->M SV:=mDef 1 13 (B_l_town)
abbrev B_l_deed:PSt->M PF:=(mSeq (mAsg 3e9 (hTup (hCons (hName 2) (hCons (hName 3) (hCons (hName 4) (hCons (hName 5) hNil)))) 4)) (mSeq (mSet 6 (mFn F_l_pick (aCons 2e1 (aCons (mC (.int 16)) aNil)))) (mSeq (mSet 7 (mFn F_l_pick (aCons 2e1 (aCons (mCB 9e3 12e9) aNil)))) (mSeq (mAsg (mOp 3e5 7e8 14e4) (hTup (hCons (hName 8) (hCons (hName 9) (hCons (hName 10) (hCons (hName 11) (hCons (hName 12) (hCons (hName 13) hNil)))))) 6)) (mSeq (mIfS (mTest (mOp (g2 ltP) 12e7 2e6)) (mRet (mTup (aCons (mC (.str "join")) aNil))) mSkip) (mSeq (mSet 14 (mVal (mComp (mItems (mOp 4e2 (mVar 12) (mSlice (mVar 13) oNo (oPart 1e9)))) ["_law_event_here"] [] 7e1 (mTest (mOp (g2 eqP) (mOp 3e5 2e1 3e4) (mC (.str "said")))) 2e1))) (mSeq (mIfS (mAndT (mTest (mOp (g2 ltP) 12e7 13e2)) (mTest (mOp 6e4 (mVar 14) (mVal 11e0)))) (mRet (mTup (aCons (mC (.str "say")) (aCons (mOp 3e5 (mOp 3e5 (mVar 14) (mFn F_l_pick (aCons 2e1 (aCons (mCB 9e3 (aCons (mVar 14) aNil)) aNil)))) 2e6) aNil)))) mSkip) (mSeq (mIfS (mTest (mOp (g2 ltP) 12e7 (mC (.int 9)))) (mRet (mTup (aCons (mC (.str "do")) (aCons 14e4 (aCons (mFn F_l_pick (aCons 2e1 (aCons 9e4 aNil))) aNil))))) mSkip) (mSeq (mIfS (mTest (mOp (g2 ltP) 12e7 (mC (.int 10)))) (mRet (mTup (aCons (mC (.str "free")) (aCons 14e4 aNil)))) mSkip) (mSeq (mIfS (mTest (mOp (g2 ltP) 12e7 (mC (.int 11)))) (mRet (mTup (aCons (mC (.str "ready")) (aCons 14e4 aNil)))) mSkip) (mSeq (mIfS (mTest (mOp (g2 ltP) 12e7 (mC (.int 12)))) (mRet (mTup (aCons (mC (.str "hand")) (aCons 14e4 (aCons (mOp 3e5 5e8 (mFn F_l_pick (aCons 2e1 (aCons (mCB 9e3 8e8) aNil)))) aNil))))) mSkip) (mSeq (mIfS (mTest (mOp (g2 ltP) 12e7 (mC (.int 13)))) (mRet (mTup (aCons (mC (.str "quit")) (aCons 14e4 aNil)))) mSkip) (mRet (mOp 3e5 (mVal (mLst (aCons (mTup (aCons (mC (.str "note")) aNil)) (aCons (mTup (aCons (mC (.str "say")) (aCons (mOp 3e5 5e8 3e4) aNil))) (aCons (mTup (aCons (mC (.str "join")) aNil)) aNil))))) (mOp (g2 subP) 12e7 (mC (.int 13)))))))))))))))))
def F_l_deed:List SV->M SV:=mDef 2 13 (B_l_deed)
abbrev B_l_name:PSt->M PF:=(mRet (mSlice 2e1 oNo (oPart 6e6)))
def F_l_name:List SV->M SV:=mDef 1 0 (B_l_name)
abbrev B_l_last:PSt->M PF:=(mSeq (mSet 3 (mVal (mComp (mItems 2e1) 5e7 [1,2] 7e1 (mTest (mOp 9e8 (mSlice 2e1 oNo (oPart 2e6)) (mTup (aCons 3e9 8e8)))) 2e1))) (mRet (mIf (mTest (mOp 6e4 7e4 (mVal 11e0))) (mOp 3e5 (mOp 3e5 7e4 (mNeg 1e9)) 2e6) 3e4)))
def F_l_last:List SV->M SV:=mDef 3 1 (B_l_last)
abbrev B_l_gots:PSt->M PF:=(mSeq (mSet 4 (mVal (mComp (mItems 3e9) 5e7 [2,3] 7e1 (mTest (mOp 6e4 (mSlice 2e1 oNo (oPart 2e6)) (mTup (aCons 3e9 8e8)))) 2e1))) (mSeq (mNewT 5) (mSeq (mFor (mRange1 (aCons (mOp (g2 mulP) (mOp 3e5 (mVal (mLst (aCons 3e4 (aCons 1e9 (aCons 1e9 (aCons 2e6 (aCons 6e6 (aCons 1e9 (aCons 2e6 (aCons (mC (.int 7)) aNil)))))))))) (mFn F_l_pick (aCons 2e1 10e5))) (mCB (g1 intH) (aCons (mOp 6e4 7e7 (mVal 11e0)) aNil))) aNil)) (hName 6) (mSeq (mSet 7 (mOp 4e2 (mFn F_l_pick (aCons 2e1 (aCons (mCB (g1 minH) (aCons (mCB 9e3 14e9) (aCons 13e2 aNil))) aNil))) 1e9)) (mSeq (mIfS (mTest (mOp (g2 eqP) (mFn F_l_pick (aCons 2e1 (aCons 15e3 aNil))) 3e4)) (mSet 7 (mOp 4e2 (mFn F_l_pick (aCons 2e1 (aCons (mCB 9e3 14e9) aNil))) 1e9)) mSkip) (mSetIxT (mC 14e3) 7e8 (mFn F_l_name (aCons (mOp 3e5 7e7 (mNeg 14e4)) aNil)))))) (mRet (mCB (g1 tupH) (aCons (mVal (mSorted3 12e9)) aNil))))))
def F_l_gots:List SV->M SV:=mDef 4 4 (B_l_gots)
abbrev B_l_letter:PSt->M PF:=(mSeq (mSet 4 (mVal (mSorted3 (aCons 16e3 aNil)))) (mSeq (mSet 5 (mOp 3e5 7e7 (mFn F_l_pick (aCons 2e1 (aCons (mCB 9e3 14e9) aNil))))) (mSeq (mSet 6 (mOp 3e5 (mOp 3e5 16e3 7e8) 3e4)) (mSeq (mSet 7 (mOp 3e5 (mOp 4e2 (mOp 4e2 12e7 12e7) (mTup (aCons (mC (.str "bell")) (aCons (mC (.str "stranger")) aNil)))) (mFn F_l_pick (aCons 2e1 (aCons (mOp 4e2 (mOp (g2 mulP) 2e6 (mCB 9e3 (aCons 12e7 aNil))) 2e6) aNil))))) (mSeq (mSet 8 (mVal (mComp (mItems 5e8) 5e7 [7,5] 7e1 (mTest (mOp 9e8 (mSlice 2e1 oNo (oPart 2e6)) (mTup (aCons 3e9 8e8)))) 2e1))) (mSeq (mSet 9 (mFn F_l_last (aCons 5e8 (aCons 14e4 12e9)))) (mSeq (mIfS (mAndT (mTest (mOp 6e4 (mVar 8) (mVal 11e0))) (mTest (mOp (g2 eqP) (mFn F_l_pick (aCons 2e1 (aCons (mC (.int 12)) aNil))) 3e4))) (mSet 9 (mOp 3e5 (mVal (mLst (aCons 3e4 (aCons (mOp 3e5 (mOp 3e5 (mVar 8) (mFn F_l_pick (aCons 2e1 (aCons (mCB 9e3 (aCons (mVar 8) aNil)) aNil)))) 2e6) aNil)))) 10e1)) mSkip) (mSeq (mSet 10 (mOp 4e2 (mCB 9e3 (aCons (mVar 8) aNil)) 1e9)) (mSeq (mIfS (mTest (mOp (g2 eqP) 10e0 3e4)) (mSet 10 (mOp 4e2 (mC (.int 50)) (mOp (g2 mulP) (mC (.int 7)) (mCB 9e3 8e8)))) mSkip) (mSeq (mIfS (mTest (mOp (g2 (inDP false)) 9e4 (mVal (mComp (mItems (mVar 8)) 5e7 [] 7e1 tOk (mOp 3e5 2e1 2e6))))) (mSet 10 (mOp 4e2 (mC (.int 900)) (mOp (g2 mulP) (mC (.int 7)) (mCB 9e3 8e8)))) mSkip) (mSeq (mSet 11 (mIf (mTest (mOp (g2 gtP) (mFn F_l_pick (aCons 2e1 (aCons (mC (.int 14)) aNil))) 3e4)) 7e4 (mCB (g1 maxH) (aCons 3e4 (aCons (mOp (g2 subP) (mOp (g2 subP) 7e4 1e9) 10e0) aNil))))) (mSeq (mSet 12 (mFn F_l_deed (aCons 2e1 (aCons (mOp 3e5 16e3 7e8) aNil)))) (mRet (mTup (aCons 14e4 (aCons 7e8 (aCons 9e4 (aCons (mVar 9) (aCons (mFn F_l_gots (aCons 2e1 (aCons 5e8 (aCons 14e4 12e9)))) (aCons (mVar 11) (aCons (mVar 12) aNil)))))))))))))))))))))
def F_l_letter:List SV->M SV:=mDef 4 9 (B_l_letter)
abbrev B_l_pile:PSt->M PF:=(mSeq (mNew 3 11e0) (mSeq (mSet 4 3e4) (mSeq (mFor (mItems (mVal (mSorted3 (aCons 16e3 aNil)))) (hName 5) (mFor (mItems (mOp 3e5 (mOp 3e5 16e3 7e8) 3e4)) (hName 6) (mIfS (mTest (mOp (g2 ltP) (mCB 9e3 11e9) 5e8)) (mDrop (mApp 7e4 (aCons (mTup (aCons 12e7 (aCons 7e8 (aCons 1e9 (aCons 3e4 (aCons (mTup aNil) (aCons 7e7 (aCons (mTup (aCons (mC (.str "join")) aNil)) aNil)))))))) aNil))) mSkip))) (mSeq (mFor (mRange1 (aCons (mOp (g2 subP) 5e8 (mCB 9e3 11e9)) aNil)) (hName 7) (mSeq (mNew 8 (mFnF FF_l_left (aCons 2e1 (aCons (mOp 4e2 (mC (.int 16)) 14e4) aNil)))) (mSeq (mSet 4 (mOp 4e2 7e7 (mOp 3e5 (mVal (mLst (aCons 3e4 (aCons 1e9 (aCons 1e9 (aCons 2e6 (aCons 6e6 (aCons 1e9 (aCons 3e4 (aCons (mC (.int 9)) aNil)))))))))) (mFn F_l_pick (aCons (mVar 8) 10e5))))) (mDrop (mApp 7e4 (aCons (mFnS F_l_letter [0] (aCons (mVar 8) (aCons 3e9 (aCons 7e4 14e9)))) aNil)))))) (mRet 7e4)))))
def F_l_pile:List SV->M SV:=mDef 3 6 (B_l_pile)
abbrev B_l_changed:PSt->M PF:=(mSeq (mIfS (mTest (mOp 9e8 3e9 (mVal 11e0))) (mRetF 11e0) mSkip) (mSeq (mSet 2 (mFn F_l_pick (aCons 2e1 (aCons (mCB 9e3 (aCons 3e9 aNil)) aNil)))) (mSeq (mAsg (mOp 3e5 3e9 5e8) (hTup (hCons (hName 3) (hCons (hName 4) (hCons (hName 5) (hCons (hName 6) (hCons (hName 7) (hCons (hName 8) (hCons (hName 9) hNil))))))) 7)) (mSeq (mSet 10 (mFn F_l_pick (aCons 2e1 (aCons (mC (.int 7)) aNil)))) (mSeq (mIfS (mTest (mOp 9e8 9e4 3e4)) (mRet (mOp 4e2 (mSlice 3e9 oNo (oPart 5e8)) (mSlice 3e9 (oPart (mOp 4e2 5e8 1e9)) oNo))) mSkip) (mSeq (mIfS (mTest (mOp 9e8 9e4 1e9)) (mSeq (mSet 11 (mTup (aCons 7e4 (aCons 7e7 (aCons 7e8 (aCons (mC (.int 777777)) (aCons 14e4 6e1))))))) (mRet (mOp 4e2 (mOp 4e2 (mSlice 3e9 oNo (oPart 5e8)) (mVal (mLst (aCons (mVar 11) aNil)))) (mSlice 3e9 (oPart (mOp 4e2 5e8 1e9)) oNo)))) mSkip) (mSeq (mIfS (mTest (mOp 9e8 9e4 2e6)) (mSeq (mSet 11 (mTup (aCons 7e4 (aCons 7e7 (aCons 7e8 (aCons 12e7 (aCons (mCB (g1 tupH) (aCons (mVal (mSorted3 (aCons (mOp 4e2 14e4 (mTup (aCons (mTup (aCons (mC (.str "zzzz")) (aCons (mC (.str "zzzz")) (aCons (mOp 4e2 1e9 5e8) aNil)))) aNil))) aNil))) aNil)) 6e1))))))) (mRet (mOp 4e2 (mOp 4e2 (mSlice 3e9 oNo (oPart 5e8)) (mVal (mLst (aCons (mVar 11) aNil)))) (mSlice 3e9 (oPart (mOp 4e2 5e8 1e9)) oNo)))) mSkip) (mSeq (mIfS (mTest (mOp 9e8 9e4 6e6)) (mSeq (mSet 11 (mTup (aCons 7e4 (aCons 7e7 (aCons 7e8 (aCons 7e8 (aCons 14e4 6e1))))))) (mRet (mOp 4e2 (mOp 4e2 (mSlice 3e9 oNo (oPart 5e8)) (mVal (mLst (aCons (mVar 11) aNil)))) (mSlice 3e9 (oPart (mOp 4e2 5e8 1e9)) oNo)))) mSkip) (mSeq (mIfS (mTest (mOp 9e8 9e4 15e3)) (mRet (mOp 4e2 3e9 (mVal (mLst (aCons (mTup (aCons (mC (.str "stranger")) (aCons 7e7 (aCons (mC (.int 5001)) (aCons (mC (.int 5002)) (aCons (mTup aNil) 6e1)))))) (aCons (mTup (aCons (mC (.str "stranger")) (aCons 7e7 (aCons (mC (.int 5002)) (aCons (mC (.int 5001)) (aCons (mTup aNil) 6e1)))))) aNil)))))) mSkip) (mSeq (mIfS (mTest (mOp 9e8 9e4 13e2)) (mRet (mOp 4e2 3e9 (mVal (mLst (aCons (mTup (aCons (mC (.str "visitor")) (aCons 7e7 (aCons (mC (.int 5001)) (aCons 3e4 (aCons (mTup (aCons (mTup (aCons 7e4 (aCons 7e7 12e9))) aNil)) 6e1)))))) aNil))))) mSkip) (mRet (mOp 4e2 3e9 (mVal (mLst (aCons (mTup (aCons (mC (.str "visitor")) (aCons 7e7 (aCons (mC (.int 5001)) (aCons 3e4 (aCons (mTup (aCons (mTup (aCons 7e4 (aCons 7e7 12e9))) (aCons (mTup (aCons 7e4 (aCons 7e7 (aCons (mOp 4e2 7e8 (mOp (g2 powP) (mC (.int 10)) (mC (.int 9)))) aNil)))) aNil))) 6e1)))))) aNil)))))))))))))))
def F_l_changed:List SV->M SV:=mDef 2 10 (B_l_changed)
abbrev B_l_due:PSt->M PF:=(mSeq (mSet 1 (mVal (mComp (mItems 2e1) 5e7 [] 7e1 tOk (mSlice 2e1 oNo (oPart 6e6))))) (mSeq (mFor (mItems 2e1) (hName 2) (mSeq (mIfS (mAndT (mTest (mOp (g2 gtP) (mOp 3e5 5e8 6e6) 3e4)) (mTest (mOp (g2 (inDP true)) (mTup (aCons (mOp 3e5 5e8 3e4) (aCons (mOp 3e5 5e8 1e9) (aCons (mOp 3e5 5e8 6e6) aNil)))) 3e9))) 16e2 mSkip) (mIfS (mTest (mOp 6e4 (mVal (mComp (mItems (mOp 3e5 5e8 15e3)) ["_law_got"] [1] 7e1 (mTest (mOp (g2 (inDP true)) 2e1 3e9)) 2e1)) (mVal 11e0))) 16e2 mSkip))) (mRet (mC 14e3))))
def F_l_due:List SV->M SV:=mDef 1 2 (B_l_due)
abbrev B_l_is:PSt->M PF:=(mSeq (mSet 2 (mVal (mList 13e7))) (mSeq (mFor (mRange1 (aCons 2e6 aNil)) (hName 3) (mSeq (mSet 4 (mFn F_is_whole 13e7)) (mIfS (mOrT (mNotT (mTru (mCB (g1 isiH) (aCons 7e7 (aCons (mC (.ty "bool")) aNil))))) (mTest (mOp 6e4 7e7 3e9))) 16e2 mSkip))) (mRet (mOp 9e8 2e1 5e8))))
def F_l_is:List SV->M SV:=mDef 2 3 (B_l_is)
abbrev B_law:PSt->M PF:=(mSeq (mSet 1 (mFn F_l_town 13e7)) (mSeq (mNew 2 (mFnF FF_l_left (aCons 2e1 (aCons (mC (.int 50)) aNil)))) (mSeq (mSet 3 (mFn F_l_pile (aCons 2e1 (aCons 3e9 (aCons (mFn F_l_pick (aCons 5e8 (aCons (mC (.int 33)) aNil))) aNil))))) (mSeq (mSet 4 (mFn F_l_pick (aCons 5e8 (aCons (mOp 4e2 (mCB 9e3 11e9) 1e9) aNil)))) (mSeq (mIfS (mOrT (mNotT (mTru (mFn F_l_is (aCons (mVal 11e0) (aCons (mC 14e3) aNil))))) (mOrT (mNotT (mTru (mFn F_l_is (aCons 7e4 (aCons (mC 14e3) aNil))))) (mNotT (mTru (mFn F_l_is (aCons (mOp 4e2 (mSlice 7e4 (oPart 7e7) oNo) 7e4) (aCons (mC 14e3) aNil))))))) 16e2 mSkip) (mSeq (mFor (mRange2 (aCons 1e9 (aCons (mOp 4e2 2e6 (mCB 9e3 (aCons (mSlice 2e1 (oPart 1e9) (oPart (mC (.int 16)))) aNil))) aNil))) (hName 5) (mSeq (mSet 6 (mFnN F_l_changed (mFnF FF_l_left (aCons 2e1 (aCons (mOp 4e2 (mC (.int 51)) 7e8) aNil))) 11e9)) (mIfS (mOrT (mNotT (mTru (mFn F_l_is (aCons 12e7 (aCons (mFn F_l_due (aCons 12e7 aNil)) aNil))))) (mNotT (mTru (mFn F_l_is (aCons (mVal (mListRev 12e7)) (aCons (mFn F_l_due (aCons 12e7 aNil)) aNil)))))) 16e2 mSkip))) (mRet (mC 14e3))))))))
def F_law:List SV->M SV:=mDef 1 6 (B_law)
def top (i:Nat):Stmt:=PySem.Challenge.pw_holdword_k16_whole_or_not.main.body.getD i (.Pass ⟨0,0,0,0⟩)
structure Txt (mg:Str->Option Value):Prop where
 b_bool:mg "bool"=none
 b_enumerate:mg "enumerate"=none
 b_int:mg "int"=none
 b_isinstance:mg "isinstance"=none
 b_len:mg "len"=none
 b_list:mg "list"=none
 b_max:mg "max"=none
 b_min:mg "min"=none
 b_range:mg "range"=none
 b_reversed:mg "reversed"=none
 b_sorted:mg "sorted"=none
 b_tuple:mg "tuple"=none
section
variable {P:YC}{w:World}{K:W.Frag}{mg:3e1}{base:Heap}
abbrev ZcU:Stmt:=top 1
theorem sc_name_of:FnScope ["letter"] ["letter"] (defScope ZcU):=1e4
theorem ln0 {P:List Value->Prop}(h:P []):∀us:List Value,us.length=0->P us:=by
 intro us hl
 cases us with
 | nil=>exact h
 | cons a r=>simp at hl
theorem ln1 {P:List Value->Prop}(h:∀a,P [a]):∀us:List Value,us.length=1->P us:=by
 intro us hl
 cases us with
 | nil=>simp at hl
 | cons a r=>exact ln0 (P:=fun r=>P (a::r)) (h a) r (by simpa using hl)
theorem ln2 {P:List Value->Prop}(h:∀a b,P [a,b]):∀us:List Value,us.length=2->P us:=by
 intro us hl
 cases us with
 | nil=>simp at hl
 | cons a r=>exact ln1 (P:=fun r=>P (a::r)) (h a) r (by simpa using hl)
theorem ln3 {P:List Value->Prop}(h:∀a b c,P [a,b,c]):∀us:List Value,us.length=3->P us:=by
 intro us hl
 cases us with
 | nil=>simp at hl
 | cons a r=>exact ln2 (P:=fun r=>P (a::r)) (h a) r (by simpa using hl)
theorem ln4 {P:List Value->Prop}(h:∀a b c d,P [a,b,c,d]):∀us:List Value,us.length=4->P us:=by
 intro us hl
 cases us with
 | nil=>simp at hl
 | cons a r=>exact ln3 (P:=fun r=>P (a::r)) (h a) r (by simpa using hl)
theorem ln5 {P:List Value->Prop}(h:∀a b c d e,P [a,b,c,d,e]):∀us:List Value,us.length=5->P us:=by
 intro us hl
 cases us with
 | nil=>simp at hl
 | cons a r=>exact ln4 (P:=fun r=>P (a::r)) (h a) r (by simpa using hl)
theorem ok_name_of (Fn:Hd.FnAt K mg "name_of" ZcU)(T:Txt mg):Cal P w K mg base 1 "name_of" ["letter"] (liftSp K (F_name_of)):=
 ZaG Fn sc_name_of 11e3 fun _ cdv A outer s H E hr=>(@Zai _ _ _ (@Zar _ _ _ _ (ZaB (Zab 0) ZaJ (ZaF Zac))))
end
section
variable {P:YC}{w:World}{K:W.Frag}{mg:3e1}{base:Heap}
abbrev ZcX:Stmt:=top 3
theorem sc_by_name:FnScope ["pile"] ["pile"] (defScope ZcX):=1e4
theorem ok_by_name (Fn:Hd.FnAt K mg "by_name" ZcX)(T:Txt mg)(c_name_of:Cal P w K mg base 1 "name_of" ["letter"] (liftSp K F_name_of)):Cal P w K mg base 2 "by_name" ["pile"] (liftSp K (F_by_name)):=
 ZaG Fn sc_by_name 11e3 fun _ cdv A outer s H E hr=>(@Zai _ _ _ (@Zar _ _ _ _ (q_em_compD (vs:=["letter"]) (fs:=[]) (fr:=[]) 4e7 rfl 14e2 (ZaT (Zab 0)) (fun _ _ _ _ _=>(Zak (i:=0) (show ((["letter"]:List Str)++([]:List Str)).Nodup by decide +kernel) rfl 2e2)) (fun _ _ _ _ _=>Zbe) (fun _ _ _ _ _=>(Zaf c_name_of 3e6 1e0 10e4)) (fun _ _ _ _ _=>(Zab 0)))))
end
section
variable {P:YC}{w:World}{K:W.Frag}{mg:3e1}{base:Heap}
abbrev Zcr:Stmt:=top 4
theorem sc_followed:FnScope ["letter"] ["letter"] (defScope Zcr):=1e4
theorem ok_followed (Fn:Hd.FnAt K mg "followed" Zcr)(T:Txt mg):Cal P w K mg base 1 "followed" ["letter"] (liftSp K (F_followed)):=
 ZaG Fn sc_followed 11e3 fun _ cdv A outer s H E hr=>(@Zai _ _ _ (@Zar _ _ _ _ (Zao (@Zaa _ _ _ _ _ 13e0 (@Zaa _ _ _ _ _ 13e0 (@Zaa _ _ _ _ _ 13e0 Zad 1e0) 1e0) 1e0))))
end
section
variable {P:YC}{w:World}{K:W.Frag}{mg:3e1}{base:Heap}
abbrev Zcs:Stmt:=top 5
theorem ZcT:FnScope ["letter","gots"] ["letter"] (defScope Zcs):=1e4
theorem ok_asked_by (Fn:Hd.FnAt K mg "asked_by" Zcs)(T:Txt mg)(c_followed:Cal P w K mg base 1 "followed" ["letter"] (liftSp K F_followed)):Cal P w K mg base 2 "asked_by" ["letter"] (liftSp K (F_asked_by)):=
 ZaG Fn ZcT 11e3 fun _ cdv A outer s H E hr=>(@Zae _ _ _ _ _ (Zaj (i:=1) ZcT.nd rfl 2e2 (Zau (Zdw 1e0 T.b_list 1e0 (@Zaa _ _ _ _ _ 13e0 Zad 1e0)))) (@Zai _ _ _ (@Zar _ _ _ _ (q_em_if (Zap op_eq eq_ok.r 13e0 Zac 7e6) (Zab 1) (Zam (Zau (Zat (@Zaa _ _ _ _ _ (Zaf c_followed 3e6 1e0 10e4) Zad 1e0))) (Zab 1))))))
end
section
variable {P:YC}{w:World}{K:W.Frag}{mg:3e1}{base:Heap}
abbrev s_gaps:Stmt:=top 6
theorem sc_gaps:FnScope ["pile","letters"] ["pile"] (defScope s_gaps):=1e4
theorem ok_gaps (Fn:Hd.FnAt K mg "gaps" s_gaps)(T:Txt mg)(c_by_name:Cal P w K mg base 2 "by_name" ["pile"] (liftSp K F_by_name))(c_asked_by:Cal P w K mg base 2 "asked_by" ["letter"] (liftSp K F_asked_by)):Cal P w K mg base 3 "gaps" ["pile"] (liftSp K (F_gaps)):=
 ZaG Fn sc_gaps 11e3 fun _ cdv A outer s H E hr=>(@Zae _ _ _ _ _ (Zaj (i:=1) sc_gaps.nd rfl (Or.inr rfl) (Zaf c_by_name 3e6 1e0 10e4)) (@Zai _ _ _ (ZbF (q_fm_sortset (vs:=["letter","name"]) (fs:=["letters"]) (fr:=[1]) 4e7 rfl 14e2 1e0 T.b_sorted 1e0 (ZaT (Zab 0)) (fun _ _ _ _ _=>(Zak (i:=0) (show ((["letter","name"]:List Str)++(["letters"]:List Str)).Nodup by decide +kernel) rfl 2e2)) (fun _ _ _ _ _=>(ZaT (Zaf c_asked_by 3e6 1e0 10e4))) (fun _ _ _ _ _=>(Zak (i:=1) (show ((["letter","name"]:List Str)++(["letters"]:List Str)).Nodup by decide +kernel) rfl 2e2)) (fun _ _ _ _ _=>(Zbv (Zap (op_notInT 14e2) inT_ok.r (Zab 1) (Zab 2) rfl))) (fun _ _ _ _ _=>(Zab 1))))))
end
section
variable {P:YC}{w:World}{K:W.Frag}{mg:3e1}{base:Heap}
abbrev Zcq:Stmt:=top 7
theorem sc_is_whole:FnScope ["pile"] ["pile"] (defScope Zcq):=1e4
theorem ok_is_whole (Fn:Hd.FnAt K mg "is_whole" Zcq)(T:Txt mg)(c_gaps:Cal P w K mg base 3 "gaps" ["pile"] (liftSp K F_gaps)):Cal P w K mg base 4 "is_whole" ["pile"] (liftSp K (F_is_whole)):=
 ZaG Fn sc_is_whole 11e3 fun _ cdv A outer s H E hr=>(@Zai _ _ _ (@Zar _ _ _ _ (q_em_cmp (ZbB 14e2) ZaV.r (Zaf c_gaps 3e6 1e0 10e4) (Zau (Zat Zad)) 7e6)))
end
section
variable {P:YC}{w:World}{K:W.Frag}{mg:3e1}{base:Heap}
abbrev Zb0:Stmt:=top 9
theorem sc_l_cell_at:FnScope 11e7 11e7 (defScope Zb0):=1e4
theorem ok_l_cell_at (Fn:Hd.FnAt K mg "_law_cell_at" Zb0)(T:Txt mg):Cal P w K mg base 1 "_law_cell_at" 11e7 (liftSp K (F_l_cell_at)):=
 ZaG Fn sc_l_cell_at 13e3 fun _ cdv A outer s H E hr=>(@Zae _ _ _ _ _ (@Zaz _ _ _ _ _ _ _ _ (Zap Zc2 Zc6.r (Zab 1) (ZaI 1e0 T.b_len 10e4) 7e6) (@Zai _ _ _ (@Zar _ _ _ _ (Zah 6e5 (Zab 0) (Zab 1)))) Zaw) (@Zai _ _ _ (@Zar _ _ _ _ Zac)))
end
section
variable {P:YC}{w:World}{K:W.Frag}{mg:3e1}{base:Heap}
abbrev ZcE:Stmt:=top 10
theorem Za5:FnScope ["_law_script","_law_k","_law_cell","_law_seed"] 11e7 (defScope ZcE):=1e4
theorem ok_l_left (Fn:Hd.FnAt K mg "_law_left" ZcE)(T:Txt mg)(c__law_cell_at:Cal P w K mg base 1 "_law_cell_at" 11e7 (liftSp K F_l_cell_at)):Cal P w K mg base 2 "_law_left" 11e7 (liftSp K (F_l_left)):=
 ZaG Fn Za5 13e3 fun _ cdv A outer s H E hr=>(@Zae _ _ _ _ _ (Zaj (i:=2) Za5.nd rfl 2e2 (Zaf c__law_cell_at 3e6 1e0 (@Zaa _ _ _ _ _ (Zab 0) (@Zaa _ _ _ _ _ (ZaM (Zab 1) (q_em_max rfl 1e0 T.b_max 1e0 (@Zaa _ _ _ _ _ Zac (@Zaa _ _ _ _ _ (ZaI 1e0 T.b_len 10e4) Zad 1e0) 1e0))) Zad 1e0) 1e0))) (@Zae _ _ _ _ _ (Zaj (i:=3) Za5.nd rfl 2e2 (ZaM (ZaX (Zam (Zam (ZaM (Zab 2) Zac) (ZaX (ZaX Zac (Zab 1)) (Zab 1))) Zac) Zac) Zac)) (@Zae _ _ _ _ _ (@Zaz _ _ _ _ _ _ _ _ (Zap op_eq eq_ok.r (ZaM (Zaf c__law_cell_at 3e6 1e0 (@Zaa _ _ _ _ _ (Zab 0) 5e2 1e0)) Zac) Zac 7e6) (@Zai _ _ _ (Zaj (i:=2) Za5.nd rfl 2e2 Zac)) Zaw) (@Zai _ _ _ (ZbF (Zat (@Zaa _ _ _ _ _ (ZaM (Zab 2) (q_em_pow Zac Zac)) 16e0 1e0)))))))
theorem okF_l_left (Fn:Hd.FnAt K mg "_law_left" ZcE)(T:Txt mg)(c__law_cell_at:Cal P w K mg base 1 "_law_cell_at" 11e7 (liftSp K F_l_cell_at)):Cal P w K mg base 2 "_law_left" 11e7 (liftSpF K (FF_l_left)):=
 q_fn_calF Fn Za5 13e3 fun _ cdv A outer s H E hr=>(@Zae _ _ _ _ _ (Zaj (i:=2) Za5.nd rfl 2e2 (Zaf c__law_cell_at 3e6 1e0 (@Zaa _ _ _ _ _ (Zab 0) (@Zaa _ _ _ _ _ (ZaM (Zab 1) (q_em_max rfl 1e0 T.b_max 1e0 (@Zaa _ _ _ _ _ Zac (@Zaa _ _ _ _ _ (ZaI 1e0 T.b_len 10e4) Zad 1e0) 1e0))) Zad 1e0) 1e0))) (@Zae _ _ _ _ _ (Zaj (i:=3) Za5.nd rfl 2e2 (ZaM (ZaX (Zam (Zam (ZaM (Zab 2) Zac) (ZaX (ZaX Zac (Zab 1)) (Zab 1))) Zac) Zac) Zac)) (@Zae _ _ _ _ _ (@Zaz _ _ _ _ _ _ _ _ (Zap op_eq eq_ok.r (ZaM (Zaf c__law_cell_at 3e6 1e0 (@Zaa _ _ _ _ _ (Zab 0) 5e2 1e0)) Zac) Zac 7e6) (@Zai _ _ _ (Zaj (i:=2) Za5.nd rfl 2e2 Zac)) Zaw) (@Zai _ _ _ (ZbF (Zat (@Zaa _ _ _ _ _ (ZaM (Zab 2) (q_em_pow Zac Zac)) 16e0 1e0)))))))
end
section
variable {P:YC}{w:World}{K:W.Frag}{mg:3e1}{base:Heap}
abbrev s_l_pick:Stmt:=top 11
theorem sc_l_pick:FnScope ["_law_left_here","_law_many","_law_digit"] ["_law_left_here","_law_many"] (defScope s_l_pick):=1e4
theorem ok_l_pick (Fn:Hd.FnAt K mg "_law_pick" s_l_pick)(T:Txt mg):Cal P w K mg base 1 "_law_pick" ["_law_left_here","_law_many"] (liftSp K (F_l_pick)):=
 ZaG Fn sc_l_pick 13e3 fun _ cdv A outer s H E hr=>(@Zae _ _ _ _ _ (@Zaz _ _ _ _ _ _ _ _ (Zap op_gt gt_ok.r 13e0 Zac 7e6) (@Zae _ _ _ _ _ (Zaj (i:=2) sc_l_pick.nd rfl 2e2 (ZaM 13e0 (Zab 1))) (@Zae _ _ _ _ _ (Zdv (q_em_fdiv 13e0 (Zab 1)) (Zab 0) Zac) (@Zai _ _ _ (@Zar _ _ _ _ (Zab 2))))) Zaw) (@Zae _ _ _ _ _ (Zdv (ZaM (Zam (ZaX 13e0 Zac) Zac) Zac) (Zab 0) Zac) (@Zai _ _ _ (@Zar _ _ _ _ (ZaM (ZaM (ZaX 13e0 13e0) Zac) (Zab 1))))))
end
section
variable {P:YC}{w:World}{K:W.Frag}{mg:3e1}{base:Heap}
abbrev ZcV:Stmt:=top 12
theorem ZbP:FnScope ["_law_left_here","_law_many","_law_letters","_law_first","_law_step"] ["_law_left_here","_law_many"] (defScope ZcV):=1e4
theorem ok_l_words (Fn:Hd.FnAt K mg "_law_words" ZcV)(T:Txt mg)(c__law_pick:5e0):Cal P w K mg base 2 "_law_words" ["_law_left_here","_law_many"] (liftSp K (F_l_words)):=
 ZaG Fn ZbP 13e3 fun _ cdv A outer s H E hr=>(@Zae _ _ _ _ _ (Zaj (i:=2) ZbP.nd rfl (Or.inr rfl) Zay) (@Zae _ _ _ _ _ (Zaj (i:=3) ZbP.nd rfl (Or.inr rfl) 1e6) (@Zae _ _ _ _ _ (Zaj (i:=4) ZbP.nd rfl (Or.inr rfl) (Zah 6e5 (Zau (Zat (@Zaa _ _ _ _ _ Zac (@Zaa _ _ _ _ _ Zac (@Zaa _ _ _ _ _ Zac (@Zaa _ _ _ _ _ Zac (@Zaa _ _ _ _ _ Zac 5e2 1e0) 1e0) 1e0) 1e0) 1e0))) 1e6)) (@Zai _ _ _ (ZbF (Za6 (vs:=["_law_k"]) (fs:=["_law_letters","_law_first","_law_step"]) (fr:=[2,3,4]) 4e7 rfl (ZaU 1e0 T.b_range (@Zaa _ _ _ _ _ (Zab 1) Zad 1e0)) (fun _ _ _ _ _=>(Zak (i:=0) (show ((["_law_k"]:List Str)++(["_law_letters","_law_first","_law_step"]:List Str)).Nodup by decide +kernel) rfl 2e2)) (fun _ _ _ _ _=>Zbe) (fun _ _ _ _ _=>(Zam (Zah 6e5 (Zab 1) (ZaM (Zam (Zab 2) (ZaX (Zab 3) (Zab 0))) Zac)) (Zah 6e5 (Zau (Zat (@Zaa _ _ _ _ _ Zay (@Zaa _ _ _ _ _ Zay (@Zaa _ _ _ _ _ Zay (@Zaa _ _ _ _ _ Zay Zad 1e0) 1e0) 1e0) 1e0))) (ZaM (Zam (Zab 2) (ZaX (Zab 0) (Zab 0))) Zac))))))))))
end
section
variable {P:YC}{w:World}{K:W.Frag}{mg:3e1}{base:Heap}
abbrev ZcW:Stmt:=top 13
theorem Za0:FnScope ["_law_left_here","_law_deal","_law_named","_law_own","_law_houses","_law_others","_law_clauses_here","_law_way","_law_k","_law_sizes","_law_c"] ["_law_left_here","_law_deal","_law_named","_law_own"] (defScope ZcW):=1e4
theorem ok_l_event (Fn:Hd.FnAt K mg "_law_event" ZcW)(T:Txt mg)(c__law_pick:5e0):Cal P w K mg base 2 "_law_event" ["_law_left_here","_law_deal","_law_named","_law_own"] (liftSp K (F_l_event)):=
 ZaG Fn Za0 (fun _ _ _ _ _ _=>ln4 fun _ _ _ _=>rfl) fun _ cdv A outer s H E hr=>(@Zae _ _ _ _ _ (ZcG (Zab 1) (ZbT rfl (Zav (Zak (i:=4) Za0.nd rfl 2e2) (Zav (Zak (i:=5) Za0.nd rfl 2e2) (Zav (Zak (i:=6) Za0.nd rfl 2e2) Zbq))))) (@Zae _ _ _ _ _ (Zaj (i:=7) Za0.nd rfl 2e2 1e6) (@Zae _ _ _ _ _ (@Zaz _ _ _ _ _ _ _ _ (Zap Zc2 Zc6.r (Zab 7) Zac 7e6) (@Zai _ _ _ (@Zar _ _ _ _ (Zao (@Zaa _ _ _ _ _ Zay (@Zaa _ _ _ _ _ (Zaf c__law_pick 3e6 1e0 (@Zaa _ _ _ _ _ (Zab 0) 15e8 1e0)) Zad 1e0) 1e0)))) Zaw) (@Zae _ _ _ _ _ (@Zaz _ _ _ _ _ _ _ _ (Zap Zc2 Zc6.r (Zab 7) Zac 7e6) (@Zai _ _ _ (@Zar _ _ _ _ (Zao (@Zaa _ _ _ _ _ Zay (@Zaa _ _ _ _ _ (Zaf c__law_pick 3e6 1e0 (@Zaa _ _ _ _ _ (Zab 0) 15e8 1e0)) (@Zaa _ _ _ _ _ (Zah 6e5 (Zab 2) 1e6) Zad 1e0) 1e0) 1e0)))) Zaw) (@Zae _ _ _ _ _ (Zaj (i:=8) Za0.nd rfl 2e2 (Zaf c__law_pick 3e6 1e0 (@Zaa _ _ _ _ _ (Zab 0) (@Zaa _ _ _ _ _ (Zam (ZaI 1e0 T.b_len 15e9) Zac) Zad 1e0) 1e0))) (@Zae _ _ _ _ _ (Zaj (i:=9) Za0.nd rfl 2e2 (Zah 6e5 (Zam (Zau (Zat (@Zaa _ _ _ _ _ (Zab 6) Zad 1e0))) (Zab 5)) (Zab 8))) (@Zae _ _ _ _ _ (Zaj (i:=10) Za0.nd rfl 2e2 (Zaf c__law_pick 3e6 1e0 (@Zaa _ _ _ _ _ (Zab 0) (@Zaa _ _ _ _ _ (ZaI 1e0 T.b_len (@Zaa _ _ _ _ _ (Zab 9) Zad 1e0)) Zad 1e0) 1e0))) (@Zae _ _ _ _ _ (@Zaz _ _ _ _ _ _ _ _ (Zc0 (ZcF (Zap op_eq eq_ok.r (Zab 8) Zac 7e6) (Zca (Zap op_eq eq_ok.r (Zab 10) (Zab 3) 7e6)))) (@Zai _ _ _ (@Zar _ _ _ _ (Zao (@Zaa _ _ _ _ _ Zay (@Zaa _ _ _ _ _ (Zaf c__law_pick 3e6 1e0 (@Zaa _ _ _ _ _ (Zab 0) 15e8 1e0)) Zad 1e0) 1e0)))) Zaw) (@Zai _ _ _ (@Zar _ _ _ _ (Zao (@Zaa _ _ _ _ _ Zay (@Zaa _ _ _ _ _ (Zab 8) (@Zaa _ _ _ _ _ (Zab 10) (@Zaa _ _ _ _ _ (Zaf c__law_pick 3e6 1e0 (@Zaa _ _ _ _ _ (Zab 0) (@Zaa _ _ _ _ _ (Zah 6e5 (Zab 9) (Zab 10)) Zad 1e0) 1e0)) Zad 1e0) 1e0) 1e0) 1e0))))))))))))
end
section
variable {P:YC}{w:World}{K:W.Frag}{mg:3e1}{base:Heap}
abbrev ZbY:Stmt:=top 14
theorem ZaC:FnScope ["_law_left_here","_law_houses","_law_sizes","_law_others","_law_named","_law_clauses_here","_law_c","_law_parts","_law_debtor","_law_creditor","_law_events","_law_k","_law_event_here","_law_leave","_law_within"] ["_law_left_here","_law_houses","_law_sizes","_law_others","_law_named"] (defScope ZbY):=1e4
theorem ok_l_clauses (Fn:Hd.FnAt K mg "_law_clauses" ZbY)(T:Txt mg)(c__law_pick:5e0)(c__law_event:Cal P w K mg base 2 "_law_event" ["_law_left_here","_law_deal","_law_named","_law_own"] (liftSp K F_l_event)):Cal P w K mg base 3 "_law_clauses" ["_law_left_here","_law_houses","_law_sizes","_law_others","_law_named"] (liftSp K (F_l_clauses)):=
 ZaG Fn ZaC (fun _ _ _ _ _ _=>ln5 fun _ _ _ _ _=>rfl) fun _ cdv A outer s H E hr=>(@Zae _ _ _ _ _ (Za8 (i:=5) ZaC.nd rfl 2e2 (Zat Zad)) (@Zae _ _ _ _ _ (Za3 XE rfl (q_im_enum 1e0 T.b_enumerate 11e2) (ZbT rfl (Zav (Zak (i:=6) ZaC.nd rfl 2e2) (Zav (Zak (i:=7) ZaC.nd rfl 2e2) Zbq))) (@Zae _ _ _ _ _ (Zaj (i:=8) ZaC.nd rfl 2e2 (Zaf c__law_pick 3e6 1e0 (@Zaa _ _ _ _ _ (Zab 0) (@Zaa _ _ _ _ _ (Zab 1) Zad 1e0) 1e0))) (@Zae _ _ _ _ _ (Zaj (i:=9) ZaC.nd rfl 2e2 (ZaM (Zam (Zam (Zab 8) Zac) (Zaf c__law_pick 3e6 1e0 (@Zaa _ _ _ _ _ (Zab 0) (@Zaa _ _ _ _ _ (Zcb (Zab 1) Zac) Zad 1e0) 1e0))) (Zab 1))) (@Zae _ _ _ _ _ (Za8 (i:=10) ZaC.nd rfl 2e2 (Zat Zad)) (@Zae _ _ _ _ _ (Za3 XE rfl (ZaU 1e0 T.b_range (@Zaa _ _ _ _ _ (Zah 6e5 3e3 1e6) Zad 1e0)) (Zak (i:=11) ZaC.nd rfl 2e2) (@Zae _ _ _ _ _ (Zaj (i:=12) ZaC.nd rfl 2e2 (Zaf c__law_event 3e6 1e0 (@Zaa _ _ _ _ _ (Zab 0) (@Zaa _ _ _ _ _ (Zao (@Zaa _ _ _ _ _ (Zab 1) (@Zaa _ _ _ _ _ (Zab 3) 11e2 1e0) 1e0)) (@Zaa _ _ _ _ _ (Zab 4) (@Zaa _ _ _ _ _ (Zab 6) Zad 1e0) 1e0) 1e0) 1e0))) (@Zai _ _ _ (@Zaz _ _ _ _ _ _ _ _ (Zap (Zcd 14e2) inD_ok.r (Zab 12) (Zab 10) rfl) (@Zai _ _ _ (ZbG (Zbc (Zab 10) (@Zaa _ _ _ _ _ (Zab 12) Zad 1e0)))) Zaw)))) (@Zae _ _ _ _ _ (Zaj (i:=13) ZaC.nd rfl 2e2 (Zao Zad)) (@Zae _ _ _ _ _ (@Zaz _ _ _ _ _ _ _ _ (Zap (ZbB 14e2) ZaV.r 1e6 Zac 7e6) (@Zae _ _ _ _ _ (Zaj (i:=12) ZaC.nd rfl 2e2 (Zaf c__law_event 3e6 1e0 (@Zaa _ _ _ _ _ (Zab 0) (@Zaa _ _ _ _ _ (Zao (@Zaa _ _ _ _ _ (Zab 1) (@Zaa _ _ _ _ _ (Zab 3) 11e2 1e0) 1e0)) (@Zaa _ _ _ _ _ (Zab 4) (@Zaa _ _ _ _ _ (Zab 6) Zad 1e0) 1e0) 1e0) 1e0))) (@Zai _ _ _ (@Zaz _ _ _ _ _ _ _ _ (Zap (Zcd 14e2) inD_ok.r (Zab 12) (Zab 10) rfl) (@Zai _ _ _ (Zaj (i:=13) ZaC.nd rfl 2e2 (Zao (@Zaa _ _ _ _ _ (Zab 12) (@Zaa _ _ _ _ _ (Zam Zac 1e6) Zad 1e0) 1e0)))) Zaw))) Zaw) (@Zae _ _ _ _ _ (Zaj (i:=14) ZaC.nd rfl 2e2 (Zah 6e5 (Zau (Zat (@Zaa _ _ _ _ _ (Zam Zac 1e6) (@Zaa _ _ _ _ _ (Zam Zac 1e6) Zad 1e0) 1e0))) 1e6)) (@Zai _ _ _ (ZbG (Zbc (Zab 5) (@Zaa _ _ _ _ _ (Zao (@Zaa _ _ _ _ _ (Zab 8) (@Zaa _ _ _ _ _ (Zab 9) (@Zaa _ _ _ _ _ (Zab 7) (@Zaa _ _ _ _ _ (Zab 14) (@Zaa _ _ _ _ _ (Zbr 1e0 T.b_tuple 1e0 (@Zaa _ _ _ _ _ (Zab 10) Zad 1e0)) (@Zaa _ _ _ _ _ (Zab 13) Zad 1e0) 1e0) 1e0) 1e0) 1e0) 1e0)) Zad 1e0)))))))))))) (@Zai _ _ _ (@Zar _ _ _ _ (Zbr 1e0 T.b_tuple 1e0 15e9)))))
end
section
variable {P:YC}{w:World}{K:W.Frag}{mg:3e1}{base:Heap}
abbrev s_l_town:Stmt:=top 15
theorem ZaE:FnScope ["_law_script","_law_left_here","_law_words_here","_law_many","_law_shapes","_law_k","_law_houses","_law_clauses_here","_law_sizes","_law_deals","_law_shape","_law_start","_law_others","_law_close"] ["_law_script"] (defScope s_l_town):=1e4
theorem ok_l_town (Fn:Hd.FnAt K mg "_law_town" s_l_town)(T:Txt mg)(cF__law_left:Cal P w K mg base 2 "_law_left" 11e7 (liftSpF K FF_l_left))(c__law_words:Cal P w K mg base 2 "_law_words" ["_law_left_here","_law_many"] (liftSp K F_l_words))(c__law_pick:5e0)(c__law_clauses:Cal P w K mg base 3 "_law_clauses" ["_law_left_here","_law_houses","_law_sizes","_law_others","_law_named"] (liftSp K F_l_clauses)):Cal P w K mg base 4 "_law_town" ["_law_script"] (liftSp K (F_l_town)):=
 ZaG Fn ZaE 11e3 fun _ cdv A outer s H E hr=>(@Zae _ _ _ _ _ (Za8 (i:=1) ZaE.nd rfl (Or.inr rfl) (ZbU cF__law_left 3e6 1e0 (@Zaa _ _ _ _ _ (Zab 0) 5e2 1e0))) (@Zae _ _ _ _ _ (Zaj (i:=2) ZaE.nd rfl (Or.inr rfl) (Zaf c__law_words 3e6 1e0 (@Zaa _ _ _ _ _ (Zab 1) 5e2 1e0))) (@Zae _ _ _ _ _ (Zaj (i:=3) ZaE.nd rfl 2e2 (Zah 6e5 3e3 6e9)) (@Zae _ _ _ _ _ (Za8 (i:=4) ZaE.nd rfl (Or.inr rfl) (Zat Zad)) (@Zae _ _ _ _ _ (Za3 XE rfl (ZaU 1e0 T.b_range 16e0) (Zak (i:=5) ZaE.nd rfl (Or.inr rfl)) (@Zae _ _ _ _ _ (Za8 (i:=1) ZaE.nd rfl (Or.inr rfl) (ZbU cF__law_left 3e6 1e0 (@Zaa _ _ _ _ _ (Zab 0) (@Zaa _ _ _ _ _ (Zam Zac (Zab 5)) Zad 1e0) 1e0))) (@Zae _ _ _ _ _ (Zaj (i:=6) ZaE.nd rfl 2e2 (Zah 6e5 3e3 6e9)) (@Zae _ _ _ _ _ (Zaj (i:=7) ZaE.nd rfl 2e2 (Zah 6e5 3e3 6e9)) (@Zae _ _ _ _ _ (ZbH (i:=8) ZaE.nd rfl rfl (vs:=["_law_c"]) (fs:=["_law_left_here"]) (fr:=[1]) 4e7 rfl (ZaU 1e0 T.b_range (@Zaa _ _ _ _ _ (Zab 7) Zad 1e0)) (fun _ _ _ _ _=>(Zak (i:=0) (show ((["_law_c"]:List Str)++(["_law_left_here"]:List Str)).Nodup by decide +kernel) rfl 2e2)) (fun _ _ _ _ _=>Zbe) (fun _ _ _ _ _=>(Zah 6e5 3e3 6e9))) (@Zai _ _ _ (ZbG (Zbc (Zab 4) (@Zaa _ _ _ _ _ (Zao (@Zaa _ _ _ _ _ (Zab 6) (@Zaa _ _ _ _ _ (Zab 8) (@Zaa _ _ _ _ _ 6e9 Zad 1e0) 1e0) 1e0)) Zad 1e0))))))))) (@Zae _ _ _ _ _ (q_sm_newK (n:=9) ZaE.nd rfl 2e2) (@Zae _ _ _ _ _ (q_sm_forE XE rfl 1e0 T.b_enumerate 15e8 (ZbT rfl (Zav (Zak (i:=5) ZaE.nd rfl (Or.inr rfl)) (Zav (Zak (i:=10) ZaE.nd rfl 2e2) Zbq))) (@Zae _ _ _ _ _ (Za8 (i:=1) ZaE.nd rfl (Or.inr rfl) (ZbU cF__law_left 3e6 1e0 (@Zaa _ _ _ _ _ (Zab 0) (@Zaa _ _ _ _ _ (Zam Zac (Zab 5)) Zad 1e0) 1e0))) (@Zae _ _ _ _ _ (Zaj (i:=11) ZaE.nd rfl (Or.inr rfl) 6e9) (@Zae _ _ _ _ _ (Zaj (i:=6) ZaE.nd rfl 2e2 (Zbr 1e0 T.b_tuple 1e0 (@Zaa _ _ _ _ _ (Zau (Za6 (vs:=["_law_j"]) (fs:=["_law_words_here","_law_start"]) (fr:=[2,11]) 4e7 rfl (ZaU 1e0 T.b_range (@Zaa _ _ _ _ _ (Zah 6e5 (Zab 10) Zac) Zad 1e0)) (fun _ _ _ _ _=>(Zak (i:=0) (show ((["_law_j"]:List Str)++(["_law_words_here","_law_start"]:List Str)).Nodup by decide +kernel) rfl 2e2)) (fun _ _ _ _ _=>Zbe) (fun _ _ _ _ _=>(Zah 6e5 (Zab 1) (ZaM (Zam (Zab 2) (Zab 0)) Zac))))) Zad 1e0))) (@Zae _ _ _ _ _ (Zaj (i:=12) ZaE.nd rfl 2e2 (ZaB (Zau (Za6 (vs:=["_law_j"]) (fs:=["_law_k"]) (fr:=[5]) 4e7 rfl (ZaU 1e0 T.b_range 16e0) (fun _ _ _ _ _=>(Zak (i:=0) (show ((["_law_j"]:List Str)++(["_law_k"]:List Str)).Nodup by decide +kernel) rfl 2e2)) (fun _ _ _ _ _=>(Zbv (Zap op_ne ne_ok.r (Zab 0) (Zab 1) 7e6))) (fun _ _ _ _ _=>(Zab 0)))) ZaJ (ZaF (Zah 6e5 (Zab 10) Zac)))) (@Zae _ _ _ _ _ (Zaj (i:=13) ZaE.nd rfl 2e2 (Zam (Zah 6e5 (Zau (Zat (@Zaa _ _ _ _ _ Zac (@Zaa _ _ _ _ _ Zac (@Zaa _ _ _ _ _ Zac 5e2 1e0) 1e0) 1e0))) 6e9) 6e9)) (@Zae _ _ _ _ _ (Zaj (i:=7) ZaE.nd rfl 2e2 (Zaf c__law_clauses 3e6 1e0 (@Zaa _ _ _ _ _ (Zab 1) (@Zaa _ _ _ _ _ (Zah 6e5 (Zab 10) Zac) (@Zaa _ _ _ _ _ (Zah 6e5 (Zab 10) Zac) (@Zaa _ _ _ _ _ (Zau (Za6 (vs:=["_law_j"]) (fs:=["_law_shapes"]) (fr:=[4]) 4e7 rfl (ZaT (Zab 12)) (fun _ _ _ _ _=>(Zak (i:=0) (show ((["_law_j"]:List Str)++(["_law_shapes"]:List Str)).Nodup by decide +kernel) rfl 2e2)) (fun _ _ _ _ _=>Zbe) (fun _ _ _ _ _=>(Zah 6e5 (Zah 6e5 (Zab 1) (Zab 0)) Zac)))) 11e2 1e0) 1e0) 1e0) 1e0))) (@Zai _ _ _ (q_sm_setixK 14e2 (Zao (@Zaa _ _ _ _ _ (Zab 6) (@Zaa _ _ _ _ _ (Zbr 1e0 T.b_tuple 1e0 (@Zaa _ _ _ _ _ (Zau (Za6 (vs:=["_law_j"]) (fs:=["_law_words_here"]) (fr:=[2]) 4e7 rfl (ZaT (Zab 12)) (fun _ _ _ _ _=>(Zak (i:=0) (show ((["_law_j"]:List Str)++(["_law_words_here"]:List Str)).Nodup by decide +kernel) rfl 2e2)) (fun _ _ _ _ _=>Zbe) (fun _ _ _ _ _=>(Zah 6e5 (Zab 1) (Zam Zac (Zab 0)))))) Zad 1e0)) (@Zaa _ _ _ _ _ (Zab 13) (@Zaa _ _ _ _ _ (Zab 7) Zad 1e0) 1e0) 1e0) 1e0)) (Zab 9) (Zah 6e5 (Zab 2) (Zam Zac (Zab 5)))))))))))) (@Zai _ _ _ (q_sm_retQ (@Zaa _ _ _ _ _ (Zah 6e5 (Zau (Zat (@Zaa _ _ _ _ _ Zac (@Zaa _ _ _ _ _ Zac (@Zaa _ _ _ _ _ Zac (@Zaa _ _ _ _ _ Zac 5e2 1e0) 1e0) 1e0) 1e0))) 6e9) (@Zaa _ _ _ _ _ (Zab 9) Zad 1e0) 1e0))))))))))
end
section
variable {P:YC}{w:World}{K:W.Frag}{mg:3e1}{base:Heap}
abbrev s_l_deed:Stmt:=top 16
theorem ZaR:FnScope ["_law_left_here","_law_deal","_law_houses","_law_others","_law_close","_law_clauses_here","_law_way","_law_c","_law_debtor","_law_creditor","_law_parts","_law_within","_law_conds","_law_leave","_law_said"] ["_law_left_here","_law_deal"] (defScope s_l_deed):=1e4
theorem ok_l_deed (Fn:Hd.FnAt K mg "_law_deed" s_l_deed)(T:Txt mg)(c__law_pick:5e0):Cal P w K mg base 2 "_law_deed" ["_law_left_here","_law_deal"] (liftSp K (F_l_deed)):=
 ZaG Fn ZaR 13e3 fun _ cdv A outer s H E hr=>(@Zae _ _ _ _ _ (ZcG (Zab 1) (ZbT rfl (Zav (Zak (i:=2) ZaR.nd rfl 2e2) (Zav (Zak (i:=3) ZaR.nd rfl 2e2) (Zav (Zak (i:=4) ZaR.nd rfl 2e2) (Zav (Zak (i:=5) ZaR.nd rfl 2e2) Zbq)))))) (@Zae _ _ _ _ _ (Zaj (i:=6) ZaR.nd rfl 2e2 1e6) (@Zae _ _ _ _ _ (Zaj (i:=7) ZaR.nd rfl 2e2 (Zaf c__law_pick 3e6 1e0 (@Zaa _ _ _ _ _ (Zab 0) (@Zaa _ _ _ _ _ (ZaI 1e0 T.b_len 15e9) Zad 1e0) 1e0))) (@Zae _ _ _ _ _ (ZcG (Zah 6e5 (Zab 5) (Zab 7)) (ZbT rfl (Zav (Zak (i:=8) ZaR.nd rfl 2e2) (Zav (Zak (i:=9) ZaR.nd rfl 2e2) (Zav (Zak (i:=10) ZaR.nd rfl 2e2) (Zav (Zak (i:=11) ZaR.nd rfl 2e2) (Zav (Zak (i:=12) ZaR.nd rfl 2e2) (Zav (Zak (i:=13) ZaR.nd rfl 2e2) Zbq)))))))) (@Zae _ _ _ _ _ (@Zaz _ _ _ _ _ _ _ _ (Zap Zc2 Zc6.r (Zab 6) Zac 7e6) (@Zai _ _ _ (@Zar _ _ _ _ (Zao (@Zaa _ _ _ _ _ Zay Zad 1e0)))) Zaw) (@Zae _ _ _ _ _ (ZbH (i:=14) ZaR.nd rfl rfl (vs:=["_law_event_here"]) (fs:=[]) (fr:=[]) 4e7 rfl (ZaT (Zam (Zab 12) (ZaB (Zab 13) ZaJ (ZaF Zac)))) (fun _ _ _ _ _=>(Zak (i:=0) (show ((["_law_event_here"]:List Str)++([]:List Str)).Nodup by decide +kernel) rfl 2e2)) (fun _ _ _ _ _=>(Zbv (Zap op_eq eq_ok.r 13e0 Zay 7e6))) (fun _ _ _ _ _=>(Zab 0))) (@Zae _ _ _ _ _ (@Zaz _ _ _ _ _ _ _ _ (Zc0 (ZcF (Zap Zc2 Zc6.r (Zab 6) Zac 7e6) (Zca (Zap (Zc1 14e2) ZaV.r (Zab 14) (Zau (Zat Zad)) 7e6)))) (@Zai _ _ _ (@Zar _ _ _ _ (Zao (@Zaa _ _ _ _ _ Zay (@Zaa _ _ _ _ _ (Zah 6e5 (Zah 6e5 (Zab 14) (Zaf c__law_pick 3e6 1e0 (@Zaa _ _ _ _ _ (Zab 0) (@Zaa _ _ _ _ _ (ZaI 1e0 T.b_len (@Zaa _ _ _ _ _ (Zab 14) Zad 1e0)) Zad 1e0) 1e0))) Zac) Zad 1e0) 1e0)))) Zaw) (@Zae _ _ _ _ _ (@Zaz _ _ _ _ _ _ _ _ (Zap Zc2 Zc6.r (Zab 6) Zac 7e6) (@Zai _ _ _ (@Zar _ _ _ _ (Zao (@Zaa _ _ _ _ _ Zay (@Zaa _ _ _ _ _ (Zab 7) (@Zaa _ _ _ _ _ (Zaf c__law_pick 3e6 1e0 (@Zaa _ _ _ _ _ (Zab 0) (@Zaa _ _ _ _ _ (Zab 10) Zad 1e0) 1e0)) Zad 1e0) 1e0) 1e0)))) Zaw) (@Zae _ _ _ _ _ (@Zaz _ _ _ _ _ _ _ _ (Zap Zc2 Zc6.r (Zab 6) Zac 7e6) (@Zai _ _ _ (@Zar _ _ _ _ (Zao (@Zaa _ _ _ _ _ Zay (@Zaa _ _ _ _ _ (Zab 7) Zad 1e0) 1e0)))) Zaw) (@Zae _ _ _ _ _ (@Zaz _ _ _ _ _ _ _ _ (Zap Zc2 Zc6.r (Zab 6) Zac 7e6) (@Zai _ _ _ (@Zar _ _ _ _ (Zao (@Zaa _ _ _ _ _ Zay (@Zaa _ _ _ _ _ (Zab 7) Zad 1e0) 1e0)))) Zaw) (@Zae _ _ _ _ _ (@Zaz _ _ _ _ _ _ _ _ (Zap Zc2 Zc6.r (Zab 6) Zac 7e6) (@Zai _ _ _ (@Zar _ _ _ _ (Zao (@Zaa _ _ _ _ _ Zay (@Zaa _ _ _ _ _ (Zab 7) (@Zaa _ _ _ _ _ (Zah 6e5 (Zab 2) (Zaf c__law_pick 3e6 1e0 (@Zaa _ _ _ _ _ (Zab 0) (@Zaa _ _ _ _ _ (ZaI 1e0 T.b_len 11e2) Zad 1e0) 1e0))) Zad 1e0) 1e0) 1e0)))) Zaw) (@Zae _ _ _ _ _ (@Zaz _ _ _ _ _ _ _ _ (Zap Zc2 Zc6.r (Zab 6) Zac 7e6) (@Zai _ _ _ (@Zar _ _ _ _ (Zao (@Zaa _ _ _ _ _ Zay (@Zaa _ _ _ _ _ (Zab 7) Zad 1e0) 1e0)))) Zaw) (@Zai _ _ _ (@Zar _ _ _ _ (Zah 6e5 (Zau (Zat (@Zaa _ _ _ _ _ (Zao (@Zaa _ _ _ _ _ Zay Zad 1e0)) (@Zaa _ _ _ _ _ (Zao (@Zaa _ _ _ _ _ Zay (@Zaa _ _ _ _ _ (Zah 6e5 (Zab 2) Zac) Zad 1e0) 1e0)) (@Zaa _ _ _ _ _ (Zao (@Zaa _ _ _ _ _ Zay Zad 1e0)) Zad 1e0) 1e0) 1e0))) (Zcb (Zab 6) Zac))))))))))))))))
end
section
variable {P:YC}{w:World}{K:W.Frag}{mg:3e1}{base:Heap}
abbrev s_l_name:Stmt:=top 17
theorem sc_l_name:FnScope 5e7 5e7 (defScope s_l_name):=1e4
theorem ok_l_name (Fn:Hd.FnAt K mg "_law_name" s_l_name)(T:Txt mg):Cal P w K mg base 1 "_law_name" 5e7 (liftSp K (F_l_name)):=
 ZaG Fn sc_l_name 11e3 fun _ cdv A outer s H E hr=>(@Zai _ _ _ (@Zar _ _ _ _ (ZaB (Zab 0) ZaJ (ZaF Zac))))
end
section
variable {P:YC}{w:World}{K:W.Frag}{mg:3e1}{base:Heap}
abbrev s_l_last:Stmt:=top 18
theorem sc_l_last:FnScope ["_law_letters","_law_house","_law_deal","_law_mine"] ["_law_letters","_law_house","_law_deal"] (defScope s_l_last):=1e4
theorem ok_l_last (Fn:Hd.FnAt K mg "_law_last" s_l_last)(T:Txt mg):Cal P w K mg base 1 "_law_last" ["_law_letters","_law_house","_law_deal"] (liftSp K (F_l_last)):=
 ZaG Fn sc_l_last (fun _ _ _ _ _ _=>ln3 fun _ _ _=>rfl) fun _ cdv A outer s H E hr=>(@Zae _ _ _ _ _ (ZbH (i:=3) sc_l_last.nd rfl rfl (vs:=5e7) (fs:=["_law_house","_law_deal"]) (fr:=[1,2]) 4e7 rfl (ZaT (Zab 0)) (fun _ _ _ _ _=>(Zak (i:=0) (show ((5e7:List Str)++(["_law_house","_law_deal"]:List Str)).Nodup by decide +kernel) rfl 2e2)) (fun _ _ _ _ _=>(Zbv (Zap (ZbB 14e2) ZaV.r (ZaB (Zab 0) ZaJ (ZaF Zac)) (Zao (@Zaa _ _ _ _ _ (Zab 1) 11e2 1e0)) 7e6))) (fun _ _ _ _ _=>(Zab 0))) (@Zai _ _ _ (@Zar _ _ _ _ (q_em_if (Zap (Zc1 14e2) ZaV.r (Zab 3) (Zau (Zat Zad)) 7e6) (Zah 6e5 (Zah 6e5 (Zab 3) (q_em_neg Zac)) Zac) Zac))))
end
section
variable {P:YC}{w:World}{K:W.Frag}{mg:3e1}{base:Heap}
abbrev s_l_gots:Stmt:=top 19
theorem Zbo:FnScope ["_law_left_here","_law_letters","_law_house","_law_deal","_law_some","_law_found","_law_k","_law_at"] ["_law_left_here","_law_letters","_law_house","_law_deal"] (defScope s_l_gots):=1e4
theorem ok_l_gots (Fn:Hd.FnAt K mg "_law_gots" s_l_gots)(T:Txt mg)(c__law_pick:5e0)(c__law_name:Cal P w K mg base 1 "_law_name" 5e7 (liftSp K F_l_name)):Cal P w K mg base 2 "_law_gots" ["_law_left_here","_law_letters","_law_house","_law_deal"] (liftSp K (F_l_gots)):=
 ZaG Fn Zbo (fun _ _ _ _ _ _=>ln4 fun _ _ _ _=>rfl) fun _ cdv A outer s H E hr=>(@Zae _ _ _ _ _ (ZbH (i:=4) Zbo.nd rfl rfl (vs:=5e7) (fs:=["_law_house","_law_deal"]) (fr:=[2,3]) 4e7 rfl (ZaT (Zab 1)) (fun _ _ _ _ _=>(Zak (i:=0) (show ((5e7:List Str)++(["_law_house","_law_deal"]:List Str)).Nodup by decide +kernel) rfl 2e2)) (fun _ _ _ _ _=>(Zbv (Zap (Zc1 14e2) ZaV.r (ZaB (Zab 0) ZaJ (ZaF Zac)) (Zao (@Zaa _ _ _ _ _ (Zab 1) 11e2 1e0)) 7e6))) (fun _ _ _ _ _=>(Zab 0))) (@Zae _ _ _ _ _ (q_sm_newT (n:=5) Zbo.nd rfl 2e2) (@Zae _ _ _ _ _ (Za3 XE rfl (ZaU 1e0 T.b_range (@Zaa _ _ _ _ _ (ZaX (Zah 6e5 3e3 1e6) (q_em_intc 1e0 T.b_int 1e0 (@Zaa _ _ _ _ _ (q_em_cmp (Zc1 14e2) ZaV.r (Zab 4) (Zau (Zat Zad)) 7e6) Zad 1e0))) Zad 1e0)) (Zak (i:=6) Zbo.nd rfl 2e2) (@Zae _ _ _ _ _ (Zaj (i:=7) Zbo.nd rfl 2e2 (Zam (Zaf c__law_pick 3e6 1e0 (@Zaa _ _ _ _ _ (Zab 0) (@Zaa _ _ _ _ _ (q_em_min rfl 1e0 T.b_min 1e0 (@Zaa _ _ _ _ _ (ZaI 1e0 T.b_len 15e8) 5e2 1e0)) Zad 1e0) 1e0)) Zac)) (@Zae _ _ _ _ _ (@Zaz _ _ _ _ _ _ _ _ (Zap op_eq eq_ok.r 1e6 Zac 7e6) (@Zai _ _ _ (Zaj (i:=7) Zbo.nd rfl 2e2 (Zam (Zaf c__law_pick 3e6 1e0 (@Zaa _ _ _ _ _ (Zab 0) (@Zaa _ _ _ _ _ (ZaI 1e0 T.b_len 15e8) Zad 1e0) 1e0)) Zac))) Zaw) (@Zai _ _ _ (q_sm_setixT 14e2 Zbb (Zab 5) (Zaf c__law_name 3e6 1e0 (@Zaa _ _ _ _ _ (Zah 6e5 (Zab 4) (q_em_neg (Zab 7))) Zad 1e0))))))) (@Zai _ _ _ (@Zar _ _ _ _ (Zbr 1e0 T.b_tuple 1e0 (@Zaa _ _ _ _ _ (Zau (Zbf rfl 14e2 1e0 T.b_sorted 1e0 15e9)) Zad 1e0)))))))
end
section
variable {P:YC}{w:World}{K:W.Frag}{mg:3e1}{base:Heap}
abbrev Zcp:Stmt:=top 20
theorem ZaH:FnScope ["_law_left_here","_law_town_here","_law_letters","_law_now","_law_names","_law_deal","_law_houses","_law_house","_law_mine","_law_prev","_law_nr","_law_time","_law_deed_here"] ["_law_left_here","_law_town_here","_law_letters","_law_now"] (defScope Zcp):=1e4
theorem ok_l_letter (Fn:Hd.FnAt K mg "_law_letter" Zcp)(T:Txt mg)(c__law_pick:5e0)(c__law_last:Cal P w K mg base 1 "_law_last" ["_law_letters","_law_house","_law_deal"] (liftSp K F_l_last))(c__law_deed:Cal P w K mg base 2 "_law_deed" ["_law_left_here","_law_deal"] (liftSp K F_l_deed))(c__law_gots:Cal P w K mg base 2 "_law_gots" ["_law_left_here","_law_letters","_law_house","_law_deal"] (liftSp K F_l_gots)):Cal P w K mg base 3 "_law_letter" ["_law_left_here","_law_town_here","_law_letters","_law_now"] (liftSp K (F_l_letter)):=
 ZaG Fn ZaH (fun _ _ _ _ _ _=>ln4 fun _ _ _ _=>rfl) fun _ cdv A outer s H E hr=>(@Zae _ _ _ _ _ (Zaj (i:=4) ZaH.nd rfl 2e2 (Zau (Zbf rfl 14e2 1e0 T.b_sorted 1e0 (@Zaa _ _ _ _ _ (Zah 6e5 (Zab 1) Zac) Zad 1e0)))) (@Zae _ _ _ _ _ (Zaj (i:=5) ZaH.nd rfl (Or.inr rfl) (Zah 6e5 (Zab 4) (Zaf c__law_pick 3e6 1e0 (@Zaa _ _ _ _ _ (Zab 0) (@Zaa _ _ _ _ _ (ZaI 1e0 T.b_len 15e8) Zad 1e0) 1e0)))) (@Zae _ _ _ _ _ (Zaj (i:=6) ZaH.nd rfl 2e2 (Zah 6e5 (Zah 6e5 (Zah 6e5 (Zab 1) Zac) (Zab 5)) Zac)) (@Zae _ _ _ _ _ (Zaj (i:=7) ZaH.nd rfl (Or.inr rfl) (Zah 6e5 (Zam (Zam (Zab 6) (Zab 6)) (Zao (@Zaa _ _ _ _ _ Zay (@Zaa _ _ _ _ _ Zay Zad 1e0) 1e0))) (Zaf c__law_pick 3e6 1e0 (@Zaa _ _ _ _ _ (Zab 0) (@Zaa _ _ _ _ _ (Zam (ZaX Zac (ZaI 1e0 T.b_len (@Zaa _ _ _ _ _ (Zab 6) Zad 1e0))) Zac) Zad 1e0) 1e0)))) (@Zae _ _ _ _ _ (ZbH (i:=8) ZaH.nd rfl rfl (vs:=5e7) (fs:=["_law_house","_law_deal"]) (fr:=[7,5]) 4e7 rfl (ZaT (Zab 2)) (fun _ _ _ _ _=>(Zak (i:=0) (show ((5e7:List Str)++(["_law_house","_law_deal"]:List Str)).Nodup by decide +kernel) rfl 2e2)) (fun _ _ _ _ _=>(Zbv (Zap (ZbB 14e2) ZaV.r (ZaB (Zab 0) ZaJ (ZaF Zac)) (Zao (@Zaa _ _ _ _ _ (Zab 1) 11e2 1e0)) 7e6))) (fun _ _ _ _ _=>(Zab 0))) (@Zae _ _ _ _ _ (Zaj (i:=9) ZaH.nd rfl 2e2 (Zaf c__law_last 3e6 1e0 (@Zaa _ _ _ _ _ (Zab 2) (@Zaa _ _ _ _ _ (Zab 7) 15e9 1e0) 1e0))) (@Zae _ _ _ _ _ (@Zaz _ _ _ _ _ _ _ _ (Zc0 (ZcF (Zap (Zc1 14e2) ZaV.r (Zab 8) (Zau (Zat Zad)) 7e6) (Zca (Zap op_eq eq_ok.r 1e6 Zac 7e6)))) (@Zai _ _ _ (Zaj (i:=9) ZaH.nd rfl 2e2 (Zah 6e5 (Zau (Zat (@Zaa _ _ _ _ _ Zac (@Zaa _ _ _ _ _ (Zah 6e5 (Zah 6e5 (Zab 8) (Zaf c__law_pick 3e6 1e0 (@Zaa _ _ _ _ _ (Zab 0) (@Zaa _ _ _ _ _ (ZaI 1e0 T.b_len (@Zaa _ _ _ _ _ (Zab 8) Zad 1e0)) Zad 1e0) 1e0))) Zac) Zad 1e0) 1e0))) 1e6))) Zaw) (@Zae _ _ _ _ _ (Zaj (i:=10) ZaH.nd rfl 2e2 (Zam (ZaI 1e0 T.b_len (@Zaa _ _ _ _ _ (Zab 8) Zad 1e0)) Zac)) (@Zae _ _ _ _ _ (@Zaz _ _ _ _ _ _ _ _ (Zap op_eq eq_ok.r 1e6 Zac 7e6) (@Zai _ _ _ (Zaj (i:=10) ZaH.nd rfl 2e2 (Zam Zac (ZaX Zac (ZaI 1e0 T.b_len 11e2))))) Zaw) (@Zae _ _ _ _ _ (@Zaz _ _ _ _ _ _ _ _ (Zap (op_inD 14e2) inD_ok.r (Zab 10) (Zau (Za6 (vs:=5e7) (fs:=[]) (fr:=[]) 4e7 rfl (ZaT (Zab 8)) (fun _ _ _ _ _=>(Zak (i:=0) (show ((5e7:List Str)++([]:List Str)).Nodup by decide +kernel) rfl 2e2)) (fun _ _ _ _ _=>Zbe) (fun _ _ _ _ _=>13e0))) rfl) (@Zai _ _ _ (Zaj (i:=10) ZaH.nd rfl 2e2 (Zam Zac (ZaX Zac (ZaI 1e0 T.b_len 11e2))))) Zaw) (@Zae _ _ _ _ _ (Zaj (i:=11) ZaH.nd rfl 2e2 (q_em_if (Zap op_gt gt_ok.r 1e6 Zac 7e6) (Zab 3) (q_em_max rfl 1e0 T.b_max 1e0 (@Zaa _ _ _ _ _ Zac (@Zaa _ _ _ _ _ (Zcb (Zcb (Zab 3) Zac) 1e6) Zad 1e0) 1e0)))) (@Zae _ _ _ _ _ (Zaj (i:=12) ZaH.nd rfl 2e2 (Zaf c__law_deed 3e6 1e0 (@Zaa _ _ _ _ _ (Zab 0) (@Zaa _ _ _ _ _ (Zah 6e5 (Zah 6e5 (Zab 1) Zac) (Zab 5)) Zad 1e0) 1e0))) (@Zai _ _ _ (@Zar _ _ _ _ (Zao (@Zaa _ _ _ _ _ (Zab 7) (@Zaa _ _ _ _ _ (Zab 5) (@Zaa _ _ _ _ _ (Zab 10) (@Zaa _ _ _ _ _ (Zab 9) (@Zaa _ _ _ _ _ (Zaf c__law_gots 3e6 1e0 (@Zaa _ _ _ _ _ (Zab 0) (@Zaa _ _ _ _ _ (Zab 2) (@Zaa _ _ _ _ _ (Zab 7) 15e9 1e0) 1e0) 1e0)) (@Zaa _ _ _ _ _ (Zab 11) (@Zaa _ _ _ _ _ (Zab 12) Zad 1e0) 1e0) 1e0) 1e0) 1e0) 1e0) 1e0))))))))))))))))
end
section
variable {P:YC}{w:World}{K:W.Frag}{mg:3e1}{base:Heap}
abbrev s_l_pile:Stmt:=top 21
theorem Za4:FnScope ["_law_script","_law_town_here","_law_many","_law_letters","_law_now","_law_deal","_law_house","_law_k","_law_left_here"] ["_law_script","_law_town_here","_law_many"] (defScope s_l_pile):=1e4
theorem ok_l_pile (Fn:Hd.FnAt K mg "_law_pile" s_l_pile)(T:Txt mg)(cF__law_left:Cal P w K mg base 2 "_law_left" 11e7 (liftSpF K FF_l_left))(c__law_pick:5e0)(c__law_letter:Cal P w K mg base 3 "_law_letter" ["_law_left_here","_law_town_here","_law_letters","_law_now"] (liftSp K F_l_letter)):Cal P w K mg base 4 "_law_pile" ["_law_script","_law_town_here","_law_many"] (liftSp K (F_l_pile)):=
 ZaG Fn Za4 (fun _ _ _ _ _ _=>ln3 fun _ _ _=>rfl) fun _ cdv A outer s H E hr=>(@Zae _ _ _ _ _ (Za8 (i:=3) Za4.nd rfl 2e2 (Zat Zad)) (@Zae _ _ _ _ _ (Zaj (i:=4) Za4.nd rfl 2e2 Zac) (@Zae _ _ _ _ _ (Za3 XE rfl (ZaT (Zau (Zbf rfl 14e2 1e0 T.b_sorted 1e0 (@Zaa _ _ _ _ _ (Zah 6e5 (Zab 1) Zac) Zad 1e0)))) (Zak (i:=5) Za4.nd rfl 2e2) (@Zai _ _ _ (Za3 XE rfl (ZaT (Zah 6e5 (Zah 6e5 (Zah 6e5 (Zab 1) Zac) (Zab 5)) Zac)) (Zak (i:=6) Za4.nd rfl 2e2) (@Zai _ _ _ (@Zaz _ _ _ _ _ _ _ _ (Zap Zc2 Zc6.r (ZaI 1e0 T.b_len 16e0) (Zab 2) 7e6) (@Zai _ _ _ (ZbG (Zbc (Zab 3) (@Zaa _ _ _ _ _ (Zao (@Zaa _ _ _ _ _ (Zab 6) (@Zaa _ _ _ _ _ (Zab 5) (@Zaa _ _ _ _ _ Zac (@Zaa _ _ _ _ _ Zac (@Zaa _ _ _ _ _ (Zao Zad) (@Zaa _ _ _ _ _ (Zab 4) (@Zaa _ _ _ _ _ (Zao (@Zaa _ _ _ _ _ Zay Zad 1e0)) Zad 1e0) 1e0) 1e0) 1e0) 1e0) 1e0) 1e0)) Zad 1e0)))) Zaw))))) (@Zae _ _ _ _ _ (Za3 XE rfl (ZaU 1e0 T.b_range (@Zaa _ _ _ _ _ (Zcb (Zab 2) (ZaI 1e0 T.b_len 16e0)) Zad 1e0)) (Zak (i:=7) Za4.nd rfl 2e2) (@Zae _ _ _ _ _ (Za8 (i:=8) Za4.nd rfl 2e2 (ZbU cF__law_left 3e6 1e0 (@Zaa _ _ _ _ _ (Zab 0) (@Zaa _ _ _ _ _ (Zam Zac (Zab 7)) Zad 1e0) 1e0))) (@Zae _ _ _ _ _ (Zaj (i:=4) Za4.nd rfl 2e2 (Zam (Zab 4) (Zah 6e5 3e3 (Zaf c__law_pick 3e6 1e0 (@Zaa _ _ _ _ _ (Zab 8) 5e2 1e0))))) (@Zai _ _ _ (ZbG (Zbc (Zab 3) (@Zaa _ _ _ _ _ (q_em_calS [0] c__law_letter 3e6 1e0 (@Zaa _ _ _ _ _ (Zab 8) (@Zaa _ _ _ _ _ (Zab 1) (@Zaa _ _ _ _ _ (Zab 3) 15e8 1e0) 1e0) 1e0)) Zad 1e0))))))) (@Zai _ _ _ (@Zar _ _ _ _ (Zab 3)))))))
end
section
variable {P:YC}{w:World}{K:W.Frag}{mg:3e1}{base:Heap}
abbrev ZbZ:Stmt:=top 22
theorem ZaD:FnScope ["_law_left_here","_law_pile_here","_law_at","_law_house","_law_deal","_law_number","_law_prev","_law_gots_here","_law_time","_law_deed_here","_law_way","_law_other"] ["_law_left_here","_law_pile_here"] (defScope ZbZ):=1e4
theorem ok_l_changed (Fn:Hd.FnAt K mg "_law_changed" ZbZ)(T:Txt mg)(c__law_pick:5e0):Cal P w K mg base 2 "_law_changed" ["_law_left_here","_law_pile_here"] (liftSp K (F_l_changed)):=
 ZaG Fn ZaD 13e3 fun _ cdv A outer s H E hr=>(@Zae _ _ _ _ _ (@Zaz _ _ _ _ _ _ _ _ (Zap (ZbB 14e2) ZaV.r (Zab 1) (Zau (Zat Zad)) 7e6) (@Zai _ _ _ (ZbF (Zat Zad))) Zaw) (@Zae _ _ _ _ _ (Zaj (i:=2) ZaD.nd rfl 2e2 (Zaf c__law_pick 3e6 1e0 (@Zaa _ _ _ _ _ (Zab 0) (@Zaa _ _ _ _ _ (ZaI 1e0 T.b_len (@Zaa _ _ _ _ _ (Zab 1) Zad 1e0)) Zad 1e0) 1e0))) (@Zae _ _ _ _ _ (ZcG (Zah 6e5 (Zab 1) (Zab 2)) (ZbT rfl (Zav (Zak (i:=3) ZaD.nd rfl 2e2) (Zav (Zak (i:=4) ZaD.nd rfl 2e2) (Zav (Zak (i:=5) ZaD.nd rfl 2e2) (Zav (Zak (i:=6) ZaD.nd rfl 2e2) (Zav (Zak (i:=7) ZaD.nd rfl 2e2) (Zav (Zak (i:=8) ZaD.nd rfl 2e2) (Zav (Zak (i:=9) ZaD.nd rfl 2e2) Zbq))))))))) (@Zae _ _ _ _ _ (Zaj (i:=10) ZaD.nd rfl 2e2 1e6) (@Zae _ _ _ _ _ (@Zaz _ _ _ _ _ _ _ _ (Zap (ZbB 14e2) ZaV.r (Zab 10) Zac 7e6) (@Zai _ _ _ (@Zar _ _ _ _ (Zam (ZaB (Zab 1) ZaJ (ZaF (Zab 2))) (ZaB (Zab 1) (ZaF (Zam (Zab 2) Zac)) ZaJ)))) Zaw) (@Zae _ _ _ _ _ (@Zaz _ _ _ _ _ _ _ _ (Zap (ZbB 14e2) ZaV.r (Zab 10) Zac 7e6) (@Zae _ _ _ _ _ (Zaj (i:=11) ZaD.nd rfl 2e2 (Zao (@Zaa _ _ _ _ _ (Zab 3) (@Zaa _ _ _ _ _ (Zab 4) (@Zaa _ _ _ _ _ (Zab 5) (@Zaa _ _ _ _ _ Zac (@Zaa _ _ _ _ _ (Zab 7) 10e9 1e0) 1e0) 1e0) 1e0) 1e0))) (@Zai _ _ _ (@Zar _ _ _ _ (Zam (Zam (ZaB (Zab 1) ZaJ (ZaF (Zab 2))) (Zau (Zat (@Zaa _ _ _ _ _ (Zab 11) Zad 1e0)))) (ZaB (Zab 1) (ZaF (Zam (Zab 2) Zac)) ZaJ))))) Zaw) (@Zae _ _ _ _ _ (@Zaz _ _ _ _ _ _ _ _ (Zap (ZbB 14e2) ZaV.r (Zab 10) Zac 7e6) (@Zae _ _ _ _ _ (Zaj (i:=11) ZaD.nd rfl 2e2 (Zao (@Zaa _ _ _ _ _ (Zab 3) (@Zaa _ _ _ _ _ (Zab 4) (@Zaa _ _ _ _ _ (Zab 5) (@Zaa _ _ _ _ _ (Zab 6) (@Zaa _ _ _ _ _ (Zbr 1e0 T.b_tuple 1e0 (@Zaa _ _ _ _ _ (Zau (Zbf rfl 14e2 1e0 T.b_sorted 1e0 (@Zaa _ _ _ _ _ (Zam (Zab 7) (Zao (@Zaa _ _ _ _ _ (Zao (@Zaa _ _ _ _ _ Zay (@Zaa _ _ _ _ _ Zay (@Zaa _ _ _ _ _ (Zam Zac (Zab 2)) Zad 1e0) 1e0) 1e0)) Zad 1e0))) Zad 1e0))) Zad 1e0)) 10e9 1e0) 1e0) 1e0) 1e0) 1e0))) (@Zai _ _ _ (@Zar _ _ _ _ (Zam (Zam (ZaB (Zab 1) ZaJ (ZaF (Zab 2))) (Zau (Zat (@Zaa _ _ _ _ _ (Zab 11) Zad 1e0)))) (ZaB (Zab 1) (ZaF (Zam (Zab 2) Zac)) ZaJ))))) Zaw) (@Zae _ _ _ _ _ (@Zaz _ _ _ _ _ _ _ _ (Zap (ZbB 14e2) ZaV.r (Zab 10) Zac 7e6) (@Zae _ _ _ _ _ (Zaj (i:=11) ZaD.nd rfl 2e2 (Zao (@Zaa _ _ _ _ _ (Zab 3) (@Zaa _ _ _ _ _ (Zab 4) (@Zaa _ _ _ _ _ (Zab 5) (@Zaa _ _ _ _ _ (Zab 5) (@Zaa _ _ _ _ _ (Zab 7) 10e9 1e0) 1e0) 1e0) 1e0) 1e0))) (@Zai _ _ _ (@Zar _ _ _ _ (Zam (Zam (ZaB (Zab 1) ZaJ (ZaF (Zab 2))) (Zau (Zat (@Zaa _ _ _ _ _ (Zab 11) Zad 1e0)))) (ZaB (Zab 1) (ZaF (Zam (Zab 2) Zac)) ZaJ))))) Zaw) (@Zae _ _ _ _ _ (@Zaz _ _ _ _ _ _ _ _ (Zap (ZbB 14e2) ZaV.r (Zab 10) Zac 7e6) (@Zai _ _ _ (@Zar _ _ _ _ (Zam (Zab 1) (Zau (Zat (@Zaa _ _ _ _ _ (Zao (@Zaa _ _ _ _ _ Zay (@Zaa _ _ _ _ _ (Zab 4) (@Zaa _ _ _ _ _ Zac (@Zaa _ _ _ _ _ Zac (@Zaa _ _ _ _ _ (Zao Zad) 10e9 1e0) 1e0) 1e0) 1e0) 1e0)) (@Zaa _ _ _ _ _ (Zao (@Zaa _ _ _ _ _ Zay (@Zaa _ _ _ _ _ (Zab 4) (@Zaa _ _ _ _ _ Zac (@Zaa _ _ _ _ _ Zac (@Zaa _ _ _ _ _ (Zao Zad) 10e9 1e0) 1e0) 1e0) 1e0) 1e0)) Zad 1e0) 1e0)))))) Zaw) (@Zae _ _ _ _ _ (@Zaz _ _ _ _ _ _ _ _ (Zap (ZbB 14e2) ZaV.r (Zab 10) Zac 7e6) (@Zai _ _ _ (@Zar _ _ _ _ (Zam (Zab 1) (Zau (Zat (@Zaa _ _ _ _ _ (Zao (@Zaa _ _ _ _ _ Zay (@Zaa _ _ _ _ _ (Zab 4) (@Zaa _ _ _ _ _ Zac (@Zaa _ _ _ _ _ Zac (@Zaa _ _ _ _ _ (Zao (@Zaa _ _ _ _ _ (Zao (@Zaa _ _ _ _ _ (Zab 3) (@Zaa _ _ _ _ _ (Zab 4) 15e9 1e0) 1e0)) Zad 1e0)) 10e9 1e0) 1e0) 1e0) 1e0) 1e0)) Zad 1e0)))))) Zaw) (@Zai _ _ _ (@Zar _ _ _ _ (Zam (Zab 1) (Zau (Zat (@Zaa _ _ _ _ _ (Zao (@Zaa _ _ _ _ _ Zay (@Zaa _ _ _ _ _ (Zab 4) (@Zaa _ _ _ _ _ Zac (@Zaa _ _ _ _ _ Zac (@Zaa _ _ _ _ _ (Zao (@Zaa _ _ _ _ _ (Zao (@Zaa _ _ _ _ _ (Zab 3) (@Zaa _ _ _ _ _ (Zab 4) 15e9 1e0) 1e0)) (@Zaa _ _ _ _ _ (Zao (@Zaa _ _ _ _ _ (Zab 3) (@Zaa _ _ _ _ _ (Zab 4) (@Zaa _ _ _ _ _ (Zam (Zab 5) (q_em_pow Zac Zac)) Zad 1e0) 1e0) 1e0)) Zad 1e0) 1e0)) 10e9 1e0) 1e0) 1e0) 1e0) 1e0)) Zad 1e0))))))))))))))))
end
section
variable {P:YC}{w:World}{K:W.Frag}{mg:3e1}{base:Heap}
abbrev s_l_due:Stmt:=top 23
theorem sc_l_due:FnScope ["_law_pile_here","_law_names","_law_letter_here"] ["_law_pile_here"] (defScope s_l_due):=1e4
theorem ok_l_due (Fn:Hd.FnAt K mg "_law_due" s_l_due)(T:Txt mg):Cal P w K mg base 1 "_law_due" ["_law_pile_here"] (liftSp K (F_l_due)):=
 ZaG Fn sc_l_due 11e3 fun _ cdv A outer s H E hr=>(@Zae _ _ _ _ _ (Zaj (i:=1) sc_l_due.nd rfl (Or.inr rfl) (Zau (Za6 (vs:=5e7) (fs:=[]) (fr:=[]) 4e7 rfl (ZaT (Zab 0)) (fun _ _ _ _ _=>(Zak (i:=0) (show ((5e7:List Str)++([]:List Str)).Nodup by decide +kernel) rfl 2e2)) (fun _ _ _ _ _=>Zbe) (fun _ _ _ _ _=>(ZaB (Zab 0) ZaJ (ZaF Zac)))))) (@Zae _ _ _ _ _ (Za3 XE rfl (ZaT (Zab 0)) (Zak (i:=2) sc_l_due.nd rfl 2e2) (@Zae _ _ _ _ _ (@Zaz _ _ _ _ _ _ _ _ (Zc0 (ZcF (Zap op_gt gt_ok.r (Zah 6e5 (Zab 2) Zac) Zac 7e6) (Zca (Zap (Zcd 14e2) inD_ok.r (Zao (@Zaa _ _ _ _ _ (Zah 6e5 (Zab 2) Zac) (@Zaa _ _ _ _ _ (Zah 6e5 (Zab 2) Zac) (@Zaa _ _ _ _ _ (Zah 6e5 (Zab 2) Zac) Zad 1e0) 1e0) 1e0)) (Zab 1) rfl)))) (@Zai _ _ _ (@Zar _ _ _ _ Zbb)) Zaw) (@Zai _ _ _ (@Zaz _ _ _ _ _ _ _ _ (Zap (Zc1 14e2) ZaV.r (Zau (Za6 (vs:=["_law_got"]) (fs:=["_law_names"]) (fr:=[1]) 4e7 rfl (ZaT (Zah 6e5 (Zab 2) Zac)) (fun _ _ _ _ _=>(Zak (i:=0) (show ((["_law_got"]:List Str)++(["_law_names"]:List Str)).Nodup by decide +kernel) rfl 2e2)) (fun _ _ _ _ _=>(Zbv (Zap (Zcd 14e2) inD_ok.r (Zab 0) (Zab 1) rfl))) (fun _ _ _ _ _=>(Zab 0)))) (Zau (Zat Zad)) 7e6) (@Zai _ _ _ (@Zar _ _ _ _ Zbb)) Zaw)))) (@Zai _ _ _ (@Zar _ _ _ _ Zbb))))
end
section
variable {P:YC}{w:World}{K:W.Frag}{mg:3e1}{base:Heap}
abbrev s_l_is:Stmt:=top 24
theorem sc_l_is:FnScope ["_law_pile_here","_law_due_here","_law_held","_law_turn","_law_found"] ["_law_pile_here","_law_due_here"] (defScope s_l_is):=1e4
theorem ok_l_is (Fn:Hd.FnAt K mg "_law_is" s_l_is)(T:Txt mg)(c_is_whole:Cal P w K mg base 4 "is_whole" ["pile"] (liftSp K F_is_whole)):Cal P w K mg base 5 "_law_is" ["_law_pile_here","_law_due_here"] (liftSp K (F_l_is)):=
 ZaG Fn sc_l_is 13e3 fun _ cdv A outer s H E hr=>(@Zae _ _ _ _ _ (Zaj (i:=2) sc_l_is.nd rfl 2e2 (Zau (Zdw 1e0 T.b_list 1e0 10e4))) (@Zae _ _ _ _ _ (Za3 XE rfl (ZaU 1e0 T.b_range 5e2) (Zak (i:=3) sc_l_is.nd rfl 2e2) (@Zae _ _ _ _ _ (Zaj (i:=4) sc_l_is.nd rfl 2e2 (Zaf c_is_whole 3e6 1e0 10e4)) (@Zai _ _ _ (@Zaz _ _ _ _ _ _ _ _ (Zc0 (q_wm_or (ZbS (ZbR (q_em_isi 1e0 T.b_isinstance 1e0 (@Zaa _ _ _ _ _ (Zab 4) (@Zaa _ _ _ _ _ (q_em_ty 1e0 T.b_bool 1e0) Zad 1e0) 1e0)))) (q_wm_or1 (Zap (Zc1 14e2) ZaV.r (Zab 4) (Zab 1) 7e6)))) (@Zai _ _ _ (@Zar _ _ _ _ Zbb)) Zaw)))) (@Zai _ _ _ (@Zar _ _ _ _ (q_em_cmp (ZbB 14e2) ZaV.r (Zab 0) (Zab 2) 7e6)))))
end
section
variable {P:YC}{w:World}{K:W.Frag}{mg:3e1}{base:Heap}
abbrev s_law:Stmt:=top 25
theorem ZcS:FnScope ["_law_script","_law_town_here","_law_left_here","_law_pile_here","_law_turn","_law_k","_law_other"] ["_law_script"] (defScope s_law):=1e4
theorem ok_law {f_me:Addr}{fd_me:XZ}(Fn:Fun K "law" "law" s_law f_me fd_me)(T:Txt mg)(c__law_town:Cal P w K mg base 4 "_law_town" ["_law_script"] (liftSp K F_l_town))(cF__law_left:Cal P w K mg base 2 "_law_left" 11e7 (liftSpF K FF_l_left))(c__law_pick:5e0)(c__law_pile:Cal P w K mg base 4 "_law_pile" ["_law_script","_law_town_here","_law_many"] (liftSp K F_l_pile))(c__law_is:Cal P w K mg base 5 "_law_is" ["_law_pile_here","_law_due_here"] (liftSp K F_l_is))(c__law_left:Cal P w K mg base 2 "_law_left" 11e7 (liftSp K F_l_left))(c__law_changed:Cal P w K mg base 2 "_law_changed" ["_law_left_here","_law_pile_here"] (liftSp K F_l_changed))(c__law_due:Cal P w K mg base 1 "_law_due" ["_law_pile_here"] (liftSp K F_l_due)):FnOk P w K mg base CX0 6 f_me fd_me ["_law_script"] (liftSp K (F_law)):=
 q_fn_mk Fn ZcS fun cdv A outer s H E hr=>(@Zae _ _ _ _ _ (Zaj (i:=1) ZcS.nd rfl 2e2 (Zaf c__law_town 3e6 1e0 10e4)) (@Zae _ _ _ _ _ (Za8 (i:=2) ZcS.nd rfl 2e2 (ZbU cF__law_left 3e6 1e0 (@Zaa _ _ _ _ _ (Zab 0) 5e2 1e0))) (@Zae _ _ _ _ _ (Zaj (i:=3) ZcS.nd rfl 2e2 (Zaf c__law_pile 3e6 1e0 (@Zaa _ _ _ _ _ (Zab 0) (@Zaa _ _ _ _ _ (Zab 1) (@Zaa _ _ _ _ _ (Zaf c__law_pick 3e6 1e0 (@Zaa _ _ _ _ _ (Zab 2) 5e2 1e0)) Zad 1e0) 1e0) 1e0))) (@Zae _ _ _ _ _ (Zaj (i:=4) ZcS.nd rfl 2e2 (Zaf c__law_pick 3e6 1e0 (@Zaa _ _ _ _ _ (Zab 2) (@Zaa _ _ _ _ _ (Zam (ZaI 1e0 T.b_len 16e0) Zac) Zad 1e0) 1e0))) (@Zae _ _ _ _ _ (@Zaz _ _ _ _ _ _ _ _ (Zc0 (q_wm_or (ZbS (ZbR (Zaf c__law_is 3e6 1e0 (@Zaa _ _ _ _ _ (Zau (Zat Zad)) (@Zaa _ _ _ _ _ Zbb Zad 1e0) 1e0)))) (q_wm_or (ZbS (ZbR (Zaf c__law_is 3e6 1e0 (@Zaa _ _ _ _ _ (Zab 3) (@Zaa _ _ _ _ _ Zbb Zad 1e0) 1e0)))) (q_wm_or1 (ZbS (ZbR (Zaf c__law_is 3e6 1e0 (@Zaa _ _ _ _ _ (Zam (ZaB (Zab 3) (ZaF (Zab 4)) ZaJ) (Zab 3)) (@Zaa _ _ _ _ _ Zbb Zad 1e0) 1e0)))))))) (@Zai _ _ _ (@Zar _ _ _ _ Zbb)) Zaw) (@Zae _ _ _ _ _ (Za3 XE rfl (q_im_range2 1e0 T.b_range (@Zaa _ _ _ _ _ Zac (@Zaa _ _ _ _ _ (Zam Zac (ZaI 1e0 T.b_len (@Zaa _ _ _ _ _ (ZaB (Zab 0) (ZaF Zac) (ZaF Zac)) Zad 1e0))) Zad 1e0) 1e0)) (Zak (i:=5) ZcS.nd rfl 2e2) (@Zae _ _ _ _ _ (Zaj (i:=6) ZcS.nd rfl 2e2 (q_em_calN c__law_changed 3e6 1e0 (ZbU cF__law_left 3e6 1e0 (@Zaa _ _ _ _ _ (Zab 0) (@Zaa _ _ _ _ _ (Zam Zac (Zab 5)) Zad 1e0) 1e0)) 16e0)) (@Zai _ _ _ (@Zaz _ _ _ _ _ _ _ _ (Zc0 (q_wm_or (ZbS (ZbR (Zaf c__law_is 3e6 1e0 (@Zaa _ _ _ _ _ (Zab 6) (@Zaa _ _ _ _ _ (Zaf c__law_due 3e6 1e0 (@Zaa _ _ _ _ _ (Zab 6) Zad 1e0)) Zad 1e0) 1e0)))) (q_wm_or1 (ZbS (ZbR (Zaf c__law_is 3e6 1e0 (@Zaa _ _ _ _ _ (Zau (q_fm_listrev rfl 1e0 T.b_list 1e0 T.b_reversed (Zab 6))) (@Zaa _ _ _ _ _ (Zaf c__law_due 3e6 1e0 (@Zaa _ _ _ _ _ (Zab 6) Zad 1e0)) Zad 1e0) 1e0))))))) (@Zai _ _ _ (@Zar _ _ _ _ Zbb)) Zaw)))) (@Zai _ _ _ (@Zar _ _ _ _ Zbb))))))))
end
local macro_rules
 | `(tactic| simp![$args,*])=>`(tactic| simp[mDef,mRet,mRetF,mAndV,mOrV,mNotV,mCB,mOp,mChain,mTest,mTru,mNotT,mAndT,mOrT,mIf,mIfS,mSeq,mSkip,mSet,mDrop,mTup,mLst,mVal,mFn,mFnF,mSlice,mMt,mDict,mDict0,mList,listH,bnd,opM,aCons,aNil,mVar,mC,Pu.ret,g1,g2,derefs,deref,isiH,isiP,tyN,mB,asB,intP,fin,truP,lenH,Pu.plain,oNo,oPart,Pu.intD,sliceD,sliceP,isTy,tyP,mtD,eqP,neP,scP,$args,*])
local macro_rules
 |`(#[$x])=>`(some (.v $x))
theorem ZcM {te:4e3}{f:PV->PV}:∀(xs:List PV) (ρ:PSt) (ys:List PV) (C:Cs),(∀x∈xs,te (ρ.set 0 #[x]) C=some (.v (f x),C))->compL 7e1 tOk te xs ρ ys C=some (ys++xs.map f,C)
 | [],ρ,ys,C,_=>by simp[compL,Pu.ret]
 | x::xs,ρ,ys,C,h=>by
  have h1:=h x 3e8
  have h2:=ZcM xs (ρ.set 0 #[x]) (ys++[f x]) C fun y hy=>by rw[Ws];exact h y (by simp[hy])
  simp![compL,hName,tOk,h1,h2]
theorem tk (C:Cs)(k:Nat)(v:PV):(C.set k v).take C.length=C.set k v:=Vm 3e8
theorem setAt {C:Cs}{k:Nat}{v w:PV}(h:C[k]? = some w):(C.set k v)[k]? = some v:=by
 have:k < C.length:=by
  rcases YH k C.length with q | q
  ·exact q
  ·rw[Yi.mpr q] at h;cases h
 rw[XC this]
theorem pick_spec (k:Nat)(x y m:Int)(C:Cs)(hC:C[k]? = some (.lst [.int x,.int y]))(hy:0<=y/\y < 2147483647)(hm:0 < m/\m < 1073741824):
  ∃d x' y',F_l_pick [.c k,.v (.int m)] C=some (.v (.int d),C.set k (.lst [.int x',.int y']))/\0<=d/\d < m/\0<=y'/\y' < 2147483647:=by
 by_cases hx:0 < x
 ·refine ⟨x % m,x / m,y,?_,Xd _ 1e2,Y5 _ hm.1,hy.1,hy.2⟩
  simp![F_l_pick,ixQ,ixP,atI,ixN,hC,hx,hm.1,hm.2,mSetIx,setC,tk]
 ·have h1:0<=(y * 48271 + 12345) % 2147483647:=Xd _ 1e1
  have h2:(y * 48271 + 12345) % 2147483647 < 2147483647:=Y5 _ 1e1
  refine ⟨(y * 48271 + 12345) % 2147483647 * ((y * 48271 + 12345) % 2147483647) % 1999999973 % m,x,(y * 48271 + 12345) % 2147483647,?_,Xd _ 1e2,Y5 _ hm.1,h1,h2⟩
  generalize hz:(y * 48271 + 12345) % 2147483647=z at h1 h2
  have c1:(-18446744073709551616 < z/\z < 18446744073709551616):=by lia
  simp![F_l_pick,ixQ,ixP,atI,ixN,hC,hx,hm.1,hm.2,mSetIx,setC,tk,addP,setAt hC,hz,c1]
def GS (C:Cs)(k:Nat):Prop:=∃x y:Int,C[k]? = some (.lst [.int x,.int y])/\0<=y/\y < 2147483647
structure Adv (k:Nat)(C C':Cs):Prop where
 len:C'.length=C.length
 gs:GS C' k
 oth:∀j,j≠k->C'[j]? = C[j]?
theorem Adv.refl {k:Nat}{C:Cs}(h:GS C k):Adv k C C:=⟨rfl,h,fun _ _=>rfl⟩
theorem Adv.trans {k:Nat}{C C1 C2:Cs}(a:Adv k C C1)(b:Adv k C1 C2):Adv k C C2:=⟨b.len.trans a.len,b.gs,fun j h=>(b.oth j h).trans (a.oth j h)⟩
theorem Adv.take {k:Nat}{C C':Cs}(a:Adv k C C'):C'.take C.length=C':=Vm (by rw[a.len];exact Yj _)
theorem Zan (k:Nat)(m:Int)(C:Cs)(h:GS C k)(hm:0 < m/\m < 1073741824):∃d C',F_l_pick [.c k,.v (.int m)] C=some (.v (.int d),C')/\0<=d/\d < m/\Adv k C C':=by
 obtain ⟨x,y,hC,h1,h2⟩:=h
 obtain ⟨d,x',y',e,a1,a2,a3,a4⟩:=pick_spec k x y m C hC ⟨h1,h2⟩ hm
 exact ⟨d,_,e,a1,a2,by simp,⟨x',y',setAt hC,a3,a4⟩,fun j hj=>by rw[Yy (Xw hj)]⟩
theorem comp_adv {te:4e3}{k:Nat}{Pp:PV->Prop}:∀(xs:List PV) (ρ:PSt) (ys:List PV) (C:Cs),GS C k->(∀x C,GS C k->∃p C',te (ρ.set 0 #[x]) C=some (.v p,C')/\Pp p/\Adv k C C')->
  ∃zs C',compL 7e1 tOk te xs ρ ys C=some (ys++zs,C')/\zs.length=xs.length/\(∀p∈zs,Pp p)/\Adv k C C'
 | [],ρ,ys,C,g,h=>⟨[],C,by simp[compL,Pu.ret],rfl,by simp,Adv.refl g⟩
 | x::xs,ρ,ys,C,g,h=>by
  obtain ⟨p,C1,e1,hp,a1⟩:=h x C g
  obtain ⟨zs,C2,e2,hl,hz,a2⟩:=comp_adv (te:=te) (Pp:=Pp) xs (ρ.set 0 #[x]) (ys++[p]) C1 a1.gs fun y C' g'=>by rw[Ws];exact h y C' g'
  refine ⟨p::zs,C2,?_,by simp[hl],fun q hq=>?_,a1.trans a2⟩
  ·simp![compL,hName,tOk,e1,e2]
  ·rcases Yn.mp hq with rfl | hq
   ·exact hp
   ·exact hz q hq
theorem ix_all {okk:PV->Bool}(L:List PV)(h:L.all okk=true)(d:Int)(h1:0<=d)(h2:d < L.length):∃p,ixQ (.lst L) (.int d)=some p/\okk p=true:=by
 have hd:d.toNat < L.length:=by lia
 refine ⟨L[d.toNat],?_,YW.mp h _ (Y7 hd)⟩
 simp[ixQ,ixP,atI,ixN,h1,h2,Yd hd]
theorem cut_len (xs:List PV)(lo hi:Option Int):(cutP xs lo hi).length<=xs.length:=by
 unfold cutP
 rw[Xl,Vy]
 lia
theorem ZdG (ns:List Int)(i:Int)(C:Cs)(hi:0<=i):∃v:Int,F_l_cell_at [.v 15e0,.v (.int i)] C=some (.v (.int v),C):=by
 by_cases h:i < ns.length
 ·have hd:i.toNat < ns.length:=by lia
  refine ⟨ns[i.toNat],?_⟩
  simp![F_l_cell_at,ixQ,ixP,atI,ixN,hi,h,Yd hd]
 ·exact ⟨0,by simp![F_l_cell_at,h]⟩
theorem Zcu (ns:List Int)(k:Int)(C:Cs)(h1:0<=k)(h2:k<=1000):∃x y:Int,FF_l_left [.v 15e0,.v (.int k)] C=some ([.int x,.int y],C)/\0<=y/\y < 2147483647:=by
 have hm:0 < (if (ns.length:Int) > 1 then (ns.length:Int) else 1):=by split<;>lia
 obtain ⟨v,ev⟩:=ZdG ns (k % (if (ns.length:Int) > 1 then (ns.length:Int) else 1)) C (Xd _ 1e2)
 obtain ⟨u,eu⟩:=ZdG ns 0 C 1e1
 have c1:-18446744073709551616 < k/\k < 18446744073709551616:=by lia
 have hm':0 < (if 1 < (ns.length:Int) then (ns.length:Int) else 1):=hm
 have ev':F_l_cell_at [.v 15e0,.v (.int (k % (if 1 < (ns.length:Int) then (ns.length:Int) else 1)))] C=some (.v (.int v),C):=ev
 have hcast:(if 1 < (ns.length:Int) then (ns.length:Int) else 1)=if 1 < ns.length then (ns.length:Int) else 1:=by
  by_cases q:1 < ns.length
  ·rw[if_pos q,if_pos 1e2]
  ·rw[if_neg q,if_neg 1e2]
 have p40:(0:Int) < 10 ^ 40:=by decide
 by_cases hu:u % 2=0
 ·refine ⟨0,(v % 2147483629 + 7919 * k * k + 11) * 48271 % 2147483647,?_,Xd _ 1e1,Y5 _ 1e1⟩
  simp![FF_l_left,mDefF,maxH,ev',eu,hm',c1,addP,hu]
 ·refine ⟨v % 10 ^ 40,(v % 2147483629 + 7919 * k * k + 11) * 48271 % 2147483647,?_,Xd _ 1e1,Y5 _ 1e1⟩
  simp![FF_l_left,mDefF,maxH,ev',eu,hm',c1,addP,hu]
structure Lt where
 h:Str
 d:Str
 n:Int
 pv:Int
 gs:List (List Key)
 t:Int
 dd:List Key
def Lt.P (l:Lt):PV:=.tup [.str l.h,.str l.d,.int l.n,.int l.pv,.tup (l.gs.map tupK),.int l.t,tupK l.dd]
def Lt.nm (l:Lt):List Key:=[.inr l.h,.inr l.d,.inl l.n]
def Lt.fo (l:Lt):List Key:=[.inr l.h,.inr l.d,.inl l.pv]
theorem ZaZ {α:Type}{f:α->PV}(h:∀x,dat (f x)=true):∀l:List α,dats (l.map f)=true
 | []=>rfl
 | a::l=>by rw[Yw];unfold dats;rw[h a,ZaZ h l];rfl
theorem ZaY {α:Type}{f:α->PV}{n:Nat}(h:∀x,dep (f x)<=n):∀l:List α,deps (l.map f)<=n
 | []=>YV _
 | a::l=>by rw[Yw];unfold deps;have:=h a;have:=ZaY h l;lia
theorem Za9 {α:Type}{f:α->PV}(h:∀x,pur (f x)=true):∀l:List α,purs (l.map f)=true
 | []=>rfl
 | a::l=>by rw[Yw];unfold purs;rw[h a,Za9 h l];rfl
theorem Zdd {α:Type}{f:α->PV}(h:∀x,flat (f x)=true):∀l:List α,flats (l.map f)=true
 | []=>rfl
 | a::l=>by rw[Yw];unfold flats;rw[h a,Zdd h l];rfl
theorem dat_kP (k:Key):dat (kP k)=true:=by cases k<;>rfl
theorem dep_kP (k:Key):dep (kP k)<=0:=by cases k<;>exact Yj _
theorem pur_kP (k:Key):pur (kP k)=true:=by cases k<;>rfl
theorem flat_kP (k:Key):flat (kP k)=true:=by cases k<;>rfl
theorem Zba (k:9e7):dat (tupK k)=true:=by unfold tupK dat;exact ZaZ dat_kP k
theorem Zbz (k:9e7):dep (tupK k)<=1:=by unfold tupK dep;have:=ZaY dep_kP k;lia
theorem Zbg (k:9e7):pur (tupK k)=true:=by unfold tupK pur;exact Za9 pur_kP k
theorem flat_tupK (k:9e7):flat (tupK k)=true:=by unfold tupK flat;exact Zdd flat_kP k
theorem dat_P (l:Lt):dat l.P=true:=by simp[Lt.P,dat,dats,ZaZ Zba,Zba]
theorem dep_P (l:Lt):dep l.P<=3:=by
 have h1:=ZaY Zbz l.gs
 have h2:=Zbz l.dd
 simp only[Lt.P,dep,deps];lia
theorem pur_P (l:Lt):pur l.P=true:=by simp[Lt.P,pur,purs,Za9 Zbg,Zbg]
theorem flat_P (l:Lt):flat l.P=true:=by simp[Lt.P,flat,flats,Zdd flat_tupK,flat_tupK]
theorem nm_P (l:Lt):tupK l.nm=.tup [.str l.h,.str l.d,.int l.n]:=rfl
theorem fo_P (l:Lt):tupK l.fo=.tup [.str l.h,.str l.d,.int l.pv]:=rfl
theorem cut3 (l:Lt):cutP [PV.str l.h,.str l.d,.int l.n,.int l.pv,.tup (l.gs.map tupK),.int l.t,tupK l.dd] none (some 3)=[.str l.h,.str l.d,.int l.n]:=by
 simp[cutP,HT.sIx]
theorem cut2 (l:Lt):cutP [PV.str l.h,.str l.d,.int l.n,.int l.pv,.tup (l.gs.map tupK),.int l.t,tupK l.dd] none (some 2)=[.str l.h,.str l.d]:=by
 simp[cutP,HT.sIx]
theorem name_of_eq (l:Lt)(C:Cs):F_name_of [.v l.P] C=some (.v (tupK l.nm),C):=by
 simp![F_name_of,Lt.P,cut3,nm_P]
theorem followed_eq (l:Lt)(C:Cs):F_followed [.v l.P] C=some (.v (tupK l.fo),C):=by
 simp![F_followed,Lt.P,ixQ,ixP,atI,ixN,fo_P]
def pr (l:Lt):List Key×PV:=(l.nm,l.P)
def dF (ls:List Lt):List (List Key)×List PV:=dFold (ls.map pr) [] []
theorem put_len {ks:4e9}{ps:List PV}{k:9e7}{p:PV}(h:ks.length=ps.length):(putKs ks k).length=(putVs ks ps k p).length:=by
 unfold putKs putVs
 cases inK k ks with
 | true=>simp[h]
 | false=>simp[h]
theorem putKs_le (ks:4e9)(k:9e7):(putKs ks k).length<=ks.length + 1:=by
 unfold putKs;split<;>simp
theorem inK_put (ks:4e9)(k q:9e7):inK q (putKs ks k)=(decide (k=q)||inK q ks):=by
 unfold putKs
 cases e:inK k ks with
 | true=>
  simp only[if_true]
  by_cases h:k=q
  ·subst h;rw[e];simp
  ·simp[h]
 | false=>
  simp only[YM,if_false]
  unfold inK
  rw[List.any_append]
  simp[Bool.or_comm]
theorem Zc8 (k q:9e7)(p:PV):∀{ks:4e9} {ps:List PV},ks.length=ps.length->inK k ks=true->lookT ks ((ks.zip ps).map fun z=>if z.1=k then p else z.2) q=if k=q then some p else lookT ks ps q
 | [],ps,h,hi=>by cases hi
 | a::ks,[],h,hi=>by simp at h
 | a::ks,b::ps,h,hi=>by
  rw[Xe,Yw]
  unfold lookT
  by_cases ha:a=k
  ·subst ha
   by_cases hq:a=q
   ·simp[hq]
   ·simp only[if_true,hq,if_false]
    by_cases hi2:inK a ks=true
    ·rw[Zc8 a q p 13e1 hi2,if_neg hq]
    ·have:((ks.zip ps).map fun z=>if z.1=a then p else z.2)=ps:=by
      clear hi
      induction ks generalizing ps with
      | nil=>cases ps with
       | nil=>rfl
       | cons _ _=>simp at h
      | cons c ks ih=>
       cases ps with
       | nil=>simp at h
       | cons d ps=>
        have hc:¬c=a:=fun z=>hi2 (by unfold inK;rw[Xz,z];simp)
        rw[Xe,Yw,ih (ps:=ps) 13e1 (fun z=>hi2 (by unfold inK at z ⊢;rw[Xz,z];simp))]
        simp[hc]
     rw[this]
  ·have hi2:inK k ks=true:=by unfold inK at hi ⊢;rw[Xz,decide_eq_false ha] at hi;simpa using hi
   simp only[ha,if_false]
   by_cases hq:a=q
   ·subst hq
    rw[if_pos rfl,if_pos rfl,if_neg (fun z=>ha z.symm)]
   ·rw[if_neg hq,if_neg hq];exact Zc8 k q p 13e1 hi2
theorem Zdy (k q:9e7)(p:PV):∀{ks:4e9} {ps:List PV},ks.length=ps.length->inK k ks=false->lookT (ks++[k]) (ps++[p]) q=if k=q then some p else lookT ks ps q
 | [],[],h,hi=>by simp[lookT]
 | [],_::_,h,hi=>by simp at h
 | a::ks,[],h,hi=>by simp at h
 | a::ks,b::ps,h,hi=>by
  unfold inK at hi
  rw[Xz,Bool.or_eq_false_iff] at hi
  have ha:¬a=k:=of_decide_eq_false hi.1
  rw[List.cons_append,List.cons_append]
  unfold lookT
  by_cases hq:a=q
  ·subst hq
   rw[if_pos rfl,if_pos rfl,if_neg (fun z=>ha z.symm)]
  ·rw[if_neg hq,if_neg hq];exact Zdy k q p 13e1 hi.2
theorem lookT_put {ks:4e9}{ps:List PV}(k q:9e7)(p:PV)(h:ks.length=ps.length):lookT (putKs ks k) (putVs ks ps k p) q=if k=q then some p else lookT ks ps q:=by
 unfold putKs putVs
 cases e:inK k ks with
 | true=>simp only[if_true];exact Zc8 k q p h e
 | false=>simp only[YM,if_false];exact Zdy k q p h e
theorem dF_look (q:9e7):∀(ls:List Lt) (ks:4e9) (ps:List PV),ks.length=ps.length->
  (∃l∈ls,l.nm=q/\lookT (dFold (ls.map pr) ks ps).1 (dFold (ls.map pr) ks ps).2 q=some l.P/\inK q (dFold (ls.map pr) ks ps).1=true)\/
  ((∀l∈ls,l.nm≠q)/\lookT (dFold (ls.map pr) ks ps).1 (dFold (ls.map pr) ks ps).2 q=lookT ks ps q/\inK q (dFold (ls.map pr) ks ps).1=inK q ks)
 | [],ks,ps,h=>.inr ⟨(fun _ z=>(nomatch z)),rfl,rfl⟩
 | l::ls,ks,ps,h=>by
  rw[show dFold ((l::ls).map pr) ks ps=dFold (ls.map pr) (putKs ks l.nm) (putVs ks ps l.nm l.P) from rfl]
  rcases dF_look q ls (putKs ks l.nm) (putVs ks ps l.nm l.P) (put_len h) with ⟨m,hm,e1,e2,e3⟩ | ⟨h1,h2,h3⟩
  ·exact .inl ⟨m,YO _ hm,e1,e2,e3⟩
  ·by_cases hq:l.nm=q
   ·refine .inl ⟨l,YA,hq,?_,?_⟩
    ·exact h2.trans (by rw[lookT_put _ _ _ h,if_pos hq])
    ·exact h3.trans (by rw[inK_put,decide_eq_true hq];rfl)
   ·refine .inr ⟨fun m hm=>?_,?_,?_⟩
    ·rcases Yn.mp hm with rfl | hm
     ·exact hq
     ·exact h1 m hm
    ·exact h2.trans (by rw[lookT_put _ _ _ h,if_neg hq])
    ·exact h3.trans (by rw[inK_put,decide_eq_false hq];rfl)
theorem look_out {ls:List Lt}{q:9e7}(h:∀l∈ls,l.nm≠q):inK q (dF ls).1=false:=by
 rcases dF_look q ls [] [] rfl with ⟨m,hm,e1,e2,e3⟩ | ⟨h1,_,h3⟩
 ·exact absurd e1 (h m hm)
 ·exact h3
abbrev bte:PSt->M SV:=mFn F_name_of 13e7
theorem compD_run (C0:Cs):∀(ls:List Lt) (ρ:PSt) (ks:4e9) (ps:List PV),ρ.length=1->ks.length + ls.length<=1000->
  compD 7e1 tOk bte 2e1 C0.length 3e0 ρ (C0++[.dtt ks ps])=some ((),C0++[.dtt (dFold (ls.map pr) ks ps).1 (dFold (ls.map pr) ks ps).2])
 | [],ρ,ks,ps,hr,h=>rfl
 | l::ls,[o],ks,ps,hr,h=>by
  have ih:=compD_run C0 ls [#[l.P]] (putKs ks l.nm) (putVs ks ps l.nm l.P) rfl (by have:=putKs_le ks l.nm;simp at h;lia)
  have hl:ks.length < 1000:=by simp at h;lia
  have hk:keysP [PV.str l.h,.str l.d,.int l.n]=some l.nm:=Za1 l.nm
  rw[Yw,Yw]
  show compD _ _ _ _ _ _ _ _=some ((),C0++[.dtt (dFold (ls.map pr) (putKs ks l.nm) (putVs ks ps l.nm l.P)).1 _])
  unfold compD
  simp![hName,tOk,bte,name_of_eq,nm_P,putD,hk,hl,ih]
  rfl
theorem by_name_eq (ls:List Lt)(C:Cs)(h:ls.length<=1000):F_by_name [.v (.lst 3e0)] C=some (.v (.dtt (dF ls).1 (dF ls).2),C):=by
 have:=compD_run C ls [none] [] [] rfl 13e1
 have hb:B_by_name=mRet (mCompD (mItems 2e1) ["letter"] [] 7e1 tOk bte 2e1):=rfl
 unfold F_by_name
 rw[hb]
 generalize hz:(dFold (ls.map pr) [] []:List (List Key)×List PV)=z at this
 simp![mCompD,mItems,itemsP,stIn',this,dF,hz]
def azs:Str:="abcdefghijklmnopqrstuvwxyz"
def azc (d:Int):Nat:=azs.cps.toList.getD d.toNat 0
def sfx (d:Int):Str:=(["","zq","x","qqzzx"]:List Str).getD d.toNat ""
theorem az_inj:∀i j:Fin 26,azs.cps.toList.getD i.1 0=azs.cps.toList.getD j.1 0->i=j:=by decide +kernel
theorem azc_inj {a b:Int}(ha:0<=a/\a < 26)(hb:0<=b/\b < 26)(h:azc a=azc b):a=b:=by
 have:=az_inj ⟨a.toNat,by lia⟩ ⟨b.toNat,by lia⟩ h
 have h2:a.toNat=b.toNat:=by simpa using this
 lia
theorem ix_azc (d:Int)(h:0<=d/\d < 26):ixQ (.str "abcdefghijklmnopqrstuvwxyz") (.int d)=some (.str ⟨[azc d].toArray⟩):=by
 have hl:azs.cps.toList.length=26:=by rfl
 have hd:d.toNat < azs.cps.toList.length:=by lia
 have h3:d < ((azs.cps.toList.length:Nat):Int):=by lia
 show (atI azs.cps.toList d).map _=_
 unfold atI ixN
 rw[if_pos h.1,if_pos h3]
 show ((azs.cps.toList[d.toNat]?).map _)=_
 unfold azc
 rw[Yd hd,XM,Yd hd]
 rfl
def wd (f s:Int)(j:Nat):Str:=(⟨[azc ((f + s * j) % 26)].toArray⟩:Str)++sfx ((f + j * j) % 4)
theorem sfx_len (d:Int)(h:0<=d/\d < 4):(sfx d).length<=5:=by
 have:d=0\/d=1\/d=2\/d=3:=by lia
 rcases this with rfl | rfl | rfl | rfl<;>decide +kernel
theorem ix_sfx (d:Int)(h:0<=d/\d < 4):ixQ (.lst [.str "",.str "zq",.str "x",.str "qqzzx"]) (.int d)=some (.str (sfx d)):=by
 have:d=0\/d=1\/d=2\/d=3:=by lia
 rcases this with rfl | rfl | rfl | rfl<;>simp[ixQ,ixP,atI,ixN,sfx]
theorem app_cps (a b:Str):(a++b).cps=a.cps++b.cps:=rfl
theorem app_len (a b:Str):(a++b).length=a.length + b.length:=by
 show (a.cps++b.cps).size=a.cps.size + b.cps.size
 simp
theorem wd_len (f s:Int)(j:Nat):(wd f s j).length<=10:=by
 unfold wd
 rw[app_len]
 have:=sfx_len ((f + j * j) % 4) ⟨Xd _ 1e1,Y5 _ 1e1⟩
 show 1 + _<=10
 lia
def stepOk (s:Int):Prop:=s=1\/s=3\/s=5\/s=7\/s=9\/s=11
theorem wd_inj {f s:Int}(hs:stepOk s){i j:Nat}(hi:i < 16)(hj:j < 16)(h:wd f s i=wd f s j):i=j:=by
 have h0:(wd f s i).cps[0]? = (wd f s j).cps[0]?:=by rw[h]
 unfold wd at h0
 rw[app_cps,app_cps] at h0
 have h1:azc ((f + s * i) % 26)=azc ((f + s * j) % 26):=by
  rw[VX 3e8,VX 3e8] at h0
  simpa using h0
 have h2:=azc_inj ⟨Xd _ 1e1,Y5 _ 1e1⟩ ⟨Xd _ 1e1,Y5 _ 1e1⟩ h1
 rcases hs with rfl | rfl | rfl | rfl | rfl | rfl<;>lia
abbrev wdt:PSt->M SV:=mOp 4e2 (mOp 3e5 3e9 (mOp (g2 modP) (mOp 4e2 5e8 (mOp (g2 mulP) 7e4 2e1)) (mC (.int 26)))) (mOp 3e5 (mVal (mLst (aCons (mC (.str "")) (aCons (mC (.str "zq")) (aCons (mC (.str "x")) (aCons (mC (.str "qqzzx")) aNil)))))) (mOp (g2 modP) (mOp 4e2 5e8 (mOp (g2 mulP) 2e1 2e1)) 15e3))
theorem wdt_gen (f s j:Int)(az c z:Str)(h1:ixQ (.str az) (.int ((f + s * j) % 26))=some (.str c))(h2:ixQ (.lst [.str "",.str "zq",.str "x",.str "qqzzx"]) (.int ((f + j * j) % 4))=some (.str z))(hl:c.length + z.length<=1000000)(hs:-18446744073709551616 < s/\s < 18446744073709551616)(hj:-18446744073709551616 < j/\j < 18446744073709551616)(C:Cs):
  wdt [#[.int j],#[.str az],#[.int f],#[.int s]] C=some (.v (.str (c++z)),C):=by
 simp![addP,hs,hj,h1,h2,hl]
theorem one_len (c:Nat):(⟨[c].toArray⟩:Str).length=1:=rfl
theorem wdt_eq (f s:Int)(j:Nat)(hf:0<=f/\f < 26)(hs:stepOk s)(hj:j < 16)(C:Cs):wdt [#[(.int (0 + (j:Int)))],#[.str "abcdefghijklmnopqrstuvwxyz"],#[.int f],#[.int s]] C=some (.v (.str (wd f s j)),C):=by
 rw[Int.zero_add]
 unfold wd
 refine wdt_gen f s (j:Int) _ _ _ (ix_azc _ ⟨Xd _ 1e1,Y5 _ 1e1⟩) (ix_sfx _ ⟨Xd _ 1e1,Y5 _ 1e1⟩) ?_ ?_ ?_ C
 ·have h3:=sfx_len ((f + j * j) % 4) ⟨Xd _ 1e1,Y5 _ 1e1⟩
  rw[one_len];lia
 ·unfold stepOk at hs;lia
 ·lia
theorem words_adv (k:Nat)(C:Cs)(h:GS C k):∃(ws:5e6) (C':Cs),F_l_words [.c k,.v (.int 16)] C=some (.v (.lst (ws.map .str)),C')/\ws.length=16/\ws.Nodup/\(∀w∈ws,w.length<=10)/\Adv k C C':=by
 obtain ⟨d,C1,e1,d1,d2,a1⟩:=Zan k 26 C h 1e1
 obtain ⟨s,C2,e2,s1,s2,a2⟩:=Zan k 6 C1 a1.gs 1e1
 have a:=a1.trans a2
 obtain ⟨st,ep,hst⟩:∃st,ixQ (.lst [.int 1,.int 3,.int 5,.int 7,.int 9,.int 11]) (.int s)=some (.int st)/\stepOk st:=by
  have:s=0\/s=1\/s=2\/s=3\/s=4\/s=5:=by lia
  rcases this with rfl | rfl | rfl | rfl | rfl | rfl
  ·exact ⟨1,rfl,.inl rfl⟩
  ·exact ⟨3,rfl,.inr 15e4⟩
  ·exact ⟨5,rfl,.inr (.inr 15e4)⟩
  ·exact ⟨7,rfl,.inr (.inr (.inr 15e4))⟩
  ·exact ⟨9,rfl,.inr (.inr (.inr (.inr 15e4)))⟩
  ·exact ⟨11,rfl,.inr (.inr (.inr (.inr (.inr rfl))))⟩
 have hF:F_l_words=mDef 2 3 (mSeq (mSet 2 (mC (.str "abcdefghijklmnopqrstuvwxyz"))) (mSeq (mSet 3 (mFn F_l_pick (aCons 2e1 (aCons (mC (.int 26)) aNil)))) (mSeq (mSet 4 (mOp 3e5 (mVal (mLst (aCons 1e9 (aCons 6e6 (aCons 13e2 (aCons (mC (.int 7)) (aCons (mC (.int 9)) (aCons (mC (.int 11)) aNil)))))))) (mFn F_l_pick (aCons 2e1 (aCons (mC (.int 6)) aNil))))) (mRetF (mComp (mRange1 (aCons 3e9 aNil)) ["_law_k"] [2,3,4] 7e1 tOk wdt))))):=rfl
 rw[hF]
 have ec:=ZcM (te:=wdt) (f:=fun p=>match p with | .int i=>.str (wd d st i.toNat) | _=>.non) ((Yl 16).map fun (j:Nat)=>PV.int (0 + j)) [none,#[.str "abcdefghijklmnopqrstuvwxyz"],#[.int d],#[.int st]] [] C2 (fun x hx=>by
  obtain ⟨j,hj,rfl⟩:=YB.mp hx
  have:=wdt_eq d st j ⟨d1,d2⟩ hst (Y1.mp hj) C2
  show wdt [#[(.int (0 + (j:Int)))],_,_,_] C2=some (.v (.str (wd d st (0 + (j:Int)).toNat)),C2)
  rw[show (0 + (j:Int)).toNat=j by lia]
  exact this)
 rw[XJ,Xf] at ec
 have em:(Yl 16).map ((fun p=>match p with | .int i=>.str (wd d st i.toNat) | _=>.non) ∘ fun (j:Nat)=>PV.int (0 + (j:Int)))=((Yl 16).map (wd d st)).map PV.str:=by
  rw[Xf]
  apply List.map_congr_left
  intro j hj
  show PV.str (wd d st (0 + (j:Int)).toNat)=_
  rw[show (0 + (j:Int)).toNat=j by lia];rfl
 rw[em] at ec
 refine ⟨(Yl 16).map (wd d st),C2,?_,by simp,?_,?_,a⟩
 ·have hr:rng1P [.v (.int 16)]=some ((Yl 16).map fun (j:Nat)=>PV.int (0 + j)):=rfl
  have hl9:((Yl 16).map fun (j:Nat)=>PV.int (0 + j)).length<=100000:=by decide
  generalize ((Yl 16).map fun (j:Nat)=>PV.int (0 + j))=rs at ec hr hl9
  generalize ((Yl 16).map (wd d st)).map PV.str=zs at ec
  generalize ("abcdefghijklmnopqrstuvwxyz":Str)=az at ec ⊢
  generalize wdt=te at ec
  simp![e1,e2,ep,mComp,mRange1,hr,hl9,stIn',ec,a.take]
 ·rw[YZ,XR]
  refine Wq (fun {x y} hx hy hne e=>?_) (YZ.mp Vz)
  exact hne (wd_inj hst (Y1.mp hx) (Y1.mp hy) e)
 ·intro w hw
  obtain ⟨j,_,rfl⟩:=YB.mp hw
  exact wd_len _ _ _
def szP (zs:List Int):PV:=.lst (zs.map .int)
structure SzOk (zs:List Int):Prop where
 ne:0 < zs.length
 le:zs.length<=12
 rg:∀z∈zs,1<=z/\z<=9
def EvOk (ks:9e7):Prop:=(∃i,ks=[.inr "joined",.inl i])\/(∃i w,ks=[.inr "said",.inl i,.inr w])\/∃a b c,ks=[.inr "did",.inl a,.inl b,.inl c]
theorem ix_ints {zs:List Int}(h:SzOk zs)(d:Int)(h1:0<=d)(h2:d < zs.length):∃z,ixQ (szP zs) (.int d)=some (.int z)/\1<=z/\z<=9:=by
 have hd:d.toNat < zs.length:=by lia
 refine ⟨zs[d.toNat],?_,h.rg _ (Y7 hd)⟩
 simp[szP,ixQ,ixP,atI,ixN,h1,h2,Yd hd]
theorem ix_szs {os:List (List Int)}(h:∀z∈os,SzOk z)(d:Int)(h1:0<=d)(h2:d < os.length):∃z,ixQ (.lst (os.map szP)) (.int d)=some (szP z)/\SzOk z:=by
 have hd:d.toNat < os.length:=by lia
 refine ⟨os[d.toNat],?_,h _ (Y7 hd)⟩
 simp[ixQ,ixP,atI,ixN,h1,h2,Yd hd]
theorem ix_strs (ws:5e6)(d:Int)(h1:0<=d)(h2:d < ws.length):∃w∈ws,ixQ (.lst (ws.map .str)) (.int d)=some (.str w):=by
 have hd:d.toNat < ws.length:=by lia
 refine ⟨ws[d.toNat],Y7 hd,?_⟩
 simp[ixQ,ixP,atI,ixN,h1,h2,Yd hd]
theorem event_adv (k:Nat)(H:Int)(os:List (List Int))(zs:List Int)(ws:5e6)(own:Int)(C:Cs)(g:GS C k)(hH:2<=H/\H<=8)(ho:∀z∈os,SzOk z)(hol:os.length<=100)(hz:SzOk zs)(hw:4<=ws.length):
  ∃ks C',F_l_event [.c k,.v (.tup [.int H,.lst (os.map szP),szP zs]),.v (.lst (ws.map .str)),.v (.int own)] C=some (.v (tupK ks),C')/\EvOk ks/\Adv k C C':=by
 obtain ⟨w,C1,e1,w1,w2,a1⟩:=Zan k 6 C g 1e1
 by_cases h2:w < 2
 ·obtain ⟨i,C2,e2,i1,i2,a2⟩:=Zan k H C1 a1.gs 1e2
  have a:=a1.trans a2
  refine ⟨[.inr "joined",.inl i],C2,?_,.inl ⟨i,rfl⟩,a⟩
  generalize os.map szP=OS
  generalize szP zs=ZS
  generalize ws.map PV.str=WS
  simp![F_l_event,mAsg,hTup,hCons,hName,hNil,e1,ltP,h2,e2,a.take,tupK,kP]
 ·by_cases h4:w < 4
  ·obtain ⟨i,C2,e2,i1,i2,a2⟩:=Zan k H C1 a1.gs 1e2
   obtain ⟨j,C3,e3,j1,j2,a3⟩:=Zan k 4 C2 a2.gs 1e1
   have a:=(a1.trans a2).trans a3
   obtain ⟨v,_,ev⟩:=ix_strs ws j j1 1e2
   have ev':ixT (.lst (ws.map .str)) (.int j)=some (.str v):=ev
   refine ⟨[.inr "said",.inl i,.inr v],C3,?_,.inr (.inl ⟨i,v,rfl⟩),a⟩
   generalize os.map szP=OS
   generalize szP zs=ZS
   generalize ws.map PV.str=WS at *
   simp![F_l_event,mAsg,hTup,hCons,hName,hNil,e1,ltP,h2,h4,e2,e3,ev',ev,a.take,tupK,kP]
  ·obtain ⟨i,C2,e2,i1,i2,a2⟩:=Zan k ((os.length:Int) + 1) C1 a1.gs 1e2
   obtain ⟨z,ez,hzz⟩:∃z,ixQ (.lst (szP zs::os.map szP)) (.int i)=some (szP z)/\SzOk z:=by
    have:=ix_szs (os:=zs::os) (fun y hy=>by
     rcases Yn.mp hy with rfl | hy
     ·exact hz
     ·exact ho y hy) i i1 (by simp;lia)
    simpa using this
   have hne:=hzz.ne
   have hle:=hzz.le
   obtain ⟨c,C3,e3,c1,c2,a3⟩:=Zan k (z.length:Int) C2 a2.gs 1e2
   obtain ⟨y,ey,y1,y2⟩:=ix_ints hzz c c1 c2
   have hlz:lenH [szP z]=some (.int (z.length:Int)):=by simp[szP,lenH]
   have hlo:1 + (os.map szP).length<=1000000:=by simp;lia
   have hcat:addP (.lst [szP zs]) (.lst (os.map szP))=some (.lst (szP zs::os.map szP)):=by
    unfold addP;simp;lia
   have hlOS:lenH [.lst (os.map szP)]=some (.int (os.length:Int)):=by simp[lenH]
   by_cases hj:i=0/\c=own
   ·obtain ⟨b,C4,e4,b1,b2,a4⟩:=Zan k H C3 a3.gs 1e2
    have a:=((a1.trans a2).trans a3).trans a4
    refine ⟨[.inr "joined",.inl b],C4,?_,.inl ⟨b,rfl⟩,a⟩
    have at':=a.take
    obtain ⟨rfl,rfl⟩:=hj
    generalize os.map szP=OS at *
    generalize szP zs=ZS at *
    generalize szP z=SZ at *
    generalize ws.map PV.str=WS
    simp[F_l_event,mDef,mRet,mCB,mOp,mTest,mAndT,mIfS,mSeq,mSkip,mSet,mTup,mLst,mVal,mFn,bnd,opM,aCons,aNil,mVar,mC,Pu.ret,g1,g2,derefs,deref,mB,asB,intP,fin,Pu.plain,eqP,scP,mAsg,hTup,hCons,hName,hNil,e1,ltP,h2,h4,hlOS,hlo,addP,e2,ez,hlz,e3,e4,at',tupK,kP]
   ·obtain ⟨b,C4,e4,b1,b2,a4⟩:=Zan k y C3 a3.gs 1e2
    have a:=((a1.trans a2).trans a3).trans a4
    refine ⟨[.inr "did",.inl i,.inl c,.inl b],C4,?_,.inr (.inr ⟨i,c,b,rfl⟩),a⟩
    have at':=a.take
    generalize os.map szP=OS at *
    generalize szP zs=ZS at *
    generalize szP z=SZ at *
    generalize ws.map PV.str=WS
    by_cases hi0:i=0
    ·have hc:¬c=own:=fun q=>hj ⟨hi0,q⟩
     subst hi0
     simp[F_l_event,mDef,mRet,mCB,mOp,mTest,mAndT,mIfS,mSeq,mSkip,mSet,mTup,mLst,mVal,mFn,bnd,opM,aCons,aNil,mVar,mC,Pu.ret,g1,g2,derefs,deref,mB,asB,intP,fin,Pu.plain,eqP,scP,mAsg,hTup,hCons,hName,hNil,e1,ltP,h2,h4,hlOS,hlo,addP,e2,ez,hlz,e3,hc,ey,e4,at',tupK,kP]
    ·simp[F_l_event,mDef,mRet,mCB,mOp,mTest,mAndT,mIfS,mSeq,mSkip,mSet,mTup,mLst,mVal,mFn,bnd,opM,aCons,aNil,mVar,mC,Pu.ret,g1,g2,derefs,deref,mB,asB,intP,fin,Pu.plain,eqP,scP,mAsg,hTup,hCons,hName,hNil,e1,ltP,h2,h4,hlOS,hlo,addP,e2,ez,hlz,e3,hi0,ey,e4,at',tupK,kP]
theorem Zal {f g:11e6}{ρ ρ1:PSt}{C C1:Cs}(h:f ρ C=some (.nx ρ1,C1)):mSeq f g ρ C=g ρ1 C1:=by
 unfold mSeq bnd;rw[h]
theorem Zbw {g:4e5}{f:11e6}(Pi:Nat->PSt->Cs->Prop)(N:Nat):∀(xs:List PV) (i:Nat),i + xs.length<=N->(∀x∈xs,∀i ρ C,i < N->Pi i ρ C->∃ρ1 ρ2 C2,g x ρ=some ρ1/\f ρ1 C=some (.nx ρ2,C2)/\Pi (i + 1) ρ2 C2)->∀ρ C,Pi i ρ C->∃ρ' C',loop g f xs ρ C=some (.nx ρ',C')/\Pi (i + xs.length) ρ' C'
 | [],i,_,_,ρ,C,h=>⟨ρ,C,rfl,h⟩
 | x::xs,i,hN,hs,ρ,C,h=>by
  simp only[YX] at hN
  obtain ⟨ρ1,ρ2,C2,e1,e2,h2⟩:=hs x 3e8 i ρ C 1e2 h
  obtain ⟨ρ',C',e3,h3⟩:=Zbw Pi N xs (i + 1) 1e2 (fun y hy=>hs y (by simp[hy])) ρ2 C2 h2
  refine ⟨ρ',C',?_,by simpa[Nat.add_assoc,Nat.add_comm 1] using h3⟩
  unfold loop
  simp only[e1,bnd,e2,e3]
structure Cl where
 a:Int
 b:Int
 p:Int
 w:Int
 cs:List (List Key)
 lv:Option (List Key×Int)
def lvP:Option (List Key×Int)->PV
 | none=>.tup []
 | some (e,n)=>.tup [tupK e,.int n]
def Cl.P (c:Cl):PV:=.tup [.int c.a,.int c.b,.int c.p,.int c.w,.tup (c.cs.map tupK),lvP c.lv]
structure ClOk (c:Cl):Prop where
 p:1<=c.p/\c.p<=9
 cs:∀e∈c.cs,EvOk e
 le:c.cs.length<=8
 lv:∀e n,c.lv=some (e,n)->EvOk e
abbrev evt:PSt->M SV:=mFn F_l_event (aCons 2e1 (aCons (mTup (aCons 3e9 (aCons 7e4 8e8))) (aCons 7e7 (aCons 12e7 aNil))))
abbrev ebd:PSt->M PF:=mSeq (mSet 12 evt) (mIfS 11e4 (mDrop (mApp 9e4 (aCons (mVar 12) aNil))) mSkip)
section
variable (k m n:Nat)(H:Int)(os:List (List Int))(zs:List Int)(ws:5e6)
abbrev bas:PSt:=[5e4,#[.int H],#[szP zs],#[.lst (os.map szP)],4e0,some (.c m)]
theorem evt_adv (c:Int)(x7 x8 x9 x10 x11 x12 x13 x14:8e1)(C:Cs)(g:GS C k)(hH:2<=H/\H<=8)(ho:∀z∈os,SzOk z)(hol:os.length<=100)(hz:SzOk zs)(hw:4<=ws.length):
  ∃e C',evt (bas k m H os zs ws++[13e4,x7,x8,x9,x10,x11,x12,x13,x14]) C=some (.v (tupK e),C')/\EvOk e/\Adv k C C':=by
 obtain ⟨e,C',h,he,a⟩:=event_adv k H os zs ws c C g hH ho hol hz hw
 refine ⟨e,C',?_,he,a⟩
 simp![evt]
 exact h
theorem notin_ev (e:9e7)(es:4e9):∃b,inDP true (tupK e) (.lst (es.map tupK))=some (.bl b):=by
 have h1:dats (es.map tupK)=true:=ZaZ Zba _
 have h2:deps (es.map tupK)<=50:=YR (ZaY Zbz _) 1e1
 refine ⟨!(es.map tupK).any (fun p=>eqD p (tupK e)),?_⟩
 unfold inDP
 dsimp only
 rw[h1,Zba,decide_eq_true h2];rfl
theorem ebd_ok (c:Int)(x7 x8 x9 x11 x12 x13 x14:8e1)(C:Cs)(es:4e9)(g:GS C k)(hkn:k≠n)(hC:C[n]? = some (.lst (es.map tupK)))(hes:∀e∈es,EvOk e)(hl:es.length<=1000)(hH:2<=H/\H<=8)(ho:∀z∈os,SzOk z)(hol:os.length<=100)(hz:SzOk zs)(hw:4<=ws.length):
  ∃(y12:8e1) (C':Cs) (es':4e9),ebd (bas k m H os zs ws++[13e4,x7,x8,x9,some (.c n),x11,x12,x13,x14]) C=some (.nx (bas k m H os zs ws++[13e4,x7,x8,x9,some (.c n),x11,y12,x13,x14]),C')/\GS C' k/\C'[n]? = some (.lst (es'.map tupK))/\(∀e∈es',EvOk e)/\es'.length<=es.length + 1/\C'.length=C.length/\∀j,j≠k->j≠n->C'[j]? = C[j]?:=by
 obtain ⟨e,C1,h1,he,a⟩:=evt_adv k m H os zs ws c x7 x8 x9 (some (.c n)) x11 x12 x13 x14 C g hH ho hol hz hw
 have hn1:C1[n]? = some (.lst (es.map tupK)):=by rw[a.oth n (Xw hkn)];exact hC
 obtain ⟨b,hb⟩:=notin_ev e es
 have st1:mSet 12 evt (bas k m H os zs ws++[13e4,x7,x8,x9,some (.c n),x11,x12,x13,x14]) C=some (.nx (bas k m H os zs ws++[13e4,x7,x8,x9,some (.c n),x11,#[tupK e],x13,x14]),C1):=by
  unfold mSet bnd;rw[h1];rfl
 have hll:(es.map tupK).length < 100000:=by simp;lia
 cases b with
 | false=>
  refine ⟨#[tupK e],C1,es,?_,a.gs,hn1,hes,by lia,a.len,fun j h _=>a.oth j h⟩
  rw[show ebd=mSeq (mSet 12 evt) (mIfS 11e4 (mDrop (mApp 9e4 (aCons (mVar 12) aNil))) mSkip) from rfl,Zal st1]
  generalize tupK e=E at *
  generalize es.map tupK=ES at *
  simp![hn1,hb]
 | true=>
  have hes2:(es++[e]).map tupK=es.map tupK++[tupK e]:=by simp
  refine ⟨#[tupK e],C1.set n (.lst ((es++[e]).map tupK)),es++[e],?_,?_,setAt hn1,?_,by simp,by simp[a.len],fun j h h'=>?_⟩
  ·rw[show ebd=mSeq (mSet 12 evt) (mIfS 11e4 (mDrop (mApp 9e4 (aCons (mVar 12) aNil))) mSkip) from rfl,Zal st1,hes2]
   generalize tupK e=E at *
   generalize es.map tupK=ES at *
   simp![hn1,hb,mApp,isLst,appC,hll]
  ·obtain ⟨x,y,h,r⟩:=a.gs
   exact ⟨x,y,by rw[Yy (Xw hkn)];exact h,r⟩
  ·intro z hz'
   rcases Yz.mp hz' with hz' | hz'
   ·exact hes z hz'
   ·rw[Yh.mp hz'];exact he
  ·rw[Yy (Xw h')];exact a.oth j h
end
abbrev crd:PSt->M SV:=mOp (g2 modP) (mOp 4e2 (mOp 4e2 (mVar 8) 1e9) (mFn F_l_pick (aCons 2e1 (aCons (mOp (g2 subP) 3e9 1e9) aNil)))) 3e9
abbrev rgE:PSt->M SV:=mOp 3e5 (mVal (mLst (aCons 3e4 (aCons 1e9 (aCons 3e4 (aCons 2e6 (aCons 1e9 (aCons 3e4 (aCons 6e6 10e5))))))))) (mFn F_l_pick (aCons 2e1 10e5))
abbrev lvS:PSt->M PF:=mIfS (mTest (mOp 9e8 10e1 3e4)) (mSeq (mSet 12 evt) (mIfS 11e4 (mSet 13 (mTup (aCons (mVar 12) (aCons (mOp 4e2 1e9 10e0) aNil)))) mSkip)) mSkip
abbrev wth:PSt->M SV:=mOp 3e5 (mVal (mLst (aCons (mOp 4e2 1e9 (mFn F_l_pick (aCons 2e1 (aCons (mC (.int 6)) aNil)))) (aCons (mOp 4e2 1e9 (mFn F_l_pick (aCons 2e1 (aCons (mC (.int 40)) aNil)))) aNil)))) 10e1
abbrev clT:PSt->M SV:=mTup (aCons (mVar 8) (aCons (mVar 9) (aCons 14e4 (aCons (mVar 14) (aCons (mCB (g1 tupH) (aCons 9e4 aNil)) (aCons (mVar 13) aNil))))))
abbrev cbd:PSt->M PF:=mSeq (mSet 8 (mFn F_l_pick (aCons 2e1 (aCons 3e9 aNil)))) (mSeq (mSet 9 crd) (mSeq (mNew 10 11e0) (mSeq (mFor (mRange1 (aCons rgE aNil)) (hName 11) ebd) (mSeq (mSet 13 (mTup aNil)) (mSeq lvS (mSeq (mSet 14 wth) (mDrop (mApp 7e8 (aCons clT aNil)))))))))
theorem clauses_is:B_l_clauses=mSeq (mNew 5 11e0) (mSeq (mFor (mEnum 8e8) (hTup (hCons (hName 6) (hCons (hName 7) hNil)) 2) cbd) (mRet (mCB (g1 tupH) 12e9))):=rfl
section
variable (k m:Nat)(H:Int)(os:List (List Int))(zs:List Int)(ws:5e6)
theorem crd_adv (d:Int)(x6 x7 x9 x10 x11 x12 x13 x14:8e1)(C:Cs)(g:GS C k)(hH:2<=H/\H<=8):
  ∃v C',crd (bas k m H os zs ws++[x6,x7,#[.int d],x9,x10,x11,x12,x13,x14]) C=some (.v (.int v),C')/\Adv k C C':=by
 obtain ⟨y,C',e,y1,y2,a⟩:=Zan k (H - 1) C g 1e2
 refine ⟨(d + 1 + y) % H,C',?_,a⟩
 have h1:0 < H:=by lia
 have h2:H < 1073741824:=by lia
 simp![crd,addP,subP,e,modP,h1,h2]
theorem rgE_adv (x6 x7 x8 x9 x10 x11 x12 x13 x14:8e1)(C:Cs)(g:GS C k):
  ∃v C',rgE (bas k m H os zs ws++[x6,x7,x8,x9,x10,x11,x12,x13,x14]) C=some (.v (.int v),C')/\0<=v/\v<=8/\Adv k C C':=by
 obtain ⟨y,C',e,y1,y2,a⟩:=Zan k 8 C g 1e1
 obtain ⟨v,hv,h0,h8⟩:∃v,ixQ (.lst [.int 0,.int 1,.int 0,.int 2,.int 1,.int 0,.int 3,.int 8]) (.int y)=some (.int v)/\0<=v/\v<=8:=by
  obtain ⟨p,ep,hp⟩:=ix_all (okk:=fun p=>match p with | .int i=>decide (0<=i)&&decide (i<=8) | _=>false) [.int 0,.int 1,.int 0,.int 2,.int 1,.int 0,.int 3,.int 8] (by rfl) y y1 (by simpa using y2)
  cases p with
  | int i=>simp only[Ys,decide_eq_true_eq] at hp;exact ⟨i,ep,hp⟩
  | _=>cases hp
 refine ⟨v,C',?_,h0,h8,a⟩
 simp![rgE,e,hv]
theorem wth_adv (x6 x7 x8 x9 x10 x11 x12 x13 x14:8e1)(C:Cs)(g:GS C k):
  ∃v C',wth (bas k m H os zs ws++[x6,x7,x8,x9,x10,x11,x12,x13,x14]) C=some (.v (.int v),C')/\Adv k C C':=by
 obtain ⟨y1,C1,e1,_,_,a1⟩:=Zan k 6 C g 1e1
 obtain ⟨y2,C2,e2,_,_,a2⟩:=Zan k 40 C1 a1.gs 1e1
 obtain ⟨y3,C3,e3,h1,h2,a3⟩:=Zan k 2 C2 a2.gs 1e1
 obtain ⟨v,hv⟩:∃v,ixQ (.lst [.int (1 + y1),.int (1 + y2)]) (.int y3)=some (.int v):=by
  have:y3=0\/y3=1:=by lia
  rcases this with rfl | rfl
  ·exact 8e9
  ·exact 8e9
 refine ⟨v,C3,?_,(a1.trans a2).trans a3⟩
 simp![wth,addP,e1,e2,e3,hv]
theorem lvS_ok (n:Nat)(c:Int)(x7 x8 x9 x11 x12 x14:8e1)(C:Cs)(es:4e9)(g:GS C k)(hkn:k≠n)(hC:C[n]? = some (.lst (es.map tupK)))(hH:2<=H/\H<=8)(ho:∀z∈os,SzOk z)(hol:os.length<=100)(hz:SzOk zs)(hw:4<=ws.length):
  ∃(y12:8e1) (lv:Option (List Key×Int)) (C':Cs),lvS (bas k m H os zs ws++[13e4,x7,x8,x9,some (.c n),x11,x12,#[.tup []],x14]) C=some (.nx (bas k m H os zs ws++[13e4,x7,x8,x9,some (.c n),x11,y12,#[lvP lv],x14]),C')/\(∀e i,lv=some (e,i)->EvOk e)/\Adv k C C':=by
 obtain ⟨y,C1,e1,y1,y2,a1⟩:=Zan k 2 C g 1e1
 have t:deepP eqD (.int y) (.int 0)=some (.bl (y==0)):=by simp[deepP,dat,dep,eqD]
 cases hy:(y==0) with
 | false=>
  rw[hy] at t
  refine ⟨x12,none,C1,?_,(fun e i h=>(nomatch h)),a1⟩
  simp![lvS,e1,t,lvP]
 | true=>
  rw[hy] at t
  obtain ⟨e,C2,h2,he,a2⟩:=evt_adv k m H os zs ws c x7 x8 x9 (some (.c n)) x11 x12 #[.tup []] x14 C1 a1.gs hH ho hol hz hw
  have a12:=a1.trans a2
  have hn2:C2[n]? = some (.lst (es.map tupK)):=by rw[a12.oth n (Xw hkn)];exact hC
  obtain ⟨b,hb⟩:=notin_ev e es
  have st0:∀f:PSt->M PF,mIfS (mTest (mOp 9e8 10e1 3e4)) f mSkip (bas k m H os zs ws++[13e4,x7,x8,x9,some (.c n),x11,x12,#[.tup []],x14]) C=f (bas k m H os zs ws++[13e4,x7,x8,x9,some (.c n),x11,x12,#[.tup []],x14]) C1:=fun f=>by
   simp![e1,t]
  have st1:mSet 12 evt (bas k m H os zs ws++[13e4,x7,x8,x9,some (.c n),x11,x12,#[.tup []],x14]) C1=some (.nx (bas k m H os zs ws++[13e4,x7,x8,x9,some (.c n),x11,#[tupK e],#[.tup []],x14]),C2):=by
   unfold mSet bnd;rw[h2];rfl
  cases b with
  | false=>
   refine ⟨#[tupK e],none,C2,?_,(fun e i h=>(nomatch h)),a12⟩
   rw[show lvS=mIfS (mTest (mOp 9e8 10e1 3e4)) (mSeq (mSet 12 evt) (mIfS 11e4 (mSet 13 (mTup (aCons (mVar 12) (aCons (mOp 4e2 1e9 10e0) aNil)))) mSkip)) mSkip from rfl,st0,Zal st1]
   generalize tupK e=E at *
   generalize es.map tupK=ES at *
   simp![hn2,hb,lvP]
  | true=>
   obtain ⟨z,C3,e3,_,_,a3⟩:=Zan k 9 C2 a12.gs 1e1
   refine ⟨#[tupK e],some (e,1 + z),C3,?_,(fun e' i h=>by cases h;exact he),a12.trans a3⟩
   rw[show lvS=mIfS (mTest (mOp 9e8 10e1 3e4)) (mSeq (mSet 12 evt) (mIfS 11e4 (mSet 13 (mTup (aCons (mVar 12) (aCons (mOp 4e2 1e9 10e0) aNil)))) mSkip)) mSkip from rfl,st0,Zal st1]
   rw[show lvP (some (e,1 + z))=.tup [tupK e,.int (1 + z)] from rfl]
   generalize tupK e=E at *
   generalize es.map tupK=ES at *
   simp![hn2,hb,e3,addP]
end
theorem GS.lt {C:Cs}{k:Nat}(g:GS C k):k < C.length:=by
 obtain ⟨x,y,h,_⟩:=g
 rcases YH k C.length with q | q
 ·exact q
 ·rw[Yi.mpr q] at h;cases h
theorem GS.app {C:Cs}{k:Nat}(g:GS C k)(c:PV):GS (C++[c]) k:=by
 have hl:=g.lt
 obtain ⟨x,y,h,r⟩:=g
 exact ⟨x,y,by rw[Yf hl];exact h,r⟩
section
variable (k m:Nat)(H:Int)(os:List (List Int))(zs:List Int)(ws:5e6)
theorem cbd_ok (c p:Int)(x8 x9 x10 x11 x12 x13 x14:8e1)(C:Cs)(cs:List Cl)(g:GS C k)(hkm:k≠m)(hC:C[m]? = some (.lst (cs.map Cl.P)))(hcs:∀d∈cs,ClOk d)(hl:cs.length<=1000)(hp:1<=p/\p<=9)(hH:2<=H/\H<=8)(ho:∀z∈os,SzOk z)(hol:os.length<=100)(hz:SzOk zs)(hw:4<=ws.length):
  ∃(y8 y9 y10 y11 y12 y13 y14:8e1) (C':Cs) (d:Cl),cbd (bas k m H os zs ws++[13e4,#[.int p],x8,x9,x10,x11,x12,x13,x14]) C=some (.nx (bas k m H os zs ws++[13e4,#[.int p],y8,y9,y10,y11,y12,y13,y14]),C')/\ClOk d/\GS C' k/\C'[m]? = some (.lst ((cs++[d]).map Cl.P))/\C.length<=C'.length/\∀j,j < C.length->j≠k->j≠m->C'[j]? = C[j]?:=by
 have hml:m < C.length:=by
  rcases YH m C.length with q | q
  ·exact q
  ·rw[Yi.mpr q] at hC;cases hC
 obtain ⟨d,C1,e1,d1,d2,a1⟩:=Zan k H C g 1e2
 have st1:mSet 8 (mFn F_l_pick (aCons 2e1 (aCons 3e9 aNil))) (bas k m H os zs ws++[13e4,#[.int p],x8,x9,x10,x11,x12,x13,x14]) C=some (.nx (bas k m H os zs ws++[13e4,#[.int p],#[.int d],x9,x10,x11,x12,x13,x14]),C1):=by
  simp![e1]
 obtain ⟨v,C2,e2,a2⟩:=crd_adv k m H os zs ws d #[.int c] #[.int p] x9 x10 x11 x12 x13 x14 C1 a1.gs hH
 have a12:=a1.trans a2
 have st2:mSet 9 crd (bas k m H os zs ws++[13e4,#[.int p],#[.int d],x9,x10,x11,x12,x13,x14]) C1=some (.nx (bas k m H os zs ws++[13e4,#[.int p],#[.int d],#[.int v],x10,x11,x12,x13,x14]),C2):=by
  unfold mSet bnd;rw[e2];rfl
 have st3:mNew 10 11e0 (bas k m H os zs ws++[13e4,#[.int p],#[.int d],#[.int v],x10,x11,x12,x13,x14]) C2=some (.nx (bas k m H os zs ws++[13e4,#[.int p],#[.int d],#[.int v],7e2,x11,x12,x13,x14]),C2++[.lst []]):=by
  simp![mNew]
 have g3:=a12.gs.app (.lst [])
 have hkn:k≠C2.length:=Yq a12.gs.lt
 have hmn:m≠C2.length:=by rw[a12.len];lia
 obtain ⟨r,C4,e4,r0,r8,a4⟩:=rgE_adv k m H os zs ws #[.int c] #[.int p] #[.int d] #[.int v] (some (.c C2.length)) x11 x12 x13 x14 (C2++[.lst []]) g3
 have hn4:C4[C2.length]? = some (.lst (([]:List (List Key)).map tupK)):=by rw[a4.oth _ (Xw hkn)];simp
 obtain ⟨ρ',C5,e5,hpi⟩:=Zbw (g:=hName 11) (f:=ebd) (fun i ρ D=>∃(z11 z12:8e1) (es:4e9),ρ=bas k m H os zs ws++[13e4,#[.int p],#[.int d],#[.int v],7e2,z11,z12,x13,x14]/\GS D k/\D[C2.length]? = some (.lst (es.map tupK))/\(∀e∈es,EvOk e)/\es.length<=i/\D.length=C4.length/\∀j,j≠k->j≠C2.length->D[j]? = C4[j]?) 8
  ((Yl r.toNat).map fun (q:Nat)=>PV.int (0 + q)) 0 11e1 (fun x hx i ρ D hi h=>by
   obtain ⟨z11,z12,es,rfl,h1,h2,h3,h4,h5,h6⟩:=h
   obtain ⟨y12,D',es',t1,t2,t3,t4,t5,t6,t7⟩:=ebd_ok k m C2.length H os zs ws c #[.int p] #[.int d] #[.int v] #[x] z12 x13 x14 D es h1 hkn h2 h3 1e2 hH ho hol hz hw
   exact ⟨_,_,D',rfl,t1,#[x],y12,es',rfl,t2,t3,t4,by lia,by rw[t6,h5],fun j q1 q2=>by rw[t7 j q1 q2,h6 j q1 q2]⟩) (bas k m H os zs ws++[#[.int c],#[.int p],#[.int d],#[.int v],some (.c C2.length),x11,x12,x13,x14]) C4 ⟨x11,x12,[],rfl,a4.gs,hn4,(fun e h=>(nomatch h)),Yj _,rfl,fun _ _ _=>rfl⟩
 obtain ⟨z11,z12,es,rfl,g5,hn5,hes,hel,hl5,ho5⟩:=hpi
 have hel8:es.length<=8:=by simp at hel;lia
 have st4:mFor (mRange1 (aCons rgE aNil)) (hName 11) ebd (bas k m H os zs ws++[13e4,#[.int p],#[.int d],#[.int v],7e2,x11,x12,x13,x14]) (C2++[.lst []])=some (.nx (bas k m H os zs ws++[13e4,#[.int p],#[.int d],#[.int v],7e2,z11,z12,x13,x14]),C5):=by
  have hr:rng1P [.v (.int r)]=some ((Yl r.toNat).map fun (q:Nat)=>PV.int (0 + q)):=by
   unfold rng1P;dsimp only;rw[if_pos 1e2]
  have hm:mRange1 (aCons rgE aNil) (bas k m H os zs ws++[13e4,#[.int p],#[.int d],#[.int v],7e2,x11,x12,x13,x14]) (C2++[.lst []])=some ((Yl r.toNat).map fun (q:Nat)=>PV.int (0 + q),C4):=by
   have:aCons rgE aNil (bas k m H os zs ws++[13e4,#[.int p],#[.int d],#[.int v],7e2,x11,x12,x13,x14]) (C2++[.lst []])=some ([.v (.int r)],C4):=by
    unfold aCons bnd;rw[e4];rfl
   unfold mRange1 bnd;rw[this]
   show opM (fun _=>rng1P [.v (.int r)]) C4=_
   unfold opM;dsimp only;rw[hr]
  unfold mFor bnd;rw[hm];exact e5
 have st5:mSet 13 (mTup aNil) (bas k m H os zs ws++[13e4,#[.int p],#[.int d],#[.int v],7e2,z11,z12,x13,x14]) C5=some (.nx (bas k m H os zs ws++[13e4,#[.int p],#[.int d],#[.int v],7e2,z11,z12,#[.tup []],x14]),C5):=by
  simp![]
 obtain ⟨u12,lv,C6,st6,hlv,a6⟩:=lvS_ok k m H os zs ws C2.length c #[.int p] #[.int d] #[.int v] z11 z12 x14 C5 es g5 hkn hn5 hH ho hol hz hw
 obtain ⟨wi,C7,e7,a7⟩:=wth_adv k m H os zs ws #[.int c] #[.int p] #[.int d] #[.int v] (some (.c C2.length)) z11 u12 #[lvP lv] x14 C6 a6.gs
 have st7:mSet 14 wth (bas k m H os zs ws++[13e4,#[.int p],#[.int d],#[.int v],7e2,z11,u12,#[lvP lv],x14]) C6=some (.nx (bas k m H os zs ws++[13e4,#[.int p],#[.int d],#[.int v],7e2,z11,u12,#[lvP lv],#[.int wi]]),C7):=by
  unfold mSet bnd;rw[e7];rfl
 have a67:=a6.trans a7
 have hn7:C7[C2.length]? = some (.lst (es.map tupK)):=by rw[a67.oth _ (Xw hkn)];exact hn5
 have hoth:∀j,j < C.length->j≠k->C7[j]? = C[j]?:=fun j hj hk=>by
  have hjn:j≠C2.length:=by rw[a12.len];lia
  rw[a67.oth j hk,ho5 j hk hjn,a4.oth j hk,Yf (by rw[a12.len];exact hj),a12.oth j hk]
 have hm7:C7[m]? = some (.lst (cs.map Cl.P)):=by rw[hoth m hml (Xw hkm)];exact hC
 have hlen7:C.length<=C7.length:=by rw[a67.len,hl5,a4.len,Xn,a12.len];lia
 have hll:(cs.map Cl.P).length < 100000:=by simp;lia
 refine ⟨#[.int d],#[.int v],7e2,z11,u12,#[lvP lv],#[.int wi],C7.set m (.lst ((cs++[(⟨d,v,p,wi,es,lv⟩:Cl)]).map Cl.P)),⟨d,v,p,wi,es,lv⟩,?_,⟨hp,hes,hel8,hlv⟩,?_,setAt hm7,by rw[XI];exact hlen7,fun j hj hk hm=>?_⟩
 ·rw[show cbd=mSeq (mSet 8 (mFn F_l_pick (aCons 2e1 (aCons 3e9 aNil)))) (mSeq (mSet 9 crd) (mSeq (mNew 10 11e0) (mSeq (mFor (mRange1 (aCons rgE aNil)) (hName 11) ebd) (mSeq (mSet 13 (mTup aNil)) (mSeq lvS (mSeq (mSet 14 wth) (mDrop (mApp 7e8 (aCons clT aNil))))))))) from rfl]
  rw[Zal st1,Zal st2,Zal st3,Zal st4,Zal st5,Zal st6,Zal st7]
  rw[show (cs++[(⟨d,v,p,wi,es,lv⟩:Cl)]).map Cl.P=cs.map Cl.P++[.tup [.int d,.int v,.int p,.int wi,.tup (es.map tupK),lvP lv]] by rw[Xv];rfl]
  generalize cs.map Cl.P=CS at *
  generalize es.map tupK=ES at *
  generalize lvP lv=LV at *
  simp![mApp,isLst,hm7,hn7,tupH,appC,hll]
 ·obtain ⟨x,y,h,r⟩:=a67.gs
  exact ⟨x,y,by rw[Yy (Xw hkm)];exact h,r⟩
 ·rw[Yy (Xw hm)];exact hoth j hj hk
end
theorem enum_int {zs:List Int}{x:PV}(h:x∈enumL (zs.map .int)):∃(i:Nat) (z:Int),z∈zs/\x=.tup [.int (i:Nat),.int z]:=by
 unfold enumL at h
 obtain ⟨i,hi,rfl⟩:=YB.mp h
 have hi:i < zs.length:=by simpa using hi
 exact ⟨i,zs[i],Y7 hi,by simp[hi]⟩
theorem adv_cut {k:Nat}{C D:Cs}(hl:C.length<=D.length)(g:GS D k)(hk:k < C.length)(h:∀j,j < C.length->j≠k->D[j]? = C[j]?):Adv k C (D.take C.length):=by
 refine ⟨by rw[Xl];lia,?_,fun j hj=>?_⟩
 ·obtain ⟨x,y,e,r⟩:=g
  exact ⟨x,y,by rw[Xh hk];exact e,r⟩
 ·rcases YH j C.length with q | q
  ·rw[Xh q];exact h j q hj
  ·rw[Yi.mpr (by rw[Xl];lia),Yi.mpr q]
theorem clauses_adv (k:Nat)(H:Int)(os:List (List Int))(zs:List Int)(ws:5e6)(C:Cs)(g:GS C k)(hH:2<=H/\H<=8)(ho:∀z∈os,SzOk z)(hol:os.length<=100)(hz:SzOk zs)(hw:4<=ws.length):
  ∃(cs:List Cl) (C':Cs),F_l_clauses [.c k,.v (.int H),.v (szP zs),.v (.lst (os.map szP)),.v (.lst (ws.map .str))] C=some (.v (.tup (cs.map Cl.P)),C')/\cs.length=zs.length/\(∀c∈cs,ClOk c)/\Adv k C C':=by
 have hk:=g.lt
 have hkm:k≠C.length:=Yq hk
 have hle:=hz.le
 obtain ⟨ρ',D,e,hpi⟩:=Zbw (g:=hTup (hCons (hName 6) (hCons (hName 7) hNil)) 2) (f:=cbd) (fun i ρ D=>∃(x6 x7 x8 x9 x10 x11 x12 x13 x14:8e1) (cs:List Cl),ρ=bas k C.length H os zs ws++[x6,x7,x8,x9,x10,x11,x12,x13,x14]/\GS D k/\D[C.length]? = some (.lst (cs.map Cl.P))/\(∀c∈cs,ClOk c)/\cs.length=i/\C.length + 1<=D.length/\∀j,j < C.length->j≠k->D[j]? = C[j]?) 12
  (enumL (zs.map .int)) 0 (by rw[ZbL];simp;lia) (fun x hx i ρ D hi h=>by
   obtain ⟨j,z,hzm,rfl⟩:=enum_int hx
   obtain ⟨x6,x7,x8,x9,x10,x11,x12,x13,x14,cs,rfl,h1,h2,h3,h4,h5,h6⟩:=h
   obtain ⟨y8,y9,y10,y11,y12,y13,y14,D',c,t1,t2,t3,t4,t5,t6⟩:=cbd_ok k C.length H os zs ws (j:Int) z x8 x9 x10 x11 x12 x13 x14 D cs h1 hkm h2 h3 1e2 (hz.rg z hzm) hH ho hol hz hw
   refine ⟨_,_,D',rfl,t1,#[14e8],#[.int z],y8,y9,y10,y11,y12,y13,y14,cs++[c],rfl,t3,t4,fun d hd=>?_,by simp[h4],by lia,fun q q1 q2=>?_⟩
   ·rcases Yz.mp hd with hd | hd
    ·exact h3 d hd
    ·rw[Yh.mp hd];exact t2
   ·rw[t6 q (by lia) q2 (by lia),h6 q q1 q2]) (bas k C.length H os zs ws++[none,none,none,none,none,none,none,none,none]) (C++[.lst []]) ⟨none,none,none,none,none,none,none,none,none,[],rfl,g.app _,by simp,(fun c h=>(nomatch h)),rfl,by simp,fun j h1 h2=>by rw[Yf h1]⟩
 obtain ⟨x6,x7,x8,x9,x10,x11,x12,x13,x14,cs,rfl,h1,h2,h3,h4,h5,h6⟩:=hpi
 refine ⟨cs,D.take C.length,?_,by rw[h4,ZbL];simp,h3,adv_cut 1e2 h1 hk h6⟩
 have st1:mNew 5 11e0 [5e4,#[.int H],#[szP zs],#[.lst (os.map szP)],4e0,none,none,none,none,none,none,none,none,none,none] C=some (.nx (bas k C.length H os zs ws++[none,none,none,none,none,none,none,none,none]),C++[.lst []]):=by
  simp![mNew]
 have st2:mFor (mEnum 8e8) (hTup (hCons (hName 6) (hCons (hName 7) hNil)) 2) cbd (bas k C.length H os zs ws++[none,none,none,none,none,none,none,none,none]) (C++[.lst []])=some (.nx (bas k C.length H os zs ws++[x6,x7,x8,x9,x10,x11,x12,x13,x14]),D):=by
  have:mEnum 8e8 (bas k C.length H os zs ws++[none,none,none,none,none,none,none,none,none]) (C++[.lst []])=some (enumL (zs.map .int),C++[.lst []]):=by
   simp![mEnum,szP,enumP]
  unfold mFor bnd;rw[this];exact e
 unfold F_l_clauses
 rw[clauses_is]
 show (match mSeq _ _ [5e4,some (.v (.int H)),some (.v (szP zs)),some (.v (.lst (os.map szP))),some (.v (.lst (ws.map .str))),none,none,none,none,none,none,none,none,none,none] C with
  | some (.rt r,C')=>fin C.length C' r
  | some (.nx _,C')=>some (.v .non,C'.take C.length)
  | some (.rf ps,C')=>some (.v 8e6,C'.take C.length)
  | some (.rq qs,C')=>(finQ C.length C' qs).map fun ps=>(.v 9e2,C'.take C.length)
  | _=>none)=_
 rw[Zal st1,Zal st2]
 generalize cs.map Cl.P=CS at *
 simp![h2,tupH]
structure Sh where
 H:Int
 zs:List Int
 q:Int
def Sh.P (s:Sh):PV:=.tup [.int s.H,szP s.zs,.int s.q]
structure ShOk (s:Sh):Prop where
 H:2<=s.H/\s.H<=8
 zs:SzOk s.zs
 q:0<=s.q/\s.q < 3
def inRg (lo hi:Int)(p:PV):Bool:=match p with
 | .int i=>decide (lo<=i)&&decide (i<=hi)
 | _=>false
theorem ix_rg (L:List PV)(lo hi:Int)(h:L.all (inRg lo hi)=true)(d:Int)(h1:0<=d)(h2:d < L.length):∃v,ixQ (.lst L) (.int d)=some (.int v)/\lo<=v/\v<=hi:=by
 obtain ⟨p,ep,hp⟩:=ix_all (okk:=inRg lo hi) L h d h1 h2
 cases p with
 | int i=>simp only[inRg,Ys,decide_eq_true_eq] at hp;exact ⟨i,ep,hp⟩
 | _=>cases hp
theorem ZdC (C:Cs)(x y:Int)(h:0<=y/\y < 2147483647):GS (C++10e8) C.length:=⟨x,y,by simp,h⟩
abbrev szE:PSt->M SV:=mOp 3e5 (mVal (mLst (aCons 1e9 (aCons 1e9 (aCons 2e6 (aCons 1e9 (aCons 6e6 (aCons 1e9 (aCons 2e6 (aCons (mC (.int 9)) aNil)))))))))) 4e8
theorem szE_adv (k:Nat)(x:8e1)(C:Cs)(g:GS C k):∃p C',szE [x,5e4] C=some (.v p,C')/\(∃z,p=.int z/\1<=z/\z<=9)/\Adv k C C':=by
 obtain ⟨y,C',e,y1,y2,a⟩:=Zan k 8 C g 1e1
 obtain ⟨v,hv,h0,h8⟩:=ix_rg [.int 1,.int 1,.int 2,.int 1,.int 3,.int 1,.int 2,.int 9] 1 9 1e0 y y1 (by simpa using y2)
 refine ⟨.int v,C',?_,⟨v,rfl,h0,h8⟩,a⟩
 simp![szE,e,hv]
theorem ints_of:∀(L:List PV),(∀p∈L,∃z,p=.int z/\1<=z/\z<=9)->∃zs:List Int,L=zs.map .int/\∀z∈zs,1<=z/\z<=9
 | [],_=>⟨[],rfl,(fun _ h=>(nomatch h))⟩
 | p::L,h=>by
  obtain ⟨z,rfl,hz⟩:=h p 3e8
  obtain ⟨zs,rfl,hzs⟩:=ints_of L fun q hq=>h q (by simp[hq])
  exact ⟨z::zs,rfl,fun y hy=>by
   rcases Yn.mp hy with rfl | hy
   ·exact hz
   ·exact hzs y hy⟩
abbrev abd:PSt->M PF:=mSeq (mNew 1 (mFnF FF_l_left (aCons 2e1 (aCons (mOp 4e2 2e6 7e8) aNil)))) (mSeq (mSet 6 (mOp 3e5 (mVal (mLst (aCons 2e6 (aCons 6e6 (aCons 2e6 (aCons 6e6 (aCons 15e3 (aCons 2e6 (aCons 13e2 10e5))))))))) 4e8)) (mSeq (mSet 7 (mOp 3e5 (mVal (mLst (aCons 1e9 (aCons 2e6 (aCons 1e9 (aCons 6e6 (aCons 2e6 (aCons 15e3 (aCons (mC (.int 7)) (aCons (mC (.int 12)) aNil)))))))))) 4e8)) (mSeq (mSet 8 (mVal (mComp (mRange1 (aCons 14e4 aNil)) ["_law_c"] [1] 7e1 tOk szE))) (mDrop (mApp 7e7 (aCons (mTup (aCons 12e7 (aCons (mVar 8) (aCons (mFn F_l_pick (aCons 3e9 (aCons 6e6 aNil))) aNil)))) aNil))))))
theorem abd_ok (ns:List Int)(W:8e1)(M:8e1)(a:Nat)(i:Int)(x1 x6 x7 x8 x9 x10 x11 x12 x13:8e1)(sh:List Sh)(D:Cs)(hi:0<=i/\i<=100)(hD:D[a]? = some (.lst (sh.map Sh.P)))(hsh:∀s∈sh,ShOk s)(hl:sh.length<=1000):
  ∃(y1 y6 y7 y8:8e1) (D':Cs) (s:Sh),abd [1e7,x1,W,M,6e2,#[.int i],x6,x7,x8,x9,x10,x11,x12,x13] D=some (.nx [1e7,y1,W,M,6e2,#[.int i],y6,y7,y8,x9,x10,x11,x12,x13],D')/\ShOk s/\D'[a]? = some (.lst ((sh++[s]).map Sh.P))/\D.length<=D'.length/\∀j,j < D.length->j≠a->D'[j]? = D[j]?:=by
 have hal:a < D.length:=by
  rcases YH a D.length with q | q
  ·exact q
  ·rw[Yi.mpr q] at hD;cases hD
 obtain ⟨x,y,el,hy⟩:=Zcu ns (2 + i) D 1e2 1e2
 have st1:mNew 1 (mFnF FF_l_left (aCons 2e1 (aCons (mOp 4e2 2e6 7e8) aNil))) [1e7,x1,W,M,6e2,#[.int i],x6,x7,x8,x9,x10,x11,x12,x13] D=some (.nx [1e7,5e5,W,M,6e2,#[.int i],x6,x7,x8,x9,x10,x11,x12,x13],D++10e8):=by
  simp![mNew,addP,el]
 have g0:=ZdC D x y hy
 obtain ⟨p1,C1,e1,p1a,p1b,a1⟩:=Zan D.length 8 _ g0 1e1
 obtain ⟨H,hH,H1,H2⟩:=ix_rg [.int 2,.int 3,.int 2,.int 3,.int 4,.int 2,.int 5,.int 8] 2 8 1e0 p1 p1a (by simpa using p1b)
 obtain ⟨p2,C2,e2,p2a,p2b,a2⟩:=Zan D.length 8 _ a1.gs 1e1
 obtain ⟨n,hn,n1,n2⟩:=ix_rg [.int 1,.int 2,.int 1,.int 3,.int 2,.int 4,.int 7,.int 12] 1 12 1e0 p2 p2a (by simpa using p2b)
 have st2:mSet 6 (mOp 3e5 (mVal (mLst (aCons 2e6 (aCons 6e6 (aCons 2e6 (aCons 6e6 (aCons 15e3 (aCons 2e6 (aCons 13e2 10e5))))))))) 4e8) [1e7,5e5,W,M,6e2,#[.int i],x6,x7,x8,x9,x10,x11,x12,x13] (D++10e8)=some (.nx [1e7,5e5,W,M,6e2,#[.int i],#[.int H],x7,x8,x9,x10,x11,x12,x13],C1):=by
  simp![e1,hH]
 have st3:mSet 7 (mOp 3e5 (mVal (mLst (aCons 1e9 (aCons 2e6 (aCons 1e9 (aCons 6e6 (aCons 2e6 (aCons 15e3 (aCons (mC (.int 7)) (aCons (mC (.int 12)) aNil)))))))))) 4e8) [1e7,5e5,W,M,6e2,#[.int i],#[.int H],x7,x8,x9,x10,x11,x12,x13] C1=some (.nx [1e7,5e5,W,M,6e2,#[.int i],#[.int H],#[.int n],x8,x9,x10,x11,x12,x13],C2):=by
  simp![e2,hn]
 obtain ⟨L,C3,e3,hL,hLp,a3⟩:=comp_adv (te:=szE) (k:=D.length) (Pp:=fun p=>∃z,p=.int z/\1<=z/\z<=9) ((Yl n.toNat).map fun (q:Nat)=>PV.int (0 + q)) [none,5e5] [] C2 a2.gs (fun x C g=>szE_adv D.length #[x] C g)
 obtain ⟨zs,rfl,hzs⟩:=ints_of L hLp
 rw[XJ] at e3
 have hzl:zs.length=n.toNat:=by simpa using hL
 have st4:mSet 8 (mVal (mComp (mRange1 (aCons 14e4 aNil)) ["_law_c"] [1] 7e1 tOk szE)) [1e7,5e5,W,M,6e2,#[.int i],#[.int H],#[.int n],x8,x9,x10,x11,x12,x13] C2=some (.nx [1e7,5e5,W,M,6e2,#[.int i],#[.int H],#[.int n],#[szP zs],x9,x10,x11,x12,x13],C3):=by
  have hr:rng1P [.v (.int n)]=some ((Yl n.toNat).map fun (q:Nat)=>PV.int (0 + q)):=by
   unfold rng1P;dsimp only;rw[if_pos 1e2]
  have hrl:((Yl n.toNat).map fun (q:Nat)=>PV.int (0 + q)).length<=100000:=by simp;lia
  generalize ((Yl n.toNat).map fun (q:Nat)=>PV.int (0 + q))=rs at e3 hr hrl
  unfold szP
  generalize zs.map PV.int=ZS at *
  generalize szE=te at e3
  simp![mComp,mRange1,hr,hrl,stIn',e3]
 obtain ⟨q,C4,e4,q1,q2,a4⟩:=Zan D.length 3 _ a3.gs 1e1
 have aa:=((a1.trans a2).trans a3).trans a4
 have hoth:∀j,j < D.length->C4[j]? = D[j]?:=fun j hj=>by
  rw[aa.oth j (Yq hj),Yf hj]
 have ha4:C4[a]? = some (.lst (sh.map Sh.P)):=by rw[hoth a hal];exact hD
 have ha3:C3[a]? = some (.lst (sh.map Sh.P)):=by rw[←a4.oth a (Yq hal)];exact ha4
 have hll:(sh.map Sh.P).length < 100000:=by simp;lia
 refine ⟨5e5,#[.int H],#[.int n],#[szP zs],C4.set a (.lst ((sh++[(⟨H,zs,q⟩:Sh)]).map Sh.P)),⟨H,zs,q⟩,?_,⟨⟨H1,H2⟩,⟨by show 0 < zs.length;lia,by show zs.length<=12;lia,hzs⟩,q1,q2⟩,setAt ha4,by rw[XI,aa.len];simp,fun j hj ha=>by rw[Yy (Xw ha)];exact hoth j hj⟩
 rw[show abd=mSeq _ (mSeq _ (mSeq _ (mSeq _ _))) from rfl,Zal st1,Zal st2,Zal st3,Zal st4]
 rw[show (sh++[(⟨H,zs,q⟩:Sh)]).map Sh.P=sh.map Sh.P++[.tup [.int H,szP zs,.int q]] by rw[Xv];rfl]
 generalize sh.map Sh.P=SH at *
 generalize szP zs=ZS at *
 simp![mApp,isLst,ha3,e4,appC,ha4,hll]
theorem Zcm {te:4e3}{tt:6e3}(b:PV->Bool):∀(xs:List PV) (ρ:PSt) (ys:List PV) (C:Cs),(∀x∈xs,tt (ρ.set 0 #[x]) C=some (b x,C))->(∀x∈xs,te (ρ.set 0 #[x]) C=some (.v x,C))->compL 7e1 tt te xs ρ ys C=some (ys++xs.filter b,C)
 | [],ρ,ys,C,_,_=>by simp[compL,Pu.ret]
 | x::xs,ρ,ys,C,ht,he=>by
  have h1:=ht x 3e8
  have h2:=he x 3e8
  have ih:=fun zs=>Zcm (te:=te) (tt:=tt) b xs (ρ.set 0 #[x]) zs C (fun y hy=>by rw[Ws];exact ht y (by simp[hy])) (fun y hy=>by rw[Ws];exact he y (by simp[hy]))
  cases hb:b x with
  | true=>rw[hb] at h1;simp[compL,hName,bnd,h1,h2,ih,hb]
  | false=>rw[hb] at h1;simp[compL,hName,bnd,h1,ih,hb]
structure Dl where
 hs:List Str
 ow:List Str
 cl:Int
 cs:List Cl
def Dl.P (d:Dl):PV:=.tup [.tup (d.hs.map .str),.tup (d.ow.map .str),.int d.cl,.tup (d.cs.map Cl.P)]
structure DlOk (d:Dl):Prop where
 h2:2<=d.hs.length/\d.hs.length<=8
 nd:d.hs.Nodup
 le:∀h∈d.hs,h.length<=10
 c1:1<=d.cs.length/\d.cs.length<=12
 cs:∀c∈d.cs,ClOk c
abbrev hoE:PSt->M SV:=mOp 3e5 3e9 (mOp (g2 modP) (mOp 4e2 5e8 2e1) (mC (.int 8)))
theorem houses_comp (ws:5e6)(hw:ws.length=16)(nd:ws.Nodup)(st:Int)(h0:0<=st/\st < 8)(n:Nat)(hn:n<=8)(C:Cs):
  ∃hs:List Str,compL 7e1 tOk hoE ((Yl n).map fun (q:Nat)=>PV.int (0 + q)) [none,4e0,#[.int st]] [] C=some (hs.map .str,C)/\hs.length=n/\hs.Nodup/\∀h∈hs,h∈ws:=by
 have key:∀j:Nat,((st + (0 + (j:Int))) % 8).toNat < ws.length:=fun j=>by
  have h1:0<=(st + (0 + (j:Int))) % 8:=Xd _ 1e1
  have h2:(st + (0 + (j:Int))) % 8 < 8:=Y5 _ 1e1
  lia
 have e:=ZcM (te:=hoE) (f:=fun p=>match p with | .int i=>.str (ws.getD ((st + i) % 8).toNat "") | _=>.non) ((Yl n).map fun (q:Nat)=>PV.int (0 + q)) [none,#[.lst (ws.map .str)],#[.int st]] [] C (fun x hx=>by
  obtain ⟨j,hj,rfl⟩:=YB.mp hx
  have hk:=key j
  have h1:0<=(st + (0 + (j:Int))) % 8:=Xd _ 1e1
  have h2:(st + (0 + (j:Int))) % 8 < 8:=Y5 _ 1e1
  have hix:ixQ (.lst (ws.map .str)) (.int ((st + (0 + (j:Int))) % 8))=some (.str (ws.getD ((st + (0 + (j:Int))) % 8).toNat "")):=by
   have h3:(st + (0 + (j:Int))) % 8 < (ws.length:Int):=by lia
   generalize (st + (0 + (j:Int))) % 8=d at *
   simp[ixQ,ixP,atI,ixN,h1,h3,Yd hk]
  generalize (0 + (j:Int))=J at *
  generalize ws.map PV.str=WS at *
  simp![hoE,addP,modP,hix])
 rw[XJ,Xf] at e
 refine ⟨(Yl n).map fun (j:Nat)=>ws.getD ((st + (0 + (j:Int))) % 8).toNat "",?_,by simp,?_,fun h hh=>?_⟩
 ·rw[e,Xf];rfl
 ·rw[YZ,XR]
  refine Wq (fun {x y} hx hy hne e=>?_) (YZ.mp Vz)
  have hx:=Y1.mp hx
  have hy:=Y1.mp hy
  have kx:=key x
  have ky:=key y
  rw[XM,XM,Yd kx,Yd ky] at e
  have:=(Wz (h₀:=kx) (h₁:=ky) nd).mp (by simpa using e)
  lia
 ·obtain ⟨j,_,rfl⟩:=YB.mp hh
  have:=key j
  rw[XM,Yd this]
  exact Y7 this
abbrev otT:PSt->M Bool:=mTest (mOp (g2 neP) 2e1 3e9)
theorem others_comp (i:Int)(M:Nat)(C:Cs):∃L:List Nat,compL 7e1 otT 2e1 ((Yl M).map fun (q:Nat)=>PV.int (0 + q)) [none,#[.int i]] [] C=some (L.map fun (q:Nat)=>PV.int 8e7,C)/\L.length<=M/\∀q∈L,q < M:=by
 have e:=Zcm (te:=mVar 0) (tt:=otT) (fun p=>match p with | .int j=>!(j==i) | _=>false) ((Yl M).map fun (q:Nat)=>PV.int (0 + q)) [none,#[.int i]] [] C (fun x hx=>by
  obtain ⟨j,_,rfl⟩:=YB.mp hx
  generalize (0 + (j:Int))=J
  simp![otT]
  rfl) (fun x hx=>by simp[mVar])
 refine ⟨(Yl M).filter fun (q:Nat)=>!(8e7==i),?_,?_,fun q hq=>Y1.mp (Xj.mp hq).1⟩
 ·rw[e,XJ,VR]
  rfl
 ·have:=WX (fun (q:Nat)=>!(8e7==i)) (Yl M)
  simpa using this
theorem comp_ex {te:4e3}{Pp:PV->Prop}:∀(xs:List PV) (ρ:PSt) (ys:List PV) (C:Cs),(∀x∈xs,∃p,te (ρ.set 0 #[x]) C=some (.v p,C)/\Pp p)->
  ∃zs,compL 7e1 tOk te xs ρ ys C=some (ys++zs,C)/\zs.length=xs.length/\∀p∈zs,Pp p
 | [],ρ,ys,C,h=>⟨[],by simp[compL,Pu.ret],rfl,(fun _ h=>(nomatch h))⟩
 | x::xs,ρ,ys,C,h=>by
  obtain ⟨p,e1,hp⟩:=h x 3e8
  obtain ⟨zs,e2,hl,hz⟩:=comp_ex (te:=te) (Pp:=Pp) xs (ρ.set 0 #[x]) (ys++[p]) C fun y hy=>by rw[Ws];exact h y (by simp[hy])
  refine ⟨p::zs,?_,by simp[hl],fun q hq=>?_⟩
  ·simp![compL,hName,tOk,e1,e2]
  ·rcases Yn.mp hq with rfl | hq
   ·exact hp
   ·exact hz q hq
theorem szs_of:∀(L:List PV),(∀p∈L,∃z,p=szP z/\SzOk z)->∃os:List (List Int),L=os.map szP/\∀z∈os,SzOk z
 | [],_=>⟨[],rfl,(fun _ h=>(nomatch h))⟩
 | p::L,h=>by
  obtain ⟨z,rfl,hz⟩:=h p 3e8
  obtain ⟨os,rfl,ho⟩:=szs_of L fun q hq=>h q (by simp[hq])
  exact ⟨z::os,rfl,fun y hy=>by
   rcases Yn.mp hy with rfl | hy
   ·exact hz
   ·exact ho y hy⟩
theorem strs_of:∀(L:List PV),(∀p∈L,∃w:Str,p=.str w)->∃ws:List Str,L=ws.map .str
 | [],_=>⟨[],rfl⟩
 | p::L,h=>by
  obtain ⟨w,rfl⟩:=h p 3e8
  obtain ⟨ws,rfl⟩:=strs_of L fun q hq=>h q (by simp[hq])
  exact ⟨w::ws,rfl⟩
abbrev fI (q:Nat):PV:=PV.int 8e7
abbrev oE:PSt->M SV:=mOp 3e5 (mOp 3e5 3e9 2e1) 1e9
abbrev oW:PSt->M SV:=mOp 3e5 3e9 (mOp 4e2 13e2 2e1)
theorem oE_comp (a:Nat)(sh:List Sh)(hsh:∀s∈sh,ShOk s)(L:11e8)(hL:∀q∈L,q < sh.length)(C:Cs)(hC:C[a]? = some (.lst (sh.map Sh.P))):
  ∃os:List (List Int),compL 7e1 tOk oE (L.map fI) [none,6e2] [] C=some (os.map szP,C)/\os.length=L.length/\∀z∈os,SzOk z:=by
 obtain ⟨zs,e,hl,hz⟩:=comp_ex (te:=oE) (Pp:=fun p=>∃z,p=szP z/\SzOk z) (L.map fI) [none,6e2] [] C (fun x hx=>by
  obtain ⟨q,hq,rfl⟩:=YB.mp hx
  have hq:=hL q hq
  refine ⟨szP (sh[q]).zs,?_,_,rfl,(hsh _ (Y7 hq)).zs⟩
  have h1:ixQ (.lst (sh.map Sh.P)) (.int 8e7)=some (sh[q]).P:=by
   have h2:8e7 < (sh.length:Int):=by lia
   have h3:0<=8e7:=by lia
   have h4:(0 + (q:Int)).toNat=q:=by lia
   generalize 8e7=Q at *
   simp[ixQ,ixP,atI,ixN,h2,h3,h4,hq]
  have h5:ixQ (sh[q]).P (.int 1)=some (szP (sh[q]).zs):=by simp[Sh.P,ixQ,ixP,atI,ixN]
  unfold fI
  generalize 8e7=Q at *
  generalize (sh[q]).P=SP at *
  generalize sh.map Sh.P=SH at *
  simp![oE,hC,h1,h5])
 obtain ⟨os,rfl,ho⟩:=szs_of zs hz
 exact ⟨os,by simpa using e,by simpa using hl,ho⟩
theorem oW_comp (ws:5e6)(hw:ws.length=16)(L:11e8)(hL:∀q∈L,q < 8)(C:Cs):
  ∃ow:List Str,compL 7e1 tOk oW (L.map fI) [none,4e0] [] C=some (ow.map .str,C):=by
 obtain ⟨zs,e,hl,hz⟩:=comp_ex (te:=oW) (Pp:=fun p=>∃w:Str,p=.str w) (L.map fI) [none,4e0] [] C (fun x hx=>by
  obtain ⟨q,hq,rfl⟩:=YB.mp hx
  have hq:=hL q hq
  obtain ⟨w,_,h1⟩:=ix_strs ws (5 + 8e7) 1e2 1e2
  refine ⟨.str w,?_,w,rfl⟩
  unfold fI
  generalize 8e7=Q at *
  generalize ws.map PV.str=WS at *
  simp![oW,addP,h1])
 obtain ⟨ow,rfl⟩:=strs_of zs hz
 exact ⟨ow,by simpa using e⟩
abbrev clE:PSt->M SV:=mOp 4e2 (mOp 3e5 (mVal (mLst (aCons (mC (.int 12)) (aCons (mC (.int 30)) (aCons (mC (.int 60)) (aCons (mC (.int 1000)) aNil)))))) (mFn F_l_pick (aCons 3e9 (aCons 15e3 aNil)))) (mFn F_l_pick (aCons 3e9 (aCons 13e2 aNil)))
abbrev bbd:PSt->M PF:=mSeq (mNew 1 (mFnF FF_l_left (aCons 2e1 (aCons (mOp 4e2 (mC (.int 9)) 7e8) aNil)))) (mSeq (mSet 11 4e8) (mSeq (mSet 6 (mCB (g1 tupH) (aCons (mVal (mComp (mRange1 (aCons (mOp 3e5 9e4 3e4) aNil)) ["_law_j"] [2,11] 7e1 tOk hoE)) aNil))) (mSeq (mSet 12 (mSlice (mVal (mComp (mRange1 11e9) ["_law_j"] [5] 7e1 otT 2e1)) oNo (oPart (mOp 3e5 9e4 2e6)))) (mSeq (mSet 13 clE) (mSeq (mSet 7 (mFn F_l_clauses (aCons 3e9 (aCons (mOp 3e5 9e4 3e4) (aCons (mOp 3e5 9e4 1e9) (aCons (mVal (mComp (mItems (mVar 12)) ["_law_j"] [4] 7e1 tOk oE)) 8e8)))))) (mSetIxK (mTup (aCons 12e7 (aCons (mCB (g1 tupH) (aCons (mVal (mComp (mItems (mVar 12)) ["_law_j"] [2] 7e1 tOk oW)) aNil)) (aCons (mVar 13) (aCons 14e4 aNil))))) (mVar 9) (mOp 3e5 5e8 (mOp 4e2 13e2 7e8))))))))
theorem Zcj (ns:5e6):(ns.map (WF:Str->Key)).map kP=ns.map .str:=by rw[Xf];rfl
theorem put_new (ns:5e6)(ps:List PV)(w:Str)(p:PV)(h:w∉ns):putKs (ns.map (WF:Str->Key)) (.inr w)=(ns++[w]).map WF/\putVs (ns.map (WF:Str->Key)) ps (.inr w) p=ps++[p]:=by
 have hi:inK (WF w:Key) (ns.map (WF:Str->Key))=false:=by
  cases e:inK (WF w:Key) (ns.map (WF:Str->Key)) with
  | false=>rfl
  | true=>
   obtain ⟨v,hv,e⟩:=YB.mp (ZbK.mp e)
   cases e;exact absurd hv h
 unfold putKs putVs
 rw[hi]
 simp
theorem bbd_ok (ns:List Int)(ws:5e6)(hw:ws.length=16)(nd:ws.Nodup)(hwl:∀w∈ws,w.length<=10)(a b:Nat)(hab:a≠b)(i:Nat)(hi:i < 7)(sh:List Sh)(hsh:∀s∈sh,ShOk s)(hs7:sh.length<=7)(s:Sh)(hs:ShOk s)(x1 x6 x7 x8 x11 x12 x13:8e1)(nms:5e6)(ds:List Dl)(D:Cs)(hDa:D[a]? = some (.lst (sh.map Sh.P)))(hDb:D[b]? = some (.dct (nms.map .str) (ds.map Dl.P)))(hn:nms.length < 100)(hnew:∀w,ws[5 + i]? = some w->w∉nms):
  ∃(y1 y6 y7 y11 y12 y13:8e1) (D':Cs) (d:Dl) (w:Str),bbd [1e7,x1,4e0,#[4e4],6e2,#[12e8],x6,x7,x8,some (.c b),#[s.P],x11,x12,x13] D=some (.nx [1e7,y1,4e0,#[4e4],6e2,#[12e8],y6,y7,x8,some (.c b),#[s.P],y11,y12,y13],D')/\DlOk d/\ws[5 + i]? = some w/\D'[b]? = some (.dct ((nms++[w]).map .str) ((ds++[d]).map Dl.P))/\(∃q,y1=some (.c q)/\GS D' q/\D.length<=q)/\D.length<=D'.length/\∀j,j < D.length->j≠b->D'[j]? = D[j]?:=by
 have lt_of:∀{q:Nat} {c:PV},D[q]? = some c->q < D.length:=fun {q c} h=>by
  rcases YH q D.length with z | z
  ·exact z
  ·rw[Yi.mpr z] at h;cases h
 have hal:=lt_of hDa
 have hbl:=lt_of hDb
 obtain ⟨x,y,el,hy⟩:=Zcu ns (9 + (i:Int)) D 1e2 1e2
 have st1:mNew 1 (mFnF FF_l_left (aCons 2e1 (aCons (mOp 4e2 (mC (.int 9)) 7e8) aNil))) [1e7,x1,4e0,#[4e4],6e2,#[12e8],x6,x7,x8,some (.c b),#[s.P],x11,x12,x13] D=some (.nx [1e7,5e5,4e0,#[4e4],6e2,#[12e8],x6,x7,x8,some (.c b),#[s.P],x11,x12,x13],D++10e8):=by
  simp![mNew,addP,el]
 have g0:=ZdC D x y hy
 obtain ⟨st,C1,e1,s1,s2,a1⟩:=Zan D.length 8 _ g0 1e1
 have st2:mSet 11 4e8 [1e7,5e5,4e0,#[4e4],6e2,#[12e8],x6,x7,x8,some (.c b),#[s.P],x11,x12,x13] (D++10e8)=some (.nx [1e7,5e5,4e0,#[4e4],6e2,#[12e8],x6,x7,x8,some (.c b),#[s.P],#[.int st],x12,x13],C1):=by
  simp![e1]
 obtain ⟨hs',eh,hhl,hhn,hhw⟩:=houses_comp ws hw nd st ⟨s1,s2⟩ s.H.toNat (by have:=hs.H;lia) C1
 have q0:ixQ s.P (.int 0)=some (.int s.H):=by simp[Sh.P,ixQ,ixP,atI,ixN]
 have q1:ixQ s.P (.int 1)=some (szP s.zs):=by simp[Sh.P,ixQ,ixP,atI,ixN]
 have q2:ixQ s.P (.int 2)=some (.int s.q):=by simp[Sh.P,ixQ,ixP,atI,ixN]
 have rngH:rng1P [.v (.int s.H)]=some ((Yl s.H.toNat).map fun (q:Nat)=>PV.int (0 + q)):=by
  have:=hs.H
  unfold rng1P;dsimp only;rw[if_pos 1e2]
 have rngM:rng1P [.v 4e4]=some ((Yl sh.length).map fun (q:Nat)=>PV.int (0 + q)):=by
  unfold rng1P;dsimp only;rw[if_pos 1e2,XG]
 have lnH:((Yl s.H.toNat).map fun (q:Nat)=>PV.int (0 + q)).length<=100000:=by have:=hs.H;simp;lia
 have lenM:((Yl sh.length).map fun (q:Nat)=>PV.int (0 + q)).length<=100000:=by simp;lia
 have st3:mSet 6 (mCB (g1 tupH) (aCons (mVal (mComp (mRange1 (aCons (mOp 3e5 9e4 3e4) aNil)) ["_law_j"] [2,11] 7e1 tOk hoE)) aNil)) [1e7,5e5,4e0,#[4e4],6e2,#[12e8],x6,x7,x8,some (.c b),#[s.P],#[.int st],x12,x13] C1=some (.nx [1e7,5e5,4e0,#[4e4],6e2,#[12e8],#[.tup (hs'.map .str)],x7,x8,some (.c b),#[s.P],#[.int st],x12,x13],C1):=by
  generalize ((Yl s.H.toNat).map fun (q:Nat)=>PV.int (0 + q))=rs at eh rngH lnH
  generalize hs'.map PV.str=HS at *
  generalize ws.map PV.str=WS at *
  generalize s.P=SP at *
  generalize hoE=te at eh
  simp![mComp,mRange1,q0,rngH,lnH,stIn',eh,tupH]
 obtain ⟨L,eo,hLl,hLm⟩:=others_comp (i:Int) sh.length C1
 have hcut:cutP (L.map fI) none (some s.q)=(L.take s.q.toNat).map fI:=by
  have h2:HT.sIx (L.map fI).length (L.map fI).length (some s.q)=min s.q.toNat (L.map fI).length:=by
   have:=hs.q
   unfold HT.sIx;dsimp only;rw[if_neg 1e2]
  unfold cutP
  rw[h2,show HT.sIx (L.map fI).length 0 none=0 from rfl]
  simp[List.map_take]
 have st4:mSet 12 (mSlice (mVal (mComp (mRange1 11e9) ["_law_j"] [5] 7e1 otT 2e1)) oNo (oPart (mOp 3e5 9e4 2e6))) [1e7,5e5,4e0,#[4e4],6e2,#[12e8],#[.tup (hs'.map .str)],x7,x8,some (.c b),#[s.P],#[.int st],x12,x13] C1=some (.nx [1e7,5e5,4e0,#[4e4],6e2,#[12e8],#[.tup (hs'.map .str)],x7,x8,some (.c b),#[s.P],#[.int st],14e7,x13],C1):=by
  have eo':compL 7e1 otT 2e1 ((Yl sh.length).map fun (q:Nat)=>PV.int (0 + q)) [none,#[(.int (i:Int))]] [] C1=some (L.map fI,C1):=eo
  have hsl:sliceD C1 (.v (.lst (L.map fI))) none (some s.q)=#[.lst ((L.take s.q.toNat).map fI)]:=by simp only[sliceD,deref,sliceP,hcut];rfl
  generalize ((Yl sh.length).map fun (q:Nat)=>PV.int (0 + q))=rs at eo' rngM lenM
  generalize L.map fI=LF at *
  generalize (L.take s.q.toNat).map fI=LT at *
  generalize s.P=SP at *
  generalize otT=tt at eo'
  simp[mSet,mSlice,oNo,oPart,Pu.intD,mVal,mComp,mRange1,aCons,aNil,mVar,mC,mOp,bnd,opM,Pu.ret,g2,deref,rngM,lenM,stIn',eo',q2,hsl]
 obtain ⟨c1,C2,e2,c1a,c1b,a2⟩:=Zan D.length 4 C1 a1.gs 1e1
 obtain ⟨v,hv,_,_⟩:=ix_rg [.int 12,.int 30,.int 60,.int 1000] 12 1000 1e0 c1 c1a (by simpa using c1b)
 obtain ⟨c2,C3,e3,_,_,a3⟩:=Zan D.length 5 C2 a2.gs 1e1
 obtain ⟨cl,hcl⟩:∃cl,cl=v + c2:=8e9
 have st5:mSet 13 clE [1e7,5e5,4e0,#[4e4],6e2,#[12e8],#[.tup (hs'.map .str)],x7,x8,some (.c b),#[s.P],#[.int st],14e7,x13] C1=some (.nx [1e7,5e5,4e0,#[4e4],6e2,#[12e8],#[.tup (hs'.map .str)],x7,x8,some (.c b),#[s.P],#[.int st],14e7,#[.int cl]],C3):=by
  simp![clE,e2,hv,e3,addP,hcl]
 have a123:=(a1.trans a2).trans a3
 have hoth3:∀j,j < D.length->C3[j]? = D[j]?:=fun j hj=>by
  rw[a123.oth j (Yq hj),Yf hj]
 obtain ⟨os,eos,hol,hos⟩:=oE_comp a sh hsh (L.take s.q.toNat) (fun q hq=>hLm q (Wl hq)) C3 (by rw[hoth3 a hal];exact hDa)
 have hos100:os.length<=100:=by rw[hol,Xl];lia
 obtain ⟨cs,C4,ecs,hcl4,hcs,a4⟩:=clauses_adv D.length s.H os s.zs ws C3 a123.gs hs.H hos hos100 hs.zs 1e2
 have lenT:((L.take s.q.toNat).map fI).length<=100000:=by simp;lia
 have st6:mSet 7 (mFn F_l_clauses (aCons 3e9 (aCons (mOp 3e5 9e4 3e4) (aCons (mOp 3e5 9e4 1e9) (aCons (mVal (mComp (mItems (mVar 12)) ["_law_j"] [4] 7e1 tOk oE)) 8e8))))) [1e7,5e5,4e0,#[4e4],6e2,#[12e8],#[.tup (hs'.map .str)],x7,x8,some (.c b),#[s.P],#[.int st],14e7,#[.int cl]] C3=some (.nx [1e7,5e5,4e0,#[4e4],6e2,#[12e8],#[.tup (hs'.map .str)],#[.tup (cs.map Cl.P)],x8,some (.c b),#[s.P],#[.int st],14e7,#[.int cl]],C4):=by
  generalize (L.take s.q.toNat).map fI=LT at *
  generalize s.P=SP at *
  generalize ws.map PV.str=WS at *
  generalize os.map szP=OS at *
  generalize szP s.zs=ZS at *
  generalize cs.map Cl.P=CS at *
  generalize oE=te at eos
  simp![q0,q1,mComp,mItems,itemsP,lenT,stIn',eos,ecs]
 have aa:=a123.trans a4
 have hoth:∀j,j < D.length->C4[j]? = D[j]?:=fun j hj=>by
  rw[aa.oth j (Yq hj),Yf hj]
 obtain ⟨ow,eow⟩:=oW_comp ws hw (L.take s.q.toNat) (fun q hq=>by have:=hLm q (Wl hq);lia) C4
 have h5:5 + i < ws.length:=by lia
 have hwk:ws[5 + i]? = some ws[5 + i]:=Yd h5
 have hkey:ixQ (.lst (ws.map .str)) (.int (5 + (i:Int)))=some (.str ws[5 + i]):=by
  have k1:0<=(5 + (i:Int)):=by lia
  have k2:(5 + (i:Int)) < (ws.length:Int):=by lia
  have k3:(5 + (i:Int)).toNat=5 + i:=by lia
  generalize (5 + (i:Int))=Q at *
  simp[ixQ,ixP,atI,ixN,k1,k2,k3,h5]
 have hb4:C4[b]? = some (.dct (nms.map .str) (ds.map Dl.P)):=by rw[hoth b hbl];exact hDb
 obtain ⟨hp1,hp2⟩:=put_new nms (ds.map Dl.P) ws[5 + i] (.tup [.tup (hs'.map .str),.tup (ow.map .str),.int cl,.tup (cs.map Cl.P)]) (hnew _ hwk)
 have hset:setK (.v (.tup [.tup (hs'.map .str),.tup (ow.map .str),.int cl,.tup (cs.map Cl.P)])) (.c b) (.v (.str ws[5 + i])) [1e7,5e5,4e0,#[4e4],6e2,#[12e8],#[.tup (hs'.map .str)],#[.tup (cs.map Cl.P)],x8,some (.c b),#[s.P],#[.int st],14e7,#[.int cl]] C4=some (.nx [1e7,5e5,4e0,#[4e4],6e2,#[12e8],#[.tup (hs'.map .str)],#[.tup (cs.map Cl.P)],x8,some (.c b),#[s.P],#[.int st],14e7,#[.int cl]],C4.set b (.dct ((nms++[ws[5 + i]]).map .str) ((ds++[(⟨hs',ow,cl,cs⟩:Dl)]).map Dl.P))):=by
  unfold setK
  simp only[hb4,keyP]
  rw[←Zcj nms,Za1]
  dsimp only
  rw[if_pos 11e1,hp1,hp2,Zcj]
  rw[show (ds++[(⟨hs',ow,cl,cs⟩:Dl)]).map Dl.P=ds.map Dl.P++[.tup [.tup (hs'.map .str),.tup (ow.map .str),.int cl,.tup (cs.map Cl.P)]] by rw[Xv];rfl]
 refine ⟨5e5,#[.tup (hs'.map .str)],#[.tup (cs.map Cl.P)],#[.int st],14e7,#[.int cl],C4.set b (.dct ((nms++[ws[5 + i]]).map .str) ((ds++[(⟨hs',ow,cl,cs⟩:Dl)]).map Dl.P)),⟨hs',ow,cl,cs⟩,ws[5 + i],?_,?_,hwk,setAt hb4,⟨D.length,rfl,?_,Yj _⟩,by rw[XI,aa.len];simp,fun j hj hjb=>by rw[Yy (Xw hjb)];exact hoth j hj⟩
 ·rw[show bbd=mSeq _ (mSeq _ (mSeq _ (mSeq _ (mSeq _ (mSeq _ _))))) from rfl,Zal st1,Zal st2,Zal st3,Zal st4,Zal st5,Zal st6]
  generalize C4.set b (.dct ((nms++[ws[5 + i]]).map .str) ((ds++[(⟨hs',ow,cl,cs⟩:Dl)]).map Dl.P))=CF at hset
  generalize (L.take s.q.toNat).map fI=LT at *
  generalize s.P=SP at *
  generalize hs'.map PV.str=HS at *
  generalize ow.map PV.str=OW at *
  generalize cs.map Cl.P=CS at *
  generalize ws.map PV.str=WS at *
  generalize oW=te at eow
  simp![mSetIxK,mComp,mItems,itemsP,lenT,stIn',eow,tupH,addP,hkey,hset]
 ·have:=hs.H
  have:=hs.zs.ne
  have:=hs.zs.le
  exact ⟨by rw[hhl];lia,hhn,fun h hh=>hwl h (hhw h hh),by rw[hcl4];lia,hcs⟩
 ·obtain ⟨x',y',h',r'⟩:=aa.gs
  exact ⟨x',y',by rw[Yy (Yq hbl)];exact h',r'⟩
theorem loopE_idx {g:4e5}{f:11e6}(a:Nat)(qs:List PV)(Pi:Nat->PSt->Cs->Prop)(hcell:∀i ρ D,Pi i ρ D->D[a]? = some (.lst qs))
  (step:∀(i:Nat) (h:i < qs.length) ρ D,Pi i ρ D->∃ρ1 ρ2 D2,g (.tup [.int (i:Nat),qs[i]]) ρ=some ρ1/\f ρ1 D=some (.nx ρ2,D2)/\Pi (i + 1) ρ2 D2):∀(n i:Nat) ρ D,i<=qs.length->qs.length - i < n->Pi i ρ D->∃ρ' D',loopE g f a n i ρ D=some (.nx ρ',D')/\Pi qs.length ρ' D'
 | 0,i,ρ,D,_,h,_=>by lia
 | n + 1,i,ρ,D,hi,hn,h=>by
  rcases YH i qs.length with hl | hl
  ·obtain ⟨ρ1,ρ2,D2,e1,e2,h2⟩:=step i hl ρ D h
   obtain ⟨ρ',D',e3,h3⟩:=loopE_idx a qs Pi hcell step n (i + 1) ρ2 D2 hl 1e2 h2
   refine ⟨ρ',D',?_,h3⟩
   unfold loopE
   simp only[hcell i ρ D h,Yd hl,e1,bnd,e2,e3]
  ·have:i=qs.length:=by lia
   subst this
   refine ⟨ρ,D,?_,h⟩
   unfold loopE
   simp only[hcell _ ρ D h,Yi.mpr (Yj _)]
structure TnOk (nms:List Str)(ds:List Dl):Prop where
 l1:1<=nms.length/\nms.length<=7
 ld:ds.length=nms.length
 nd:nms.Nodup
 le:∀w∈nms,w.length<=10
 ok:∀d∈ds,DlOk d
theorem take_snoc {ws:5e6}{i:Nat}{w:Str}(h:ws[5 + i]? = some w):(ws.drop 5).take (i + 1)=(ws.drop 5).take i++[w]:=by
 have h1:(ws.drop 5)[i]? = some w:=by rw[List.getElem?_drop];exact h
 obtain ⟨hl,e⟩:=YS.mp h1
 rw[←e,List.take_succ_eq_append_getElem hl]
theorem town_eq (ns:List Int)(C:Cs):∃(sp:Int) (nms:5e6) (ds:List Dl),F_l_town [.v 15e0] C=some (.v (.tup [.int sp,.dct (nms.map .str) (ds.map Dl.P)]),C)/\TnOk nms ds:=by
 obtain ⟨x,y,el,hy⟩:=Zcu ns 1 C 1e2 1e2
 have g0:=ZdC C x y hy
 obtain ⟨ws,C1,ew,hw,nd,hwl,a1⟩:=words_adv C.length _ g0
 obtain ⟨p,C2,e2,p1,p2,a2⟩:=Zan C.length 8 C1 a1.gs 1e1
 obtain ⟨Mi,hM,M1,M7⟩:=ix_rg [.int 1,.int 1,.int 2,.int 2,.int 3,.int 1,.int 2,.int 7] 1 7 1e0 p p1 (by simpa using p2)
 have a12:=a1.trans a2
 have h12:∀j,j < C.length->C2[j]? = C[j]?:=fun j hj=>by rw[a12.oth j (Yq hj),Yf hj]
 have hl2:C2.length=C.length + 1:=by rw[a12.len];simp
 obtain ⟨M,rfl⟩:∃M:Nat,Mi=(M:Int):=⟨Mi.toNat,by lia⟩
 obtain ⟨ρA,D,eA,hA⟩:=Zbw (g:=hName 5) (f:=abd) (fun i ρ D=>∃(x1 x5 x6 x7 x8:8e1) (sh:List Sh),ρ=[1e7,x1,4e0,#[(.int (M:Int))],7e2,x5,x6,x7,x8,none,none,none,none,none]/\D[C2.length]? = some (.lst (sh.map Sh.P))/\(∀s∈sh,ShOk s)/\sh.length=i/\C2.length + 1<=D.length/\∀j,j < C.length->D[j]? = C[j]?) 7
  ((Yl M).map fun (q:Nat)=>PV.int (0 + q)) 0 11e1 (fun z hz i ρ D hi h=>by
   obtain ⟨q,hq,rfl⟩:=YB.mp hz
   have hq:=Y1.mp hq
   obtain ⟨x1,x5,x6,x7,x8,sh,rfl,h1,h2,h3,h4,h5⟩:=h
   obtain ⟨y1,y6,y7,y8,D',s,t1,t2,t3,t4,t5⟩:=abd_ok ns #[.lst (ws.map .str)] #[(.int (M:Int))] C2.length 8e7 x1 x6 x7 x8 none none none none none sh D 1e2 h1 h2 1e2
   refine ⟨_,_,D',rfl,t1,y1,_,y6,y7,y8,sh++[s],rfl,t3,fun u hu=>?_,by simp[h3],by lia,fun j hj=>by rw[t5 j 1e2 1e2,h5 j hj]⟩
   rcases Yz.mp hu with hu | hu
   ·exact h2 u hu
   ·rw[Yh.mp hu];exact t2) [#[.lst (ns.map .int)],some (.c C.length),#[.lst (ws.map .str)],#[(.int (M:Int))],some (.c C2.length),none,none,none,none,none,none,none,none,none] (C2++[.lst []]) ⟨some (.c C.length),none,none,none,none,[],rfl,by simp,(fun _ h=>(nomatch h)),rfl,by simp,fun j hj=>by rw[Yf (by lia)];exact h12 j hj⟩
 obtain ⟨x1,x5,x6,x7,x8,sh,rfl,hDa,hsh,hshl,hDl,hDo⟩:=hA
 have hM':sh.length=M:=by simpa using hshl
 subst hM'
 obtain ⟨ρB,E,eB,hB⟩:=loopE_idx (g:=hTup (hCons (hName 5) (hCons (hName 10) hNil)) 2) (f:=bbd) C2.length (sh.map Sh.P) (fun i ρ E=>∃(y1 y5 y6 y7 y10 y11 y12 y13:8e1) (ds:List Dl),ρ=[1e7,y1,4e0,#[4e4],7e2,y5,y6,y7,x8,5e5,y10,y11,y12,y13]/\E[C2.length]? = some (.lst (sh.map Sh.P))/\E[D.length]? = some (.dct (((ws.drop 5).take i).map .str) (ds.map Dl.P))/\(∀d∈ds,DlOk d)/\ds.length=i/\i<=sh.length/\D.length + 1<=E.length/\(i=0\/∃q,y1=some (.c q)/\GS E q/\D.length + 1<=q)/\∀j,j < C.length->E[j]? = C[j]?)
  (fun i ρ E h=>by obtain ⟨_,_,_,_,_,_,_,_,_,_,h,_⟩:=h;exact h) (fun i hi ρ E h=>by
   have hi':i < sh.length:=by simpa using hi
   obtain ⟨y1,y5,y6,y7,y10,y11,y12,y13,ds,rfl,h1,h2,h3,h4,h5,h6,_,h8⟩:=h
   have hil:i < 7:=by lia
   obtain ⟨z1,z6,z7,z11,z12,z13,E',d,w,t1,t2,t3,t4,t5,t6,t7⟩:=bbd_ok ns ws hw nd hwl C2.length D.length 1e2 i hil sh hsh 1e2 (sh[i]) (hsh _ (Y7 hi')) y1 y6 y7 x8 y11 y12 y13 ((ws.drop 5).take i) ds E h1 h2 11e1 (fun w hw5 hmem=>by
    obtain ⟨j,hj,e⟩:=Ww hmem
    have hj':j < i:=by simp at hj;lia
    obtain ⟨h5i,e5⟩:=YS.mp hw5
    rw[List.getElem_take,List.getElem_drop,←e5] at e
    have:=(Wz (h₀:=by lia) (h₁:=h5i) nd).mp e
    lia)
   refine ⟨_,_,E',?_,t1,z1,#[12e8],z6,z7,#[(sh[i]).P],z11,z12,z13,ds++[d],rfl,by rw[t7 _ 1e2 1e2];exact h1,?_,fun u hu=>?_,by simp[h4],hi',by lia,.inr ?_,fun j hj=>by rw[t7 j 1e2 1e2,h8 j hj]⟩
   ·simp[hTup,hCons,hName,hNil]
   ·rw[take_snoc t3];exact t4
   ·rcases Yz.mp hu with hu | hu
    ·exact h3 u hu
    ·rw[Yh.mp hu];exact t2
   ·obtain ⟨q,q1,q2,q3⟩:=t5
    exact ⟨q,q1,q2,by lia⟩) 1000 0 [#[.lst (ns.map .int)],x1,#[.lst (ws.map .str)],#[(.int (sh.length:Int))],some (.c C2.length),x5,x6,x7,x8,some (.c D.length),none,none,none,none] (D++[.dct [] []]) (YV _) (by simp;lia) ⟨x1,x5,x6,x7,none,none,none,none,[],rfl,by rw[Yf (by lia)];exact hDa,by simp,(fun _ h=>(nomatch h)),rfl,YV _,by simp,.inl rfl,fun j hj=>by rw[Yf (by lia)];exact hDo j hj⟩
 obtain ⟨y1,y5,y6,y7,y10,y11,y12,y13,ds,rfl,hE1,hE2,hds,hdl,_,hEl,hq,hEo⟩:=hB
 simp only[YE] at hE2 hdl hq
 obtain ⟨q,rfl,gq,hq⟩:∃q,y1=some (.c q)/\GS E q/\D.length + 1<=q:=by
  rcases hq with hq | hq
  ·lia
  ·exact hq
 obtain ⟨r,F,e5,r1,r2,a5⟩:=Zan q 5 E gq 1e1
 obtain ⟨sp,hsp,_,_⟩:=ix_rg [.int 0,.int 1,.int 2,.int 5,.int 30] 0 30 1e0 r r1 (by simpa using r2)
 have hFb:F[D.length]? = some (.dct (((ws.drop 5).take sh.length).map .str) (ds.map Dl.P)):=by rw[a5.oth _ 1e2];exact hE2
 have hFC:F.take C.length=C:=by
  apply Xa
  intro j
  rcases YH j C.length with z | z
  ·rw[Xh z,a5.oth j 1e2,hEo j z]
  ·rw[Yi.mpr z,Yi.mpr (by rw[Xl];lia)]
 have hlt:((ws.drop 5).take sh.length).length=sh.length:=by simp;lia
 refine ⟨sp,(ws.drop 5).take sh.length,ds,?_,⟨by lia,by lia,(nd.sublist (List.drop_sublist 5 ws)).sublist (List.take_sublist _ _),fun w h=>hwl w (Wm (Wl h)),hds⟩⟩
 have st1:mNew 1 (mFnF FF_l_left (aCons 2e1 (aCons 1e9 aNil))) [1e7,none,none,none,none,none,none,none,none,none,none,none,none,none] C=some (.nx [1e7,5e3,none,none,none,none,none,none,none,none,none,none,none,none],C++10e8):=by
  simp![mNew,el]
 have st2:mSet 2 (mFn F_l_words (aCons 3e9 (aCons (mC (.int 16)) aNil))) [1e7,5e3,none,none,none,none,none,none,none,none,none,none,none,none] (C++10e8)=some (.nx [1e7,5e3,4e0,none,none,none,none,none,none,none,none,none,none,none],C1):=by
  generalize ws.map PV.str=WS at *
  simp![ew]
 have st3:mSet 3 (mOp 3e5 (mVal (mLst (aCons 1e9 (aCons 1e9 (aCons 2e6 (aCons 2e6 (aCons 6e6 (aCons 1e9 (aCons 2e6 (aCons (mC (.int 7)) aNil)))))))))) 4e8) [1e7,5e3,4e0,none,none,none,none,none,none,none,none,none,none,none] C1=some (.nx [1e7,5e3,4e0,#[4e4],none,none,none,none,none,none,none,none,none,none],C2):=by
  generalize ws.map PV.str=WS at *
  simp![e2,hM]
 have st4:mNew 4 11e0 [1e7,5e3,4e0,#[4e4],none,none,none,none,none,none,none,none,none,none] C2=some (.nx [1e7,5e3,4e0,#[4e4],7e2,none,none,none,none,none,none,none,none,none],C2++[.lst []]):=by
  simp![mNew]
 have st5:mFor (mRange1 11e9) (hName 5) abd [1e7,5e3,4e0,#[4e4],7e2,none,none,none,none,none,none,none,none,none] (C2++[.lst []])=some (.nx [1e7,x1,4e0,#[4e4],7e2,x5,x6,x7,x8,none,none,none,none,none],D):=by
  have hr:rng1P [.v 4e4]=some ((Yl sh.length).map fun (q:Nat)=>PV.int (0 + q)):=by
   unfold rng1P;dsimp only;rw[if_pos 1e2,XG]
  have hm:mRange1 11e9 [1e7,5e3,4e0,#[4e4],7e2,none,none,none,none,none,none,none,none,none] (C2++[.lst []])=some ((Yl sh.length).map fun (q:Nat)=>PV.int (0 + q),C2++[.lst []]):=by
   generalize ((Yl sh.length).map fun (q:Nat)=>PV.int (0 + q))=rs at hr
   simp![mRange1,hr]
  unfold mFor bnd;rw[hm];exact eA
 have st6:mNewK 9 [1e7,x1,4e0,#[4e4],7e2,x5,x6,x7,x8,none,none,none,none,none] D=some (.nx [1e7,x1,4e0,#[4e4],7e2,x5,x6,x7,x8,5e5,none,none,none,none],D++[.dct [] []]):=rfl
 have st7:mForE 14e9 (hTup (hCons (hName 5) (hCons (hName 10) hNil)) 2) bbd [1e7,x1,4e0,#[4e4],7e2,x5,x6,x7,x8,5e5,none,none,none,none] (D++[.dct [] []])=some (.nx [1e7,some (.c q),4e0,#[4e4],7e2,y5,y6,y7,x8,5e5,y10,y11,y12,y13],E):=by
  have hm:aCons 7e7 aNil [1e7,x1,4e0,#[4e4],7e2,x5,x6,x7,x8,5e5,none,none,none,none] (D++[.dct [] []])=some ([.c C2.length],D++[.dct [] []]):=by
   simp![]
  unfold mForE bnd;rw[hm];exact eB
 have hb:B_l_town=mSeq (mNew 1 (mFnF FF_l_left (aCons 2e1 (aCons 1e9 aNil)))) (mSeq (mSet 2 (mFn F_l_words (aCons 3e9 (aCons (mC (.int 16)) aNil)))) (mSeq (mSet 3 (mOp 3e5 (mVal (mLst (aCons 1e9 (aCons 1e9 (aCons 2e6 (aCons 2e6 (aCons 6e6 (aCons 1e9 (aCons 2e6 (aCons (mC (.int 7)) aNil)))))))))) 4e8)) (mSeq (mNew 4 11e0) (mSeq (mFor (mRange1 11e9) (hName 5) abd) (mSeq (mNewK 9) (mSeq (mForE 14e9 (hTup (hCons (hName 5) (hCons (hName 10) hNil)) 2) bbd) (mRetQ (aCons (mOp 3e5 (mVal (mLst (aCons 3e4 (aCons 1e9 (aCons 2e6 (aCons 13e2 (aCons (mC (.int 30)) aNil))))))) (mFn F_l_pick (aCons 3e9 (aCons 13e2 aNil)))) (aCons (mVar 9) aNil))))))))):=rfl
 unfold F_l_town
 rw[hb]
 show (match mSeq _ _ [some (.v 15e0),none,none,none,none,none,none,none,none,none,none,none,none,none] C with
  | some (.rt r,C')=>fin C.length C' r
  | some (.nx _,C')=>some (.v .non,C'.take C.length)
  | some (.rf ps,C')=>some (.v 8e6,C'.take C.length)
  | some (.rq qs,C')=>(finQ C.length C' qs).map fun ps=>(.v 9e2,C'.take C.length)
  | _=>none)=_
 rw[Zal st1,Zal st2,Zal st3,Zal st4,Zal st5,Zal st6,Zal st7]
 have hDC:¬D.length < C.length:=by lia
 generalize ((ws.drop 5).take sh.length).map PV.str=NM at *
 generalize ds.map Dl.P=DS at *
 simp![mRetQ,e5,hsp,finQ,hDC,hFb,hFC]
def sdB (p:PV):Bool:=match p with
 | .tup (.str x::_)=>x=="said"
 | _=>false
abbrev sdT:PSt->M Bool:=mTest (mOp (g2 eqP) (mOp 3e5 2e1 3e4) (mC (.str "said")))
theorem sdT_eq (ks:9e7)(h:EvOk ks)(C:Cs):sdT [#[tupK ks]] C=some (sdB (tupK ks),C):=by
 rcases h with ⟨i,rfl⟩ | ⟨i,w,rfl⟩ | ⟨a,b,c,rfl⟩
 ·simp![sdT,tupK,kP,ixQ,ixP,atI,ixN,sdB]
  decide +kernel
 ·simp![sdT,tupK,kP,ixQ,ixP,atI,ixN,sdB]
 ·simp![sdT,tupK,kP,ixQ,ixP,atI,ixN,sdB]
  decide +kernel
theorem said_shape {ks:9e7}(h:EvOk ks)(hb:sdB (tupK ks)=true):∃i w,ks=[.inr "said",.inl i,.inr w]:=by
 rcases h with ⟨i,rfl⟩ | h | ⟨a,b,c,rfl⟩
 ·have:sdB (tupK [.inr "joined",.inl i])=(("joined":Str)==("said":Str)):=rfl
  rw[this] at hb
  exact absurd hb 7e9
 ·exact h
 ·have:sdB (tupK [.inr "did",.inl a,.inl b,.inl c])=((("did":Str))==("said":Str)):=rfl
  rw[this] at hb
  exact absurd hb 7e9
theorem said_comp (evs:4e9)(h:∀e∈evs,EvOk e)(C:Cs):∃sd:List (List Key),compL 7e1 sdT 2e1 (evs.map tupK) [none] [] C=some (sd.map tupK,C)/\sd.length<=evs.length/\∀e∈sd,∃i w,e=[.inr "said",.inl i,.inr w]:=by
 have e:=Zcm (te:=mVar 0) (tt:=sdT) sdB (evs.map tupK) [none] [] C (fun x hx=>by
  obtain ⟨ks,hk,rfl⟩:=YB.mp hx
  exact sdT_eq ks (h ks hk) C) (fun x hx=>by simp[mVar])
 refine ⟨evs.filter fun e=>sdB (tupK e),?_,WX _ _,fun e he=>?_⟩
 ·rw[e,XJ,VR];rfl
 ·obtain ⟨h1,h2⟩:=Xj.mp he
  exact said_shape (h e h1) h2
def evsOf (c:Cl):List (List Key):=c.cs++(match c.lv with | none=>[] | some (e,_)=>[e])
theorem evsOf_ok {c:Cl}(h:ClOk c):∀e∈evsOf c,EvOk e:=by
 intro e he
 unfold evsOf at he
 rcases Yz.mp he with he | he
 ·exact h.cs e he
 ·cases hl:c.lv with
  | none=>rw[hl] at he;cases he
  | some p=>obtain ⟨e',n⟩:=p;rw[hl] at he;rw[Yh.mp he];exact h.lv e' n hl
theorem evsOf_items (c:Cl)(h:ClOk c)(ρ:PSt)(C:Cs)(h12:ρ[12]? = some #[.tup (c.cs.map tupK)])(h13:ρ[13]? = some #[lvP c.lv]):mItems (mOp 4e2 (mVar 12) (mSlice (mVar 13) oNo (oPart 1e9))) ρ C=some ((evsOf c).map tupK,C):=by
 have hl:(c.cs.map tupK).length<=8:=by simpa using h.le
 cases hv:c.lv with
 | none=>
  have hs:sliceD C (.v (lvP none)) none (some 1)=#[.tup []]:=by simp[sliceD,deref,sliceP,lvP,cutP]
  have he:(evsOf c).map tupK=c.cs.map tupK:=by unfold evsOf;rw[hv];simp
  rw[he]
  rw[hv] at h13
  generalize c.cs.map tupK=CS at *
  generalize lvP none=LV at *
  have:CS.length<=1000000:=by lia
  simp[mItems,mOp,mVar,h12,h13,mSlice,oNo,oPart,mC,bnd,opM,Pu.ret,Pu.intD,deref,hs,g2,addP,this,itemsP]
 | some p=>
  obtain ⟨e,n⟩:=p
  have hs:sliceD C (.v (lvP (some (e,n)))) none (some 1)=#[.tup [tupK e]]:=by simp[sliceD,deref,sliceP,lvP,cutP,HT.sIx]
  have he:(evsOf c).map tupK=c.cs.map tupK++[tupK e]:=by unfold evsOf;rw[hv];simp
  rw[he]
  rw[hv] at h13
  generalize c.cs.map tupK=CS at *
  generalize lvP (some (e,n))=LV at *
  generalize tupK e=TE at *
  have h1:CS.length + 1<=1000000:=by lia
  have h2:CS.length<=999999:=by lia
  simp[mItems,mOp,mVar,h12,h13,mSlice,oNo,oPart,mC,bnd,opM,Pu.ret,Pu.intD,deref,hs,g2,addP,h1,h2,itemsP]
theorem ne_lst (L:4e9):deepP (fun p q=>!eqD p q) (.lst (L.map tupK)) (.lst [])=some (.bl (decide (L≠[]))):=by
 have h1:dat (.lst (L.map tupK))=true:=by unfold dat;exact ZaZ Zba _
 have h2:dep (.lst (L.map tupK))<=60:=by unfold dep;have:=ZaY Zbz L;lia
 have h3:dat (.lst [])=true:=rfl
 unfold deepP
 rw[h1,h3,decide_eq_true h2]
 cases L with
 | nil=>rfl
 | cons a L=>rfl
abbrev sdC:PSt->M SV:=mVal (mComp (mItems (mOp 4e2 (mVar 12) (mSlice (mVar 13) oNo (oPart 1e9)))) ["_law_event_here"] [] 7e1 sdT 2e1)
abbrev dRest:PSt->M PF:=mSeq (mIfS (mAndT (mTest (mOp (g2 ltP) 12e7 13e2)) (mTest (mOp 6e4 (mVar 14) (mVal 11e0)))) (mRet (mTup (aCons (mC (.str "say")) (aCons (mOp 3e5 (mOp 3e5 (mVar 14) (mFn F_l_pick (aCons 2e1 (aCons (mCB 9e3 (aCons (mVar 14) aNil)) aNil)))) 2e6) aNil)))) mSkip) (mSeq (mIfS (mTest (mOp (g2 ltP) 12e7 (mC (.int 9)))) (mRet (mTup (aCons (mC (.str "do")) (aCons 14e4 (aCons (mFn F_l_pick (aCons 2e1 (aCons 9e4 aNil))) aNil))))) mSkip) (mSeq (mIfS (mTest (mOp (g2 ltP) 12e7 (mC (.int 10)))) (mRet (mTup (aCons (mC (.str "free")) (aCons 14e4 aNil)))) mSkip) (mSeq (mIfS (mTest (mOp (g2 ltP) 12e7 (mC (.int 11)))) (mRet (mTup (aCons (mC (.str "ready")) (aCons 14e4 aNil)))) mSkip) (mSeq (mIfS (mTest (mOp (g2 ltP) 12e7 (mC (.int 12)))) (mRet (mTup (aCons (mC (.str "hand")) (aCons 14e4 (aCons (mOp 3e5 5e8 (mFn F_l_pick (aCons 2e1 (aCons (mCB 9e3 8e8) aNil)))) aNil))))) mSkip) (mSeq (mIfS (mTest (mOp (g2 ltP) 12e7 (mC (.int 13)))) (mRet (mTup (aCons (mC (.str "quit")) (aCons 14e4 aNil)))) mSkip) (mRet (mOp 3e5 (mVal (mLst (aCons (mTup (aCons (mC (.str "note")) aNil)) (aCons (mTup (aCons (mC (.str "say")) (aCons (mOp 3e5 5e8 3e4) aNil))) (aCons (mTup (aCons (mC (.str "join")) aNil)) aNil))))) (mOp (g2 subP) 12e7 (mC (.int 13))))))))))
theorem deed_is:B_l_deed=mSeq (mAsg 3e9 (hTup (hCons (hName 2) (hCons (hName 3) (hCons (hName 4) (hCons (hName 5) hNil)))) 4)) (mSeq (mSet 6 (mFn F_l_pick (aCons 2e1 (aCons (mC (.int 16)) aNil)))) (mSeq (mSet 7 (mFn F_l_pick (aCons 2e1 (aCons (mCB 9e3 12e9) aNil)))) (mSeq (mAsg (mOp 3e5 7e8 14e4) (hTup (hCons (hName 8) (hCons (hName 9) (hCons (hName 10) (hCons (hName 11) (hCons (hName 12) (hCons (hName 13) hNil)))))) 6)) (mSeq (mIfS (mTest (mOp (g2 ltP) 12e7 2e6)) (mRet (mTup (aCons (mC (.str "join")) aNil))) mSkip) (mSeq (mSet 14 sdC) dRest))))):=rfl
theorem rest_ok (k:Nat)(w c:Int)(hs:5e6)(sd:4e9)(pn:Int)(x1 x3 x4 x5 x8 x9 x11 x12 x13:8e1)(C:Cs)(g:GS C k)(hw:0<=w/\w < 16)(hh:2<=hs.length/\hs.length<=8)(hsd:∀e∈sd,∃i w,e=[.inr "said",.inl i,.inr w])(hsl:sd.length<=100)(hp:1<=pn/\pn<=9):
  ∃(dd:9e7) (C':Cs),dRest [5e4,x1,#[.tup (hs.map .str)],x3,x4,x5,#[.int w],13e4,x8,x9,#[.int pn],x11,x12,x13,#[.lst (sd.map tupK)]] C=some (.rt (.v (tupK dd)),C')/\Adv k C C':=by
 have hne:=ne_lst sd
 by_cases h5:w < 5/\sd≠[]
 ·obtain ⟨h5,hnn⟩:=h5
  have hlen:0 < sd.length:=W9.mpr hnn
  obtain ⟨j,C',e,j1,j2,a⟩:=Zan k (sd.length:Int) C g 1e2
  have hj:j.toNat < sd.length:=by lia
  obtain ⟨i,v,hv⟩:=hsd _ (Y7 hj)
  have ix1:ixQ (.lst (sd.map tupK)) (.int j)=some (.tup [.str "said",.int i,.str v]):=by
   have:(sd.map tupK)[j.toNat]? = some (tupK sd[j.toNat]):=by rw[YL,Yd hj];rfl
   simp only[ixQ,ixP,atI,ixN]
   rw[if_pos j1,if_pos (by simpa using j2)]
   show (sd.map tupK)[j.toNat]? = _
   rw[this,hv];rfl
  have ix2:ixQ (.tup [.str "said",.int i,.str v]) (.int 2)=some (.str v):=by simp[ixQ,ixP,atI,ixN]
  have hl:lenH [.lst (sd.map tupK)]=some (.int (sd.length:Int)):=by simp[lenH]
  rw[decide_eq_true hnn] at hne
  refine ⟨[.inr "say",.inr v],C',?_,a⟩
  generalize sd.map tupK=SD at *
  simp[dRest,mSeq,mIfS,mAndT,mTest,mOp,mVar,mC,bnd,opM,Pu.ret,g1,g2,deref,derefs,ltP,intP,h5,mB,asB,mVal,mLst,aNil,Pu.plain,hne,mRet,mTup,aCons,mFn,mCB,hl,e,ix1,ix2,tupK,kP]
 ·have t6:mIfS (mAndT (mTest (mOp (g2 ltP) 12e7 13e2)) (mTest (mOp 6e4 (mVar 14) (mVal 11e0)))) (mRet (mTup (aCons (mC (.str "say")) (aCons (mOp 3e5 (mOp 3e5 (mVar 14) (mFn F_l_pick (aCons 2e1 (aCons (mCB 9e3 (aCons (mVar 14) aNil)) aNil)))) 2e6) aNil)))) mSkip [5e4,x1,#[.tup (hs.map .str)],x3,x4,x5,#[.int w],13e4,x8,x9,#[.int pn],x11,x12,x13,#[.lst (sd.map tupK)]] C=some (.nx [5e4,x1,#[.tup (hs.map .str)],x3,x4,x5,#[.int w],13e4,x8,x9,#[.int pn],x11,x12,x13,#[.lst (sd.map tupK)]],C):=by
   by_cases hw5:w < 5
   ·have hsn:¬sd≠[]:=fun z=>h5 ⟨hw5,z⟩
    rw[decide_eq_false hsn] at hne
    generalize sd.map tupK=SD at *
    simp![ltP,hw5,hne]
   ·simp![ltP,hw5]
  rw[show dRest=mSeq _ (mSeq _ _) from rfl,Zal t6]
  clear hne t6
  generalize sd.map tupK=SD at *
  have hl:lenH [.tup (hs.map .str)]=some (.int (hs.length:Int)):=by simp[lenH]
  have hz:∃z:Str,ixQ (.tup (hs.map .str)) (.int 0)=some (.str z):=by
   cases hs with
   | nil=>simp at hh
   | cons a hs=>exact ⟨a,by simp[ixQ,ixP,atI,ixN]⟩
  by_cases h9:w < 9
  ·obtain ⟨j,C',e,_,_,a⟩:=Zan k pn C g 1e2
   refine ⟨[.inr "do",.inl c,.inl j],C',?_,a⟩
   simp![ltP,h9,e,tupK,kP]
  ·by_cases h10:w < 10
   ·exact ⟨[.inr "free",.inl c],C,by simp![ltP,h9,h10,tupK,kP],Adv.refl g⟩
   ·by_cases h11:w < 11
    ·exact ⟨[.inr "ready",.inl c],C,by simp![ltP,h9,h10,h11,tupK,kP],Adv.refl g⟩
    ·by_cases h12:w < 12
     ·obtain ⟨j,C',e,j1,j2,a⟩:=Zan k (hs.length:Int) C g 1e2
      have hj:j.toNat < hs.length:=by lia
      have ix1:ixQ (.tup (hs.map .str)) (.int j)=some (.str hs[j.toNat]):=by simp[ixQ,ixP,atI,ixN,j1,j2,Yd hj]
      refine ⟨[.inr "hand",.inl c,.inr hs[j.toNat]],C',?_,a⟩
      generalize hs.map PV.str=HS at *
      simp[mSeq,mIfS,mTest,mOp,mVar,mC,bnd,opM,Pu.ret,g1,g2,deref,derefs,ltP,intP,h9,h10,h11,h12,mB,asB,mRet,mTup,aCons,aNil,mSkip,mFn,mCB,hl,e,ix1,Pu.plain,tupK,kP]
     ·by_cases h13:w < 13
      ·exact ⟨[.inr "quit",.inl c],C,by simp![ltP,h9,h10,h11,h12,h13,tupK,kP],Adv.refl g⟩
      ·obtain ⟨z,hz⟩:=hz
       have:w=13\/w=14\/w=15:=by lia
       generalize hs.map PV.str=HS at *
       have i0:ixQ (.lst [.tup [.str "note"],.tup [.str "say",.str z],.tup [.str "join"]]) (.int 0)=some (.tup [.str "note"]):=by simp[ixQ,ixP,atI,ixN]
       have i1:ixQ (.lst [.tup [.str "note"],.tup [.str "say",.str z],.tup [.str "join"]]) (.int 1)=some (.tup [.str "say",.str z]):=by simp[ixQ,ixP,atI,ixN]
       have i2:ixQ (.lst [.tup [.str "note"],.tup [.str "say",.str z],.tup [.str "join"]]) (.int 2)=some (.tup [.str "join"]):=by simp[ixQ,ixP,atI,ixN]
       rcases this with rfl | rfl | rfl
       ·exact ⟨[.inr "note"],C,by simp![ltP,hz,subP,i0,i1,i2,tupK,kP],Adv.refl g⟩
       ·exact ⟨[.inr "say",.inr z],C,by simp![ltP,hz,subP,i0,i1,i2,tupK,kP],Adv.refl g⟩
       ·exact ⟨[.inr "join"],C,by simp![ltP,hz,subP,i0,i1,i2,tupK,kP],Adv.refl g⟩
theorem deed_adv (k:Nat)(d:Dl)(hd:DlOk d)(C:Cs)(g:GS C k):∃(dd:9e7) (C':Cs),F_l_deed [.c k,.v d.P] C=some (.v (tupK dd),C')/\Adv k C C':=by
 obtain ⟨w,C1,e1,w1,w2,a1⟩:=Zan k 16 C g 1e1
 have hc1:=hd.c1
 obtain ⟨c,C2,e2,c1,c2,a2⟩:=Zan k (d.cs.length:Int) C1 a1.gs 1e2
 have hcl:c.toNat < d.cs.length:=by lia
 obtain ⟨cl,hcle⟩:∃cl,cl=d.cs[c.toNat]:=8e9
 have hok:ClOk cl:=by rw[hcle];exact hd.cs _ (Y7 hcl)
 have hix:ixQ (.tup (d.cs.map Cl.P)) (.int c)=some cl.P:=by
  rw[hcle]
  simp[ixQ,ixP,atI,ixN,c1,c2,Yd hcl]
 have hlen:lenH [.tup (d.cs.map Cl.P)]=some (.int (d.cs.length:Int)):=by simp[lenH]
 have a:=a1.trans a2
 have st0:mAsg 3e9 (hTup (hCons (hName 2) (hCons (hName 3) (hCons (hName 4) (hCons (hName 5) hNil)))) 4) [5e4,#[d.P],none,none,none,none,none,none,none,none,none,none,none,none,none] C=some (.nx [5e4,#[d.P],#[.tup (d.hs.map .str)],#[.tup (d.ow.map .str)],#[.int d.cl],#[.tup (d.cs.map Cl.P)],none,none,none,none,none,none,none,none,none],C):=by
  simp![mAsg,Dl.P,hTup,hCons,hName,hNil]
 have st1:mSet 6 (mFn F_l_pick (aCons 2e1 (aCons (mC (.int 16)) aNil))) [5e4,#[d.P],#[.tup (d.hs.map .str)],#[.tup (d.ow.map .str)],#[.int d.cl],#[.tup (d.cs.map Cl.P)],none,none,none,none,none,none,none,none,none] C=some (.nx [5e4,#[d.P],#[.tup (d.hs.map .str)],#[.tup (d.ow.map .str)],#[.int d.cl],#[.tup (d.cs.map Cl.P)],#[.int w],none,none,none,none,none,none,none,none],C1):=by
  simp![e1]
 have st2:mSet 7 (mFn F_l_pick (aCons 2e1 (aCons (mCB 9e3 12e9) aNil))) [5e4,#[d.P],#[.tup (d.hs.map .str)],#[.tup (d.ow.map .str)],#[.int d.cl],#[.tup (d.cs.map Cl.P)],#[.int w],none,none,none,none,none,none,none,none] C1=some (.nx [5e4,#[d.P],#[.tup (d.hs.map .str)],#[.tup (d.ow.map .str)],#[.int d.cl],#[.tup (d.cs.map Cl.P)],#[.int w],13e4,none,none,none,none,none,none,none],C2):=by
  generalize d.cs.map Cl.P=CS at *
  simp[mSet,mFn,aCons,aNil,mVar,mCB,g1,derefs,deref,opM,bnd,Pu.ret,hlen,e2]
 have st3:mAsg (mOp 3e5 7e8 14e4) (hTup (hCons (hName 8) (hCons (hName 9) (hCons (hName 10) (hCons (hName 11) (hCons (hName 12) (hCons (hName 13) hNil)))))) 6) [5e4,#[d.P],#[.tup (d.hs.map .str)],#[.tup (d.ow.map .str)],#[.int d.cl],#[.tup (d.cs.map Cl.P)],#[.int w],13e4,none,none,none,none,none,none,none] C2=some (.nx 2e7,C2):=by
  generalize d.cs.map Cl.P=CS at *
  simp![mAsg,hix,Cl.P,hTup,hCons,hName,hNil]
 have end':∀(f:11e6) (r:PV) (Cx:Cs),f 2e7 C2=some (.rt (.v r),Cx)->Adv k C Cx->mDef 2 13 (mSeq (mAsg 3e9 (hTup (hCons (hName 2) (hCons (hName 3) (hCons (hName 4) (hCons (hName 5) hNil)))) 4)) (mSeq (mSet 6 (mFn F_l_pick (aCons 2e1 (aCons (mC (.int 16)) aNil)))) (mSeq (mSet 7 (mFn F_l_pick (aCons 2e1 (aCons (mCB 9e3 12e9) aNil)))) (mSeq (mAsg (mOp 3e5 7e8 14e4) (hTup (hCons (hName 8) (hCons (hName 9) (hCons (hName 10) (hCons (hName 11) (hCons (hName 12) (hCons (hName 13) hNil)))))) 6)) f)))) [.c k,.v d.P] C=some (.v r,Cx):=fun f r Cx hf hA=>by
  show (match mSeq _ _ [5e4,some (.v d.P),none,none,none,none,none,none,none,none,none,none,none,none,none] C with
   | some (.rt r,C')=>fin C.length C' r
   | some (.nx _,C')=>some (.v .non,C'.take C.length)
   | some (.rf ps,C')=>some (.v 8e6,C'.take C.length)
   | some (.rq qs,C')=>(finQ C.length C' qs).map fun ps=>(.v 9e2,C'.take C.length)
   | _=>none)=_
  rw[Zal st0,Zal st1,Zal st2,Zal st3,hf]
  show some (SV.v r,Cx.take C.length)=_
  rw[hA.take]
 unfold F_l_deed
 rw[deed_is]
 by_cases h2:w < 2
 ·refine ⟨[.inr "join"],C2,end' _ _ _ ?_ a,a⟩
  generalize d.cs.map Cl.P=CS at *
  simp![ltP,h2,tupK,kP]
 ·obtain ⟨sd,esd,hsl,hsd⟩:=said_comp (evsOf cl) (evsOf_ok hok) C2
  have hev:(evsOf cl).length<=9:=by
   unfold evsOf
   have:=hok.le
   rw[Xn]
   cases cl.lv<;>simp<;>lia
  have hit:=evsOf_items cl hok 2e7 C2 rfl rfl
  obtain ⟨dd,C3,er,a3⟩:=rest_ok k w c d.hs sd cl.p #[d.P] #[.tup (d.ow.map .str)] #[.int d.cl] #[.tup (d.cs.map Cl.P)] #[.int cl.a] #[.int cl.b] #[.int cl.w] #[.tup (cl.cs.map tupK)] #[lvP cl.lv] C2 a.gs ⟨w1,w2⟩ hd.h2 hsd 1e2 hok.p
  refine ⟨dd,C3,end' _ _ _ ?_ (a.trans a3),a.trans a3⟩
  have t4:mIfS (mTest (mOp (g2 ltP) 12e7 2e6)) (mRet (mTup (aCons (mC (.str "join")) aNil))) mSkip 2e7 C2=some (.nx 2e7,C2):=by
   simp![ltP,h2]
  have t5:mSet 14 sdC 2e7 C2=some (.nx [5e4,#[d.P],#[.tup (d.hs.map .str)],#[.tup (d.ow.map .str)],#[.int d.cl],#[.tup (d.cs.map Cl.P)],#[.int w],13e4,#[.int cl.a],#[.int cl.b],#[.int cl.p],#[.int cl.w],#[.tup (cl.cs.map tupK)],#[lvP cl.lv],#[.lst (sd.map tupK)]],C2):=by
   have hcm:sdC 2e7 C2=some (.v (.lst (sd.map tupK)),C2):=by
    have hl:((evsOf cl).map tupK).length<=100000:=by simp;lia
    unfold sdC mVal mComp bnd
    rw[hit]
    dsimp only
    rw[if_pos hl]
    simp only[stIn',Yw,Vc,YJ]
    rw[esd];rfl
   unfold mSet bnd;rw[hcm];rfl
  rw[Zal t4,Zal t5]
  exact er
def nmV (l:Lt):PV:=tupK l.nm
theorem eqD_nm (a b:9e7):eqD (tupK a) (tupK b)=decide (a=b):=by
 by_cases h:a=b
 ·subst h;rw[decide_eq_true rfl];exact Zck (Zbg a)
 ·rw[decide_eq_false h]
  cases e:eqD (tupK a) (tupK b) with
  | false=>rfl
  | true=>
   have:=(Zbm (tupK a) (Zbg a) (Zbg b)).mp e
   unfold tupK at this
   have h2:a.map kP=b.map kP:=by simpa using this
   have h3:=Za1 a
   rw[h2,Za1] at h3
   exact absurd (YN h3).symm h
theorem last_ix (pre:List Lt)(l:Lt):ixQ (.lst ((pre++[l]).map Lt.P)) (.int (-1))=some l.P:=by
 have e:(-1 + ((pre.length:Int) + 1)).toNat=pre.length:=by lia
 simp[ixQ,ixP,atI,ixN]
 rw[if_pos 1e2,e]
 simp
theorem eqL_self (R:List Lt):deepP eqD (.lst (R.map Lt.P)) (.lst (R.map Lt.P))=some 14e3:=by
 have hds:dat (.lst (R.map Lt.P))=true:=by unfold dat;exact ZaZ dat_P _
 have hdp:dep (.lst (R.map Lt.P))<=60:=by unfold dep;have:=ZaY dep_P R;lia
 have he:eqD (.lst (R.map Lt.P)) (.lst (R.map Lt.P))=true:=by
  show eqDs _ _=true
  exact (eqDs_pur _ (Za9 pur_P R) (Za9 pur_P R)).mpr rfl
 simp[deepP,hds,hdp,he]
theorem sl3 (l:Lt)(C:Cs):sliceD C (.v l.P) none (some 3)=#[tupK l.nm]:=by
 simp![Lt.P,cut3,nm_P]
def isOf (h d:Str)(l:Lt):Bool:=l.h==h&&l.d==d
def isOfP (h d:Str)(p:PV):Bool:=match p with
 | .tup (.str a::.str b::_)=>a==h&&b==d
 | _=>false
theorem isOfP_eq (h d:Str)(l:Lt):isOfP h d l.P=isOf h d l:=rfl
theorem eq2 (a b h d:Str):deepP eqD (.tup [.str a,.str b]) (.tup [.str h,.str d])=some (.bl (a==h&&b==d)):=by
 simp[deepP,dat,dats,dep,deps,eqD,eqDs]
theorem ne2 (a b h d:Str):deepP (fun p q=>!eqD p q) (.tup [.str a,.str b]) (.tup [.str h,.str d])=some (.bl (!(a==h&&b==d))):=by
 simp[deepP,dat,dats,dep,deps,eqD,eqDs]
theorem sl2 (l:Lt)(C:Cs):sliceD C (.v l.P) none (some 2)=#[.tup [.str l.h,.str l.d]]:=by
 simp![Lt.P,cut2]
abbrev miT:PSt->M Bool:=mTest (mOp 9e8 (mSlice 2e1 oNo (oPart 2e6)) (mTup (aCons 3e9 8e8)))
abbrev otN:PSt->M Bool:=mTest (mOp 6e4 (mSlice 2e1 oNo (oPart 2e6)) (mTup (aCons 3e9 8e8)))
theorem mine_comp (ls:List Lt)(h d:Str)(C:Cs):compL 7e1 miT 2e1 3e0 [none,#[.str h],#[.str d]] [] C=some ((ls.filter (isOf h d)).map Lt.P,C):=by
 have e:=Zcm (te:=mVar 0) (tt:=miT) (isOfP h d) 3e0 [none,#[.str h],#[.str d]] [] C (fun x hx=>by
  obtain ⟨l,_,rfl⟩:=YB.mp hx
  have h1:=sl2 l
  have h2:=eq2 l.h l.d h d
  rw[isOfP_eq]
  unfold isOf
  generalize l.P=LP at *
  simp[miT,mTest,mOp,mSlice,mVar,oNo,oPart,mC,bnd,opM,Pu.ret,Pu.intD,deref,h1,mTup,aCons,aNil,Pu.plain,g2,h2,mB,asB]) (fun x hx=>by simp[mVar])
 rw[e,XJ,VR];rfl
theorem rest_comp (ls:List Lt)(h d:Str)(C:Cs):compL 7e1 otN 2e1 3e0 [none,#[.str h],#[.str d]] [] C=some ((ls.filter fun l=>!isOf h d l).map Lt.P,C):=by
 have e:=Zcm (te:=mVar 0) (tt:=otN) (fun p=>!isOfP h d p) 3e0 [none,#[.str h],#[.str d]] [] C (fun x hx=>by
  obtain ⟨l,_,rfl⟩:=YB.mp hx
  have h1:=sl2 l
  have h2:=ne2 l.h l.d h d
  show _=some (!isOfP h d l.P,C)
  rw[isOfP_eq]
  unfold isOf
  generalize l.P=LP at *
  simp[otN,mTest,mOp,mSlice,mVar,oNo,oPart,mC,bnd,opM,Pu.ret,Pu.intD,deref,h1,mTup,aCons,aNil,Pu.plain,g2,h2,mB,asB]) (fun x hx=>by simp[mVar])
 rw[e,XJ,VR];rfl
theorem neP_lst (ls:List Lt):deepP (fun p q=>!eqD p q) (.lst 3e0) (.lst [])=some (.bl (decide (ls≠[]))):=by
 have h1:dat (.lst 3e0)=true:=by unfold dat;exact ZaZ dat_P _
 have h2:dep (.lst 3e0)<=60:=by unfold dep;have:=ZaY dep_P ls;lia
 have h3:dat (.lst [])=true:=rfl
 unfold deepP
 rw[h1,h3,decide_eq_true h2]
 cases ls with
 | nil=>rfl
 | cons a L=>rfl
theorem nm_of {ls:List Lt}{h d:Str}{l:Lt}(hl:l∈ls.filter (isOf h d)):∃m∈ls,m.nm=[.inr h,.inr d,.inl l.n]:=by
 obtain ⟨h1,h2⟩:=Xj.mp hl
 unfold isOf at h2
 simp only[Ys,beq_iff_eq] at h2
 exact ⟨l,h1,by unfold Lt.nm;rw[h2.1,h2.2]⟩
theorem last_eq (ls:List Lt)(hls:ls.length<=1000)(h d:Str)(C:Cs):∃n:Int,F_l_last [.v (.lst 3e0),.v (.str h),.v (.str d)] C=some (.v (.int n),C)/\(n=0\/∃m∈ls,m.nm=[.inr h,.inr d,.inl n]):=by
 have hm:=mine_comp ls h d C
 have hn:=neP_lst (ls.filter (isOf h d))
 have hl:(ls.map Lt.P).length<=100000:=by simp;lia
 have hb:B_l_last=mSeq (mSet 3 (mVal (mComp (mItems 2e1) 5e7 [1,2] 7e1 miT 2e1))) (mRet (mIf (mTest (mOp 6e4 7e4 (mVal 11e0))) (mOp 3e5 (mOp 3e5 7e4 (mNeg 1e9)) 2e6) 3e4)):=rfl
 unfold F_l_last
 rw[hb]
 generalize miT=tt at hm
 by_cases he:ls.filter (isOf h d)=[]
 ·rw[he] at hm hn
  rw[decide_eq_false 3e8] at hn
  refine ⟨0,?_,.inl rfl⟩
  sleep 1
  simp only[Vc] at hm hn
  simp![mComp,mItems,itemsP,hl,stIn',hm,hn]
 ·obtain ⟨pre,l,hp⟩:∃pre l,ls.filter (isOf h d)=pre++[l]:=⟨_,_,(List.dropLast_concat_getLast he).symm⟩
  rw[hp] at hm hn
  rw[decide_eq_true 3e8] at hn
  have hx:=last_ix pre l
  have h2:ixQ l.P (.int 2)=some (.int l.n):=by simp[Lt.P,ixQ,ixP,atI,ixN]
  have hlm:l∈ls.filter (isOf h d):=by rw[hp];simp
  refine ⟨l.n,?_,.inr (nm_of hlm)⟩
  clear hlm
  generalize (pre++[l]).map Lt.P=PL at *
  sleep 1
  generalize l.P=LP at *
  simp![mComp,mItems,itemsP,hl,stIn',hm,hn,mNeg,negP,hx,h2]
theorem ltD_nmV (t u:Lt):∃c,ltD (nmV t) (nmV u)=some c:=by
 show ∃c,ltD (.tup [.str t.h,.str t.d,.int t.n]) (.tup [.str u.h,.str u.d,.int u.n])=some c
 unfold ltD lexD
 split
 ·unfold lexD;split
  ·unfold lexD;split
   ·unfold lexD;exact 8e9
   ·unfold ltD;exact 8e9
  ·unfold ltD;exact 8e9
 ·unfold ltD;exact 8e9
theorem all_nmV (g:PV->Bool)(ts:List Lt)(h:∀t,g (nmV t)=true):(ts.map nmV).all g=true:=by
 rw[YW];intro x hx;obtain ⟨t,_,rfl⟩:=YB.mp hx;exact h t
theorem cmp_nmV (ts:List Lt):cmpAll (ts.map nmV)=true:=all_nmV _ ts fun t=>all_nmV _ ts fun u=>by obtain ⟨c,e⟩:=ltD_nmV t u;rw[e];rfl
theorem ZcQ (ts:List Lt)(h:ts.length < 64):sortP (ts.map nmV)=some (sortL (ts.map nmV)):=by
 have hd:deps (ts.map nmV)<=1:=ZaY (f:=nmV) (fun m=>Zbz m.nm) ts
 have hs:sortable (ts.map nmV)=true:=by unfold sortable;rw[all_nmV (fun p=>fstK p==4) ts fun t=>rfl];simp
 have hda:dats (ts.map nmV)=true:=ZaZ (f:=nmV) (fun m=>Zba m.nm) ts
 unfold sortP
 rw[if_pos]
 rw[hda,hs,cmp_nmV,YE]
 simp[h];lia
theorem sort_nmV (ts:List Lt):∃gs:List (List Key),sortL (ts.map nmV)=gs.map tupK/\gs.length=ts.length/\(∀g∈gs,∃t∈ts,t.nm=g)/\gs.Perm (ts.map Lt.nm):=by
 have p:=Zbn (cmp_nmV ts) (Za9 (f:=nmV) (fun m=>Zbg m.nm) ts)
 obtain ⟨gs,q,e⟩:=ZbI (f:=tupK) p (ts.map Lt.nm) (by rw[Xf];rfl)
 exact ⟨gs,e,by rw[q.length_eq,YE],fun g hg=>YB.mp (q.mem_iff.mp hg),q⟩
def shortL (l:Lt):Prop:=l.h.length<=1000/\l.d.length<=1000
theorem keysOk_nm (ts:List Lt)(h:∀t∈ts,shortL t):keysOk (ts.map Lt.nm)=true:=by
 unfold keysOk
 rw[YW]
 intro k hk
 obtain ⟨t,ht,rfl⟩:=YB.mp hk
 obtain ⟨h1,h2⟩:=h t ht
 simp[Lt.nm,keyOk,h1,h2]
theorem map_nmV (ts:List Lt):(ts.map Lt.nm).map tupK=ts.map nmV:=by rw[Xf];rfl
theorem put_nm (ts:List Lt)(t:Lt):∃us:List Lt,putKs (ts.map Lt.nm) t.nm=us.map Lt.nm/\us.length<=ts.length + 1/\(∀u∈us,u∈ts\/u=t)/\((ts.map Lt.nm).Nodup->(us.map Lt.nm).Nodup):=by
 unfold putKs
 cases hin:inK t.nm (ts.map Lt.nm) with
 | true=>exact ⟨ts,by simp,by lia,fun u h=>.inl h,id⟩
 | false=>
  refine ⟨ts++[t],by simp,by simp,fun u h=>?_,fun nd=>?_⟩
  ·rcases Yz.mp h with h | h
   ·exact .inl h
   ·exact .inr (Yh.mp h)
  ·rw[Xv,X2]
   refine ⟨nd,by simp,fun x hx y hy e=>?_⟩
   rw[List.map_singleton,Yh] at hy
   subst hy;subst e
   rw[ZbK.mpr hx] at hin;cases hin
theorem name_eq (l:Lt)(C:Cs):F_l_name [.v l.P] C=some (.v (tupK l.nm),C):=by
 simp![F_l_name,Lt.P,cut3,nm_P]
theorem ix_neg (so:List Lt)(a:Int)(h1:1<=a)(h2:a<=so.length):∃l∈so,ixQ (.lst (so.map Lt.P)) (.int (-a))=some l.P:=by
 have hj:(-a + (so.length:Int)).toNat < so.length:=by lia
 refine ⟨so[(-a + (so.length:Int)).toNat],Y7 hj,?_⟩
 have n1:¬(0:Int)<=-a:=by lia
 have n2:-(so.length:Int)<=-a:=by lia
 simp only[ixQ,ixP,atI,ixN,YE]
 rw[if_neg n1,if_pos n2]
 show (so.map Lt.P)[(-a + (so.length:Int)).toNat]? = _
 rw[YL,Yd hj];rfl
abbrev rgG:PSt->M SV:=mOp (g2 mulP) (mOp 3e5 (mVal (mLst (aCons 3e4 (aCons 1e9 (aCons 1e9 (aCons 2e6 (aCons 6e6 (aCons 1e9 (aCons 2e6 (aCons (mC (.int 7)) aNil)))))))))) (mFn F_l_pick (aCons 2e1 10e5))) (mCB (g1 intH) (aCons (mOp 6e4 7e7 (mVal 11e0)) aNil))
abbrev at1:PSt->M SV:=mOp 4e2 (mFn F_l_pick (aCons 2e1 (aCons (mCB (g1 minH) (aCons (mCB 9e3 14e9) (aCons 13e2 aNil))) aNil))) 1e9
abbrev at2:PSt->M PF:=mIfS (mTest (mOp (g2 eqP) (mFn F_l_pick (aCons 2e1 (aCons 15e3 aNil))) 3e4)) (mSet 7 (mOp 4e2 (mFn F_l_pick (aCons 2e1 (aCons (mCB 9e3 14e9) aNil))) 1e9)) mSkip
abbrev put3:PSt->M PF:=mSetIxT (mC 14e3) 7e8 (mFn F_l_name (aCons (mOp 3e5 7e7 (mNeg 14e4)) aNil))
abbrev gbd:PSt->M PF:=mSeq (mSet 7 at1) (mSeq at2 put3)
theorem gots_is:B_l_gots=mSeq (mSet 4 (mVal (mComp (mItems 3e9) 5e7 [2,3] 7e1 otN 2e1))) (mSeq (mNewT 5) (mSeq (mFor (mRange1 (aCons rgG aNil)) (hName 6) gbd) (mRet (mCB (g1 tupH) (aCons (mVal (mSorted3 12e9)) aNil))))):=rfl
section
variable (k n:Nat)(LS H D:8e1)(so:List Lt)
theorem gbd_ok (hso:0 < so.length)(hsl:so.length<=1000)(hsh:∀l∈so,shortL l)(x6 x7:8e1)(ts:List Lt)(vs:List PV)(C:Cs)(g:GS C k)(hkn:k≠n)(hC:C[n]? = some (.dtt (ts.map Lt.nm) vs))(hts:∀t∈ts,shortL t)(htl:ts.length < 500)(hnd:(ts.map Lt.nm).Nodup):
  ∃(y7:8e1) (us:List Lt) (ws:List PV) (C':Cs),gbd [5e4,LS,H,D,10e2,some (.c n),x6,x7] C=some (.nx [5e4,LS,H,D,10e2,some (.c n),x6,y7],C')/\GS C' k/\C'[n]? = some (.dtt (us.map Lt.nm) ws)/\(∀t∈us,t∈ts\/t∈so)/\us.length<=ts.length + 1/\C'.length=C.length/\(∀j,j≠k->j≠n->C'[j]? = C[j]?)/\(us.map Lt.nm).Nodup:=by
 have hl:lenH [.lst (so.map Lt.P)]=some (.int (so.length:Int)):=by simp[lenH]
 have hmn:∃m:Int,minH [.int (so.length:Int),.int 5]=some (.int m)/\0 < m/\m<=so.length/\m<=5:=by
  unfold minH
  by_cases q:(5:Int) < so.length
  ·exact ⟨5,by simp[q],by lia,by lia,by lia⟩
  ·exact ⟨so.length,by simp[q],by lia,by lia,by lia⟩
 obtain ⟨m,hm,m0,m1,m5⟩:=hmn
 obtain ⟨d1,C1,e1,d1a,d1b,a1⟩:=Zan k m C g 1e2
 have st1:mSet 7 at1 [5e4,LS,H,D,10e2,some (.c n),x6,x7] C=some (.nx [5e4,LS,H,D,10e2,some (.c n),x6,#[.int (d1 + 1)]],C1):=by
  generalize so.map Lt.P=SO at *
  simp[mSet,at1,mOp,mFn,aCons,aNil,mVar,mC,mCB,g1,g2,derefs,deref,opM,bnd,Pu.ret,hl,hm,e1,addP]
 obtain ⟨d2,C2,e2,d2a,d2b,a2⟩:=Zan k 4 C1 a1.gs 1e1
 obtain ⟨t,C3,st2,t1,t2,a3⟩:∃(t:Int) (C3:Cs),at2 [some (.c k),LS,H,D,#[.lst (so.map Lt.P)],some (.c n),x6,#[.int (d1 + 1)]] C1=some (.nx [some (.c k),LS,H,D,#[.lst (so.map Lt.P)],some (.c n),x6,#[.int t]],C3)/\1<=t/\t<=so.length/\Adv k C1 C3:=by
  by_cases hz:d2=0
  ·obtain ⟨d3,C3,e3,d3a,d3b,a3⟩:=Zan k (so.length:Int) C2 a2.gs 1e2
   refine ⟨d3 + 1,C3,?_,by lia,by lia,a2.trans a3⟩
   subst hz
   generalize so.map Lt.P=SO at *
   simp[at2,mIfS,mTest,mOp,mFn,aCons,aNil,mVar,mC,mCB,g1,g2,derefs,deref,opM,bnd,Pu.ret,e2,eqP,scP,mB,asB,mSet,hl,e3,addP]
  ·refine ⟨d1 + 1,C2,?_,by lia,by lia,a2⟩
   generalize so.map Lt.P=SO at *
   simp![at2,e2,hz]
 have a13:=a1.trans a3
 obtain ⟨l,hlm,hix⟩:=ix_neg so t t1 t2
 have hn3:C3[n]? = some (.dtt (ts.map Lt.nm) vs):=by rw[a13.oth n (Xw hkn)];exact hC
 obtain ⟨us,hus,hul,hum,hun⟩:=put_nm ts l
 have hk:keysP (l.nm.map kP)=some l.nm:=Za1 l.nm
 have st3:put3 [5e4,LS,H,D,10e2,some (.c n),x6,#[.int t]] C3=some (.nx [5e4,LS,H,D,10e2,some (.c n),x6,#[.int t]],C3.set n (.dtt (us.map Lt.nm) (putVs (ts.map Lt.nm) vs l.nm 14e3))):=by
  have hset:setT (.v 14e3) (.c n) (.v (tupK l.nm)) [5e4,LS,H,D,10e2,some (.c n),x6,#[.int t]] C3=some (.nx [5e4,LS,H,D,10e2,some (.c n),x6,#[.int t]],C3.set n (.dtt (us.map Lt.nm) (putVs (ts.map Lt.nm) vs l.nm 14e3))):=by
   unfold tupK setT
   simp only[hn3,hk]
   rw[if_pos 11e1,hus]
  have hnm:=name_eq l C3
  generalize tupK l.nm=N at *
  generalize l.P=LP at *
  generalize so.map Lt.P=SO at *
  simp![put3,mSetIxT,mNeg,negP,hix,hnm,hset]
 refine ⟨#[.int t],us,putVs (ts.map Lt.nm) vs l.nm 14e3,C3.set n (.dtt (us.map Lt.nm) (putVs (ts.map Lt.nm) vs l.nm 14e3)),?_,?_,setAt hn3,fun u hu=>?_,hul,by rw[XI,a13.len],fun j q1 q2=>by rw[Yy (Xw q2)];exact a13.oth j q1,hun hnd⟩
 ·rw[show gbd=mSeq (mSet 7 at1) (mSeq at2 put3) from rfl,Zal st1,Zal st2];exact st3
 ·obtain ⟨x,y,h,r⟩:=a13.gs
  exact ⟨x,y,by rw[Yy (Xw hkn)];exact h,r⟩
 ·rcases hum u hu with h | rfl
  ·exact .inl h
  ·exact .inr hlm
end
theorem gots_adv (k:Nat)(ls:List Lt)(hls:ls.length<=1000)(hsh:∀l∈ls,shortL l)(h d:Str)(C:Cs)(g:GS C k):∃(gs:4e9) (C':Cs),F_l_gots [.c k,.v (.lst 3e0),.v (.str h),.v (.str d)] C=some (.v (.tup (gs.map tupK)),C')/\gs.length<=7/\(∀g∈gs,∃m∈ls,m.nm=g/\isOf h d m=false)/\gs.Nodup/\Adv k C C':=by
 have hkn:k≠C.length:=Yq g.lt
 have hrc:=rest_comp ls h d C
 obtain ⟨so,hso⟩:∃so,so=ls.filter fun l=>!isOf h d l:=8e9
 rw[←hso] at hrc
 have hsol:so.length<=1000:=by rw[hso];exact YR (WX _ _) hls
 have hsos:∀l∈so,shortL l:=fun l hl=>by rw[hso] at hl;exact hsh l (Xj.mp hl).1
 have hl:(ls.map Lt.P).length<=100000:=by simp;lia
 have st1:mSet 4 (mVal (mComp (mItems 3e9) 5e7 [2,3] 7e1 otN 2e1)) [5e4,6e7,#[.str h],#[.str d],none,none,none,none] C=some (.nx [5e4,6e7,#[.str h],#[.str d],10e2,none,none,none],C):=by
  sleep 1
  generalize so.map Lt.P=SO at *
  generalize otN=tt at hrc
  simp![mComp,mItems,itemsP,hl,stIn',hrc]
 have st2:mNewT 5 [5e4,6e7,#[.str h],#[.str d],10e2,none,none,none] C=some (.nx [5e4,6e7,#[.str h],#[.str d],10e2,5e3,none,none],C++[.dtt [] []]):=rfl
 have g2':=g.app (.dtt [] [])
 obtain ⟨p,C3,e3,p1,p2,a3⟩:=Zan k 8 _ g2' 1e1
 obtain ⟨r,hr,r0,r7⟩:=ix_rg [.int 0,.int 1,.int 1,.int 2,.int 3,.int 1,.int 2,.int 7] 0 7 1e0 p p1 (by simpa using p2)
 have hne:=neP_lst so
 obtain ⟨N,hN,hN0,hN7,hNs⟩:∃N:Nat,rgG [some (.c k),#[.lst (ls.map Lt.P)],#[.str h],#[.str d],#[.lst (so.map Lt.P)],some (.c C.length),none,none] (C++[.dtt [] []])=some (.v (.int (N:Int)),C3)/\True/\N<=7/\(0 < N->0 < so.length):=by
  have cr:-18446744073709551616 < r/\r < 18446744073709551616:=by lia
  by_cases hs:so=[]
  ·subst hs
   rw[decide_eq_false 3e8] at hne
   refine ⟨0,?_,trivial,by lia,fun z=>absurd z 1e1⟩
   simp only[Vc] at hne
   sleep 1
   simp![rgG,e3,hr,hne,intH,mulP,cr]
  ·rw[decide_eq_true hs] at hne
   refine ⟨r.toNat,?_,trivial,by lia,fun _=>W9.mpr hs⟩
   have hrr:((r.toNat:Nat):Int)=r:=by lia
   rw[hrr]
   sleep 1
   generalize so.map Lt.P=SO at *
   simp![rgG,e3,hr,hne,intH,mulP,cr]
 obtain ⟨ρ',D,e5,hpi⟩:=Zbw (g:=hName 6) (f:=gbd) (fun i ρ D=>∃(x6 x7:8e1) (ts:List Lt) (vs:List PV),ρ=[5e4,6e7,#[.str h],#[.str d],10e2,5e3,x6,x7]/\GS D k/\D[C.length]? = some (.dtt (ts.map Lt.nm) vs)/\(∀t∈ts,t∈so)/\ts.length<=i/\D.length=C.length + 1/\(∀j,j < C.length->j≠k->D[j]? = C[j]?)/\(ts.map Lt.nm).Nodup) 7
  ((Yl N).map fun (q:Nat)=>PV.int (0 + q)) 0 11e1 (fun x hx i ρ D hi hh=>by
   obtain ⟨q,hq,rfl⟩:=YB.mp hx
   have hq:=Y1.mp hq
   obtain ⟨x6,x7,ts,vs,rfl,h1,h2,h3,h4,h5,h6,h7⟩:=hh
   obtain ⟨y7,us,ws,D',t1,t2,t3,t4,t5,t6,t7,t8⟩:=gbd_ok k C.length #[.lst 3e0] #[.str h] #[.str d] so (hNs 1e2) hsol hsos #[(.int 8e7)] x7 ts vs D h1 hkn h2 (fun t ht=>hsos t (h3 t ht)) 1e2 h7
   exact ⟨_,_,D',rfl,t1,_,y7,us,ws,rfl,t2,t3,fun t ht=>(t4 t ht).elim (h3 t) id,by lia,by lia,fun j q1 q2=>by rw[t7 j q2 (by lia),h6 j q1 q2],t8⟩) [some (.c k),#[.lst (ls.map Lt.P)],#[.str h],#[.str d],#[.lst (so.map Lt.P)],some (.c C.length),none,none] C3 ⟨none,none,[],[],rfl,a3.gs,by rw[a3.oth _ (Xw hkn)];simp,(fun _ z=>(nomatch z)),Yj _,by rw[a3.len];simp,fun j q1 q2=>by rw[a3.oth j q2,Yf q1],by simp⟩
 obtain ⟨x6,x7,ts,vs,rfl,h1,h2,h3,h4,h5,h6,h7⟩:=hpi
 have htl:ts.length<=7:=by simp at h4;lia
 have st3:mFor (mRange1 (aCons rgG aNil)) (hName 6) gbd [5e4,6e7,#[.str h],#[.str d],10e2,5e3,none,none] (C++[.dtt [] []])=some (.nx [5e4,6e7,#[.str h],#[.str d],10e2,5e3,x6,x7],D):=by
  have hrg:rng1P [.v (.int (N:Int))]=some ((Yl N).map fun (q:Nat)=>PV.int (0 + q)):=by
   unfold rng1P;dsimp only;rw[if_pos 1e2,XG]
  have hm:mRange1 (aCons rgG aNil) [5e4,6e7,#[.str h],#[.str d],10e2,5e3,none,none] (C++[.dtt [] []])=some ((Yl N).map fun (q:Nat)=>PV.int (0 + q),C3):=by
   have:aCons rgG aNil [5e4,6e7,#[.str h],#[.str d],10e2,5e3,none,none] (C++[.dtt [] []])=some ([.v (.int (N:Int))],C3):=by
    unfold aCons bnd;rw[hN];rfl
   unfold mRange1 bnd;rw[this]
   show opM (fun _=>rng1P [.v (.int (N:Int))]) C3=_
   unfold opM;dsimp only;rw[hrg]
  unfold mFor bnd;rw[hm];exact e5
 obtain ⟨gs,hgs,hgl,hgm,hgp⟩:=sort_nmV ts
 refine ⟨gs,D.take C.length,?_,by lia,fun g hg=>by
  obtain ⟨t,ht,e⟩:=hgm g hg
  have:=h3 t ht
  rw[hso] at this
  exact ⟨t,(Xj.mp this).1,e,by simpa using (Xj.mp this).2⟩,hgp.nodup_iff.mpr h7,adv_cut (by lia) h1 g.lt h6⟩
 have hsort:sortedH3 D [.c C.length]=some (gs.map tupK):=by
  unfold sortedH3
  simp only[deref,h2]
  unfold sortedH2
  simp only[deref,h2]
  rw[if_pos (keysOk_nm ts fun t ht=>hsos t (h3 t ht)),map_nmV,ZcQ ts 1e2,hgs]
 unfold F_l_gots
 rw[gots_is]
 show (match mSeq _ _ [5e4,some (.v (.lst 3e0)),some (.v (.str h)),some (.v (.str d)),none,none,none,none] C with
  | some (.rt r,C')=>fin C.length C' r
  | some (.nx _,C')=>some (.v .non,C'.take C.length)
  | some (.rf ps,C')=>some (.v 8e6,C'.take C.length)
  | some (.rq qs,C')=>(finQ C.length C' qs).map fun ps=>(.v 9e2,C'.take C.length)
  | _=>none)=_
 rw[Zal st1,Zal st2,Zal st3]
 generalize gs.map tupK=GS' at *
 simp![mSorted3,hsort,tupH]
theorem sort_strs (nms:5e6)(h7:nms.length<=7)(hle:∀w∈nms,w.length<=10)(C:Cs)(ps:List PV):∃sn:List Str,sortedH3 C [.v (.dct (nms.map .str) ps)]=some (sn.map .str)/\sn.length=nms.length/\(∀w∈sn,w∈nms)/\(nms.Nodup->sn.Nodup):=by
 have hd:dats (nms.map PV.str)=true:=ZaZ (f:=PV.str) (fun _=>rfl) nms
 have hdp:deps (nms.map PV.str)<=0:=ZaY (f:=PV.str) (fun _=>Yj _) nms
 have hs:sortable (nms.map PV.str)=true:=by
  unfold sortable
  have:(nms.map PV.str).all (fun p=>fstK p==2)=true:=by rw[V3];exact YW.mpr fun _ _=>rfl
  rw[this];simp
 have hc:cmpAll (nms.map PV.str)=true:=by
  unfold cmpAll
  rw[V3]
  exact YW.mpr fun a _=>by
   show (nms.map PV.str).all _=true
   rw[V3]
   exact YW.mpr fun b _=>rfl
 have hp:purs (nms.map PV.str)=true:=Za9 (f:=PV.str) (fun _=>rfl) nms
 have hsp:sortP (nms.map PV.str)=some (sortL (nms.map PV.str)):=by
  unfold sortP
  rw[if_pos]
  rw[hd,hs,hc,YE]
  simp;lia
 have pm:=Zbn hc hp
 obtain ⟨sn,e⟩:=strs_of (sortL (nms.map PV.str)) fun x hx=>by
  obtain ⟨w,_,rfl⟩:=YB.mp (pm.mem_iff.mp hx)
  exact ⟨w,rfl⟩
 refine ⟨sn,?_,?_,fun w hw=>?_,fun hnd=>?_⟩
 ·unfold sortedH3
  simp only[deref]
  rw[←Zcj nms,Za1]
  dsimp only
  rw[if_pos,Zcj,hsp,e]
  rw[V3]
  exact YW.mpr fun w hw=>by
   show decide (w.length<=1000)=true
   have:=hle w hw
   exact decide_eq_true 1e2
 ·have:=pm.length_eq
  rw[e] at this
  simpa using this
 ·have:PV.str w∈sortL (nms.map PV.str):=by rw[e];exact Wy hw
  obtain ⟨v,hv,ev⟩:=YB.mp (pm.mem_iff.mp this)
  cases ev;exact hv
 ·rw[e] at pm
  have h1:(nms.map PV.str).Nodup:=by
   rw[YZ,XR]
   exact Ue (fun {x y} hne z=>hne (by cases z;rfl)) (YZ.mp hnd)
  have h2:=pm.nodup_iff.mpr h1
  rw[YZ,XR] at h2
  rw[YZ]
  exact Ue (fun {x y} hne z=>hne (by rw[z])) h2
theorem look_deal (w:Str):∀(nms:5e6) (ds:List Dl),ds.length=nms.length->w∈nms->∃d∈ds,lookP (nms.map .str) (ds.map Dl.P) (.inr w)=some d.P
 | [],ds,_,h=>by cases h
 | v::nms,[],hl,h=>by simp at hl
 | v::nms,d::ds,hl,h=>by
  rw[Yw,Yw]
  unfold lookP
  by_cases e:v=w
  ·subst e
   exact ⟨d,by simp,by rw[if_pos (show keyP (.str v)=some (.inr v) from rfl)]⟩
  ·have hm:w∈nms:=by
    rcases Yn.mp h with h | h
    ·exact absurd h.symm e
    ·exact h
   obtain ⟨d',hd,h2⟩:=look_deal w nms ds (by simpa using hl) hm
   refine ⟨d',by simp[hd],?_⟩
   rw[if_neg (fun z=>e (by simpa[keyP] using z))]
   exact h2
def townP (sp:Int)(nms:5e6)(ds:List Dl):PV:=.tup [.int sp,.dct (nms.map .str) (ds.map Dl.P)]
theorem town_1 (sp:Int)(nms:5e6)(ds:List Dl):ixQ (townP sp nms ds) (.int 1)=some (.dct (nms.map .str) (ds.map Dl.P)):=by simp[townP,ixQ,ixP,atI,ixN]
theorem town_deal {nms:5e6}{ds:List Dl}(t:TnOk nms ds)(w:Str)(h:w∈nms):∃d∈ds,ixQ (.dct (nms.map .str) (ds.map Dl.P)) (.str w)=some d.P:=by
 obtain ⟨d,hd,e⟩:=look_deal w nms ds t.ld h
 exact ⟨d,hd,by unfold ixQ;simp only[keyP];exact e⟩
theorem deal_0 (d:Dl):ixQ d.P (.int 0)=some (.tup (d.hs.map .str)):=by simp[Dl.P,ixQ,ixP,atI,ixN]
theorem house_ix (hs:5e6)(hle:∀h∈hs,h.length<=10)(h8:hs.length<=8)(j:Int)(h0:0<=j)(h1:j < 2 * (hs.length:Int) + 2):∃h:Str,ixQ (.tup (hs.map .str++hs.map .str++[.str "bell",.str "stranger"])) (.int j)=some (.str h)/\h.length<=10:=by
 have e:hs.map PV.str++hs.map PV.str++[.str "bell",.str "stranger"]=(hs++hs++(["bell","stranger"]:List Str)).map PV.str:=by simp
 have hj:j.toNat < (hs++hs++(["bell","stranger"]:List Str)).length:=by simp;lia
 rw[e]
 refine ⟨(hs++hs++(["bell","stranger"]:List Str))[j.toNat],?_,?_⟩
 ·have h2:j < (((hs++hs++(["bell","stranger"]:List Str)).map PV.str).length:Int):=by simp;lia
  simp only[ixQ,ixP,atI,ixN]
  rw[if_pos h0,if_pos h2]
  show ((hs++hs++(["bell","stranger"]:List Str)).map PV.str)[j.toNat]? = _
  rw[YL,Yd hj];rfl
 ·have hm:=Y7 hj
  generalize (hs++hs++(["bell","stranger"]:List Str))[j.toNat]=x at hm
  rcases Yz.mp hm with hm | hm
  ·rcases Yz.mp hm with hm | hm<;>exact hle _ hm
  ·rcases Yn.mp hm with rfl | hm
   ·decide +kernel
   ·rw[Yh.mp hm];decide +kernel
abbrev lt0:PSt->M PF:=mSet 4 (mVal (mSorted3 (aCons 16e3 aNil)))
abbrev lt1:PSt->M PF:=mSet 5 (mOp 3e5 7e7 (mFn F_l_pick (aCons 2e1 (aCons (mCB 9e3 14e9) aNil))))
abbrev lt2:PSt->M PF:=mSet 6 (mOp 3e5 (mOp 3e5 16e3 7e8) 3e4)
abbrev lt3:PSt->M PF:=mSet 7 (mOp 3e5 (mOp 4e2 (mOp 4e2 12e7 12e7) (mTup (aCons (mC (.str "bell")) (aCons (mC (.str "stranger")) aNil)))) (mFn F_l_pick (aCons 2e1 (aCons (mOp 4e2 (mOp (g2 mulP) 2e6 (mCB 9e3 (aCons 12e7 aNil))) 2e6) aNil))))
abbrev lt4:PSt->M PF:=mSet 8 (mVal (mComp (mItems 5e8) 5e7 [7,5] 7e1 (mTest (mOp 9e8 (mSlice 2e1 oNo (oPart 2e6)) (mTup (aCons 3e9 8e8)))) 2e1))
abbrev lt5:PSt->M PF:=mSet 9 (mFn F_l_last (aCons 5e8 (aCons 14e4 12e9)))
abbrev lt6:PSt->M PF:=mIfS (mAndT (mTest (mOp 6e4 (mVar 8) (mVal 11e0))) (mTest (mOp (g2 eqP) (mFn F_l_pick (aCons 2e1 (aCons (mC (.int 12)) aNil))) 3e4))) (mSet 9 (mOp 3e5 (mVal (mLst (aCons 3e4 (aCons (mOp 3e5 (mOp 3e5 (mVar 8) (mFn F_l_pick (aCons 2e1 (aCons (mCB 9e3 (aCons (mVar 8) aNil)) aNil)))) 2e6) aNil)))) 10e1)) mSkip
abbrev lt7:PSt->M PF:=mSet 10 (mOp 4e2 (mCB 9e3 (aCons (mVar 8) aNil)) 1e9)
abbrev lt8:PSt->M PF:=mIfS (mTest (mOp (g2 eqP) 10e0 3e4)) (mSet 10 (mOp 4e2 (mC (.int 50)) (mOp (g2 mulP) (mC (.int 7)) (mCB 9e3 8e8)))) mSkip
abbrev lt9:PSt->M PF:=mIfS (mTest (mOp (g2 (inDP false)) 9e4 (mVal (mComp (mItems (mVar 8)) 5e7 [] 7e1 tOk (mOp 3e5 2e1 2e6))))) (mSet 10 (mOp 4e2 (mC (.int 900)) (mOp (g2 mulP) (mC (.int 7)) (mCB 9e3 8e8)))) mSkip
abbrev lt10:PSt->M PF:=mSet 11 (mIf (mTest (mOp (g2 gtP) (mFn F_l_pick (aCons 2e1 (aCons (mC (.int 14)) aNil))) 3e4)) 7e4 (mCB (g1 maxH) (aCons 3e4 (aCons (mOp (g2 subP) (mOp (g2 subP) 7e4 1e9) 10e0) aNil))))
abbrev lt11:PSt->M PF:=mSet 12 (mFn F_l_deed (aCons 2e1 (aCons (mOp 3e5 16e3 7e8) aNil)))
abbrev lt12:PSt->M PF:=mRet (mTup (aCons 14e4 (aCons 7e8 (aCons 9e4 (aCons (mVar 9) (aCons (mFn F_l_gots (aCons 2e1 (aCons 5e8 (aCons 14e4 12e9)))) (aCons (mVar 11) (aCons (mVar 12) aNil))))))))
theorem letter_is:B_l_letter=mSeq lt0 (mSeq lt1 (mSeq lt2 (mSeq lt3 (mSeq lt4 (mSeq lt5 (mSeq lt6 (mSeq lt7 (mSeq lt8 (mSeq lt9 (mSeq lt10 (mSeq lt11 lt12))))))))))):=rfl
theorem nr_comp (ls:List Lt)(C:Cs):compL 7e1 tOk (mOp 3e5 2e1 2e6) 3e0 [none] [] C=some (ls.map (fun l=>PV.int l.n),C):=by
 have e:=ZcM (te:=mOp 3e5 2e1 2e6) (f:=fun p=>match p with | .tup (_::_::c::_)=>c | _=>.non) (ls.map Lt.P) [none] [] C (fun x hx=>by
  obtain ⟨l,_,rfl⟩:=YB.mp hx
  simp![Lt.P,ixQ,ixP,atI,ixN])
 rw[e,XJ,Xf];rfl
theorem in_ints (n:Int)(ls:List Lt):∃b,inDP false (.int n) (.lst (ls.map fun l=>PV.int l.n))=some (.bl b)/\(b=false->∀l∈ls,l.n≠n):=by
 have h1:dats (ls.map fun l=>PV.int l.n)=true:=ZaZ (f:=fun l:Lt=>PV.int l.n) (fun _=>rfl) ls
 have h2:deps (ls.map fun l=>PV.int l.n)<=50:=YR (ZaY (f:=fun l:Lt=>PV.int l.n) (n:=0) (fun _=>Yj _) ls) 1e1
 refine ⟨(ls.map fun l=>PV.int l.n).any fun p=>eqD p (.int n),?_,fun hb l hl e=>?_⟩
 ·unfold inDP
  dsimp only
  rw[h1,show dat (.int n)=true from rfl,decide_eq_true h2];rfl
 ·have:=V8.mp hb (.int l.n) (Wy hl)
  apply this
  show (l.n==n)=true
  rw[e];simp
structure Fa (os:List Lt)(l:Lt):Prop where
 n1:1<=l.n
 g7:l.gs.length<=7
 gin:∀g∈l.gs,∃m∈os,m.nm=g/\isOf l.h l.d m=false
 gnd:l.gs.Nodup
 pv:l.pv=0\/∃m∈os,m.nm=l.fo
theorem Fa.mono {os us:List Lt}{l:Lt}(f:Fa os l)(h:∀m∈os,m∈us):Fa us l:=
 ⟨f.n1,f.g7,fun g hg=>by obtain ⟨m,hm,e⟩:=f.gin g hg;exact ⟨m,h m hm,e⟩,f.gnd,by
  rcases f.pv with e | ⟨m,hm,e⟩
  ·exact .inl e
  ·exact .inr ⟨m,h m hm,e⟩⟩
theorem letter_adv (k:Nat)(sp:Int)(nms:5e6)(ds:List Dl)(t:TnOk nms ds)(ls:List Lt)(hls:ls.length<=100)(hsh:∀l∈ls,shortL l)(hnr:∀l∈ls,l.n < 900 + 7 * (ls.length:Int))(now:Int)(C:Cs)(g:GS C k):
  ∃(l:Lt) (C':Cs),F_l_letter [.c k,.v (townP sp nms ds),.v (.lst 3e0),.v (.int now)] C=some (.v l.P,C')/\Adv k C C'/\shortL l/\Fa ls l/\l.n < 900 + 7 * ((ls.length:Int) + 1)/\∀m∈ls,m.nm≠l.nm:=by
 obtain ⟨tl1,tl7⟩:=t.l1
 obtain ⟨sn,esn,hsn,hsm,_⟩:=sort_strs nms tl7 t.le C (ds.map Dl.P)
 have t1:=town_1 sp nms ds
 have s0:lt0 [5e4,3e2,6e7,14e5,none,none,none,none,none,none,none,none,none] C=some (.nx [5e4,3e2,6e7,14e5,10e3,none,none,none,none,none,none,none,none],C):=by
  sleep 7
  generalize nms.map PV.str=NM at *
  generalize ds.map Dl.P=DS at *
  generalize sn.map PV.str=SN at *
  simp![lt0,mSorted3,t1,esn]
 obtain ⟨j,C1,e1,j1,j2,a1⟩:=Zan k (sn.length:Int) C g 1e2
 obtain ⟨w,hwm,hwx⟩:=ix_strs sn j j1 j2
 have hwn:=hsm w hwm
 have hwl:=t.le w hwn
 have lsn:lenH [.lst (sn.map .str)]=some (.int (sn.length:Int)):=by simp[lenH]
 have s1:lt1 [5e4,3e2,6e7,14e5,10e3,none,none,none,none,none,none,none,none] C=some (.nx [5e4,3e2,6e7,14e5,10e3,#[.str w],none,none,none,none,none,none,none],C1):=by
  generalize sn.map PV.str=SN at *
  simp[lt1,mSet,mOp,mVar,mFn,aCons,aNil,mCB,g1,g2,derefs,deref,bnd,opM,Pu.ret,lsn,e1,hwx]
 obtain ⟨dl,hdl,edl⟩:=town_deal t w hwn
 have hdo:=t.ok dl hdl
 obtain ⟨hh2,hh8⟩:=hdo.h2
 have d0:=deal_0 dl
 have s2:lt2 [5e4,3e2,6e7,14e5,10e3,#[.str w],none,none,none,none,none,none,none] C1=some (.nx [5e4,3e2,6e7,14e5,10e3,#[.str w],12e4,none,none,none,none,none,none],C1):=by
  sleep 7
  generalize nms.map PV.str=NM at *
  generalize ds.map Dl.P=DS at *
  generalize dl.P=DP at *
  generalize dl.hs.map PV.str=HS at *
  generalize sn.map PV.str=SN at *
  simp![lt2,t1,edl,d0]
 obtain ⟨j2',C2,e2,j3,j4,a2⟩:=Zan k (2 * (dl.hs.length:Int) + 2) C1 a1.gs 1e2
 obtain ⟨h,hhx,hhl⟩:=house_ix dl.hs hdo.le hh8 j2' j3 j4
 have lhs:lenH [.tup (dl.hs.map .str)]=some (.int (dl.hs.length:Int)):=by simp[lenH]
 have hl6:(dl.hs.map PV.str).length<=8:=by simpa using hh8
 have s3:lt3 [5e4,3e2,6e7,14e5,10e3,#[.str w],12e4,none,none,none,none,none,none] C1=some (.nx [5e4,3e2,6e7,14e5,10e3,#[.str w],12e4,#[.str h],none,none,none,none,none],C2):=by
  have q1:(dl.hs.map PV.str).length + (dl.hs.map PV.str).length<=1000000:=by lia
  have q2:(dl.hs.map PV.str).length + (dl.hs.map PV.str).length<=999998:=by lia
  have cc:-18446744073709551616 < (dl.hs.length:Int)/\(dl.hs.length:Int) < 18446744073709551616:=by lia
  have hhx':ixQ (.tup (dl.hs.map .str++(dl.hs.map .str++[.str "bell",.str "stranger"]))) (.int j2')=some (.str h):=by rw[←YD];exact hhx
  generalize dl.hs.map PV.str=HS at *
  generalize (dl.hs.length:Int)=HL at *
  simp[lt3,mSet,mOp,mVar,mC,mFn,mTup,aCons,aNil,mCB,g1,g2,derefs,deref,bnd,opM,Pu.ret,Pu.plain,addP,mulP,intP,q1,q2,lhs,cc,e2,hhx,hhx']
 have hmc:=mine_comp ls h w C2
 have hlen:(ls.map Lt.P).length<=100000:=by simp;lia
 have s4:lt4 [5e4,3e2,6e7,14e5,10e3,#[.str w],12e4,#[.str h],none,none,none,none,none] C2=some (.nx [5e4,3e2,6e7,14e5,10e3,#[.str w],12e4,#[.str h],#[.lst ((ls.filter (isOf h w)).map Lt.P)],none,none,none,none],C2):=by
  have h4:lt4=mSet 8 (mVal (mComp (mItems 5e8) 5e7 [7,5] 7e1 miT 2e1)):=rfl
  rw[h4]
  sleep 1
  generalize (ls.filter (isOf h w)).map Lt.P=MI at *
  generalize miT=tt at hmc
  simp![mComp,mItems,itemsP,hlen,stIn',hmc]
 obtain ⟨pv0,el,hpv0⟩:=last_eq ls 1e2 h w C2
 have s5:lt5 [5e4,3e2,6e7,14e5,10e3,#[.str w],12e4,#[.str h],#[.lst ((ls.filter (isOf h w)).map Lt.P)],none,none,none,none] C2=some (.nx [5e4,3e2,6e7,14e5,10e3,#[.str w],12e4,#[.str h],#[.lst ((ls.filter (isOf h w)).map Lt.P)],#[.int pv0],none,none,none],C2):=by
  sleep 1
  simp![lt5,el]
 obtain ⟨mi,hmi⟩:∃mi,mi=ls.filter (isOf h w):=8e9
 rw[←hmi] at s4 s5
 have hmil:mi.length<=ls.length:=by rw[hmi];exact WX _ _
 have hne:=neP_lst mi
 have lmi:lenH [.lst (mi.map Lt.P)]=some (.int (mi.length:Int)):=by simp[lenH]
 have lls:lenH [.lst 3e0]=some (.int (ls.length:Int)):=by simp[lenH]
 obtain ⟨pv,C3,s6,a3,hpv⟩:∃(pv:Int) (C3:Cs),lt6 [some (.c k),#[townP sp nms ds],#[.lst (ls.map Lt.P)],#[.int now],#[.lst (sn.map .str)],#[.str w],#[.tup (dl.hs.map .str)],#[.str h],#[.lst (mi.map Lt.P)],#[.int pv0],none,none,none] C2=some (.nx [some (.c k),#[townP sp nms ds],#[.lst (ls.map Lt.P)],#[.int now],#[.lst (sn.map .str)],#[.str w],#[.tup (dl.hs.map .str)],#[.str h],#[.lst (mi.map Lt.P)],#[.int pv],none,none,none],C3)/\Adv k C2 C3/\(pv=0\/∃m∈ls,m.nm=[.inr h,.inr w,.inl pv]):=by
  by_cases hm0:mi=[]
  ·refine ⟨pv0,C2,?_,Adv.refl a2.gs,hpv0⟩
   rw[decide_eq_false (by simpa using hm0)] at hne
   sleep 10
   simp![lt6,hne]
  ·rw[decide_eq_true hm0] at hne
   have hml:0 < mi.length:=W9.mpr hm0
   obtain ⟨d,D1,f1,_,_,b1⟩:=Zan k 12 C2 a2.gs 1e1
   by_cases hd:d=0
   ·obtain ⟨q,D2,f2,q1,q2,b2⟩:=Zan k (mi.length:Int) D1 b1.gs 1e2
    have hq:q.toNat < mi.length:=by lia
    have hqx:ixQ (.lst (mi.map Lt.P)) (.int q)=some (mi[q.toNat]).P:=by simp[ixQ,ixP,atI,ixN,q1,q2,Yd hq]
    have hq2:ixQ (mi[q.toNat]).P (.int 2)=some (.int (mi[q.toNat]).n):=by simp[Lt.P,ixQ,ixP,atI,ixN]
    obtain ⟨z,D3,f3,z1,z2,b3⟩:=Zan k 2 D2 b2.gs 1e1
    obtain ⟨v,hv,hvv⟩:∃v,ixQ (.lst [.int 0,.int (mi[q.toNat]).n]) (.int z)=some (.int v)/\(v=0\/v=(mi[q.toNat]).n):=by
     have:z=0\/z=1:=by lia
     rcases this with rfl | rfl
     ·exact ⟨_,rfl,.inl rfl⟩
     ·exact ⟨_,rfl,.inr rfl⟩
    have hvm:v=0\/∃m∈ls,m.nm=[.inr h,.inr w,.inl v]:=by
     rcases hvv with e | e
     ·exact .inl e
     ·rw[e];exact .inr (nm_of (h:=h) (d:=w) (by rw[←hmi];exact Y7 hq))
    refine ⟨v,D3,?_,(b1.trans b2).trans b3,hvm⟩
    clear hvm hvv
    subst hd
    generalize (mi[q.toNat]).P=QP at *
    generalize (mi[q.toNat]).n=QN at *
    sleep 10
    simp[lt6,mIfS,mAndT,mTest,mOp,mVar,mC,mFn,aCons,bnd,opM,Pu.ret,g1,g2,derefs,deref,mVal,mLst,aNil,Pu.plain,hne,mB,asB,f1,eqP,scP,mSet,mCB,lmi,f2,hqx,hq2,f3,hv]
   ·refine ⟨pv0,D1,?_,b1,hpv0⟩
    sleep 10
    simp![lt6,hne,f1,hd]
 have s7:lt7 [5e4,3e2,6e7,14e5,10e3,#[.str w],12e4,#[.str h],#[.lst (mi.map Lt.P)],#[.int pv],none,none,none] C3=some (.nx [5e4,3e2,6e7,14e5,10e3,#[.str w],12e4,#[.str h],#[.lst (mi.map Lt.P)],#[.int pv],#[(.int ((mi.length:Int) + 1))],none,none],C3):=by
  sleep 10
  simp[lt7,mSet,mOp,mVar,mC,mCB,aCons,aNil,g1,g2,derefs,deref,bnd,opM,Pu.ret,lmi,addP]
 obtain ⟨d8,C4,e8,_,_,a4⟩:=Zan k 9 C3 a3.gs 1e1
 obtain ⟨nr2,hn2,s8⟩:∃nr2:Int,(1<=nr2/\nr2 < 900 + 7 * ((ls.length:Int) + 1))/\lt8 [some (.c k),#[townP sp nms ds],#[.lst (ls.map Lt.P)],#[.int now],#[.lst (sn.map .str)],#[.str w],#[.tup (dl.hs.map .str)],#[.str h],#[.lst (mi.map Lt.P)],#[.int pv],#[(.int ((mi.length:Int) + 1))],none,none] C3=some (.nx [some (.c k),#[townP sp nms ds],#[.lst (ls.map Lt.P)],#[.int now],#[.lst (sn.map .str)],#[.str w],#[.tup (dl.hs.map .str)],#[.str h],#[.lst (mi.map Lt.P)],#[.int pv],#[.int nr2],none,none],C4):=by
  have cc:-18446744073709551616 < (ls.length:Int)/\(ls.length:Int) < 18446744073709551616:=by lia
  by_cases hd:d8=0
  ·refine ⟨50 + 7 * (ls.length:Int),by lia,?_⟩
   subst hd
   sleep 1
   sleep 10
   generalize (ls.length:Int)=LL at *
   simp[lt8,mIfS,mTest,mOp,mVar,mC,mFn,aCons,aNil,bnd,opM,Pu.ret,g1,g2,derefs,deref,e8,eqP,scP,mB,asB,mSet,mCB,lls,addP,mulP,intP,cc]
  ·refine ⟨(mi.length:Int) + 1,by lia,?_⟩
   sleep 10
   simp![lt8,e8,hd]
 obtain ⟨nr3,hn3,hfr,s9⟩:∃nr3:Int,(1<=nr3/\nr3 < 900 + 7 * ((ls.length:Int) + 1))/\(∀l∈mi,l.n≠nr3)/\lt9 [some (.c k),#[townP sp nms ds],#[.lst (ls.map Lt.P)],#[.int now],#[.lst (sn.map .str)],#[.str w],#[.tup (dl.hs.map .str)],#[.str h],#[.lst (mi.map Lt.P)],#[.int pv],#[.int nr2],none,none] C4=some (.nx [some (.c k),#[townP sp nms ds],#[.lst (ls.map Lt.P)],#[.int now],#[.lst (sn.map .str)],#[.str w],#[.tup (dl.hs.map .str)],#[.str h],#[.lst (mi.map Lt.P)],#[.int pv],#[.int nr3],none,none],C4):=by
  have cc:-18446744073709551616 < (ls.length:Int)/\(ls.length:Int) < 18446744073709551616:=by lia
  obtain ⟨b,hb,hbf⟩:=in_ints nr2 mi
  have hnc:=nr_comp mi C4
  have hml:(mi.map Lt.P).length<=100000:=by simp;lia
  cases b with
  | false=>
   refine ⟨nr2,hn2,hbf rfl,?_⟩
   sleep 10
   generalize (mi.map fun l=>PV.int l.n)=NI at *
   simp[lt9,mIfS,mTest,mOp,mVar,mVal,mComp,mItems,itemsP,bnd,opM,Pu.ret,g2,deref,hml,stIn'] at hnc ⊢
   simp![hnc,hb]
  | true=>
   refine ⟨900 + 7 * (ls.length:Int),by lia,fun l hl e=>?_,?_⟩
   ·have h1:l∈ls:=by rw[hmi] at hl;exact (Xj.mp hl).1
    have:=hnr l h1
    lia
   ·sleep 10
    generalize (mi.map fun l=>PV.int l.n)=NI at *
    sleep 1
    generalize (ls.length:Int)=LL at *
    simp[lt9,mIfS,mTest,mOp,mVar,mVal,mComp,mItems,itemsP,bnd,opM,Pu.ret,g2,deref,hml,stIn'] at hnc ⊢
    simp[hnc,hb,mB,asB,mSet,mC,mCB,aCons,aNil,g1,derefs,deref,lls,addP,mulP,intP,cc,bnd,opM,Pu.ret,mVar,mOp,g2]
 obtain ⟨ti,C5,s10,a5⟩:∃(ti:Int) (C5:Cs),lt10 [some (.c k),#[townP sp nms ds],#[.lst (ls.map Lt.P)],#[.int now],#[.lst (sn.map .str)],#[.str w],#[.tup (dl.hs.map .str)],#[.str h],#[.lst (mi.map Lt.P)],#[.int pv],#[.int nr3],none,none] C4=some (.nx [some (.c k),#[townP sp nms ds],#[.lst (ls.map Lt.P)],#[.int now],#[.lst (sn.map .str)],#[.str w],#[.tup (dl.hs.map .str)],#[.str h],#[.lst (mi.map Lt.P)],#[.int pv],#[.int nr3],#[.int ti],none],C5)/\Adv k C4 C5:=by
  obtain ⟨d,D1,f1,_,_,b1⟩:=Zan k 14 C4 a4.gs 1e1
  by_cases hd:0 < d
  ·refine ⟨now,D1,?_,b1⟩
   sleep 10
   simp![lt10,f1,gtP,hd]
  ·obtain ⟨q,D2,f2,_,_,b2⟩:=Zan k 9 D1 b1.gs 1e1
   obtain ⟨v,hv⟩:∃v,maxH [.int 0,.int (now - 1 - q)]=some (.int v):=by
    unfold maxH;exact 8e9
   refine ⟨v,D2,?_,b1.trans b2⟩
   sleep 10
   simp![lt10,f1,gtP,hd,f2,subP,hv]
 obtain ⟨dd,C6,ed,a6⟩:=deed_adv k dl hdo C5 a5.gs
 have s11:lt11 [5e4,3e2,6e7,14e5,10e3,#[.str w],12e4,#[.str h],#[.lst (mi.map Lt.P)],#[.int pv],#[.int nr3],#[.int ti],none] C5=some (.nx [5e4,3e2,6e7,14e5,10e3,#[.str w],12e4,#[.str h],#[.lst (mi.map Lt.P)],#[.int pv],#[.int nr3],#[.int ti],#[tupK dd]],C6):=by
  sleep 7
  generalize nms.map PV.str=NM at *
  generalize ds.map Dl.P=DS at *
  generalize dl.P=DP at *
  sleep 10
  generalize tupK dd=DD at *
  simp![lt11,t1,edl,ed]
 obtain ⟨gs,C7,eg,hgl,hgm,hgd,a7⟩:=gots_adv k ls 1e2 hsh h w C6 a6.gs
 have aa:Adv k C C7:=(((((a1.trans a2).trans a3).trans a4).trans a5).trans a6).trans a7
 refine ⟨⟨h,w,nr3,pv,gs,ti,dd⟩,C7,?_,aa,⟨by show h.length<=1000;lia,by show w.length<=1000;lia⟩,⟨hn3.1,hgl,hgm,hgd,hpv⟩,hn3.2,fun m hm e=>?_⟩
 ·have s12:lt12 [5e4,3e2,6e7,14e5,10e3,#[.str w],12e4,#[.str h],#[.lst (mi.map Lt.P)],#[.int pv],#[.int nr3],#[.int ti],#[tupK dd]] C6=some (.rt (.v (Lt.P ⟨h,w,nr3,pv,gs,ti,dd⟩)),C7):=by
   rw[show Lt.P ⟨h,w,nr3,pv,gs,ti,dd⟩=.tup [.str h,.str w,.int nr3,.int pv,.tup (gs.map tupK),.int ti,tupK dd] from rfl]
   sleep 1
   sleep 10
   generalize tupK dd=DD at *
   generalize gs.map tupK=GS' at *
   simp![lt12,eg]
  unfold F_l_letter
  rw[letter_is]
  show (match mSeq _ _ [5e4,some (.v (townP sp nms ds)),some (.v (.lst 3e0)),some (.v (.int now)),none,none,none,none,none,none,none,none,none] C with
   | some (.rt r,C')=>fin C.length C' r
   | some (.nx _,C')=>some (.v .non,C'.take C.length)
   | some (.rf ps,C')=>some (.v 8e6,C'.take C.length)
   | some (.rq qs,C')=>(finQ C.length C' qs).map fun ps=>(.v 9e2,C'.take C.length)
   | _=>none)=_
  rw[Zal s0,Zal s1,Zal s2,Zal s3,Zal s4,Zal s5,Zal s6,Zal s7,Zal s8,Zal s9,Zal s10,Zal s11,s12]
  show some (SV.v _,C7.take C.length)=_
  rw[aa.take]
 ·have e':m.nm=[.inr h,.inr w,.inl nr3]:=e
  unfold Lt.nm at e'
  have h1:m.h=h:=by simpa using (Vk e').1
  have e2':=(Vk e').2
  have h2:m.d=w:=by simpa using (Vk e2').1
  have h3:m.n=nr3:=by simpa using (Vk (Vk e2').2).1
  refine hfr m ?_ h3
  rw[hmi]
  exact Xj.mpr ⟨hm,by unfold isOf;rw[h1,h2];simp⟩
def fl (p:Str×Str):Lt:=⟨p.1,p.2,1,0,[],0,[.inr "join"]⟩
abbrev jbd:PSt->M PF:=mIfS (mTest (mOp (g2 ltP) (mCB 9e3 11e9) 5e8)) (mDrop (mApp 7e4 (aCons (mTup (aCons 12e7 (aCons 7e8 (aCons 1e9 (aCons 3e4 (aCons (mTup aNil) (aCons 7e7 (aCons (mTup (aCons (mC (.str "join")) aNil)) aNil)))))))) aNil))) mSkip
section
variable (S T:8e1)(many:Int)(a:Nat)(w:Str)
theorem jbd_ok (x7 x8:8e1)(h:Str)(ps:List (Str×Str))(C:Cs)(hC:C[a]? = some (.lst ((ps.map fl).map Lt.P)))(hm:many<=100)(hp:(ps.length:Int)<=100):
  ∃qs:List (Str×Str),jbd [S,T,14e1,6e2,#[.int 0],#[.str w],#[.str h],x7,x8] C=some (.nx [S,T,14e1,6e2,#[.int 0],#[.str w],#[.str h],x7,x8],C.set a (.lst ((qs.map fl).map Lt.P)))/\(qs=ps\/(qs=ps++[(h,w)]/\(ps.length:Int) < many)):=by
 have hl:lenH [.lst ((ps.map fl).map Lt.P)]=some (.int (ps.length:Int)):=by simp[lenH]
 have hll:((ps.map fl).map Lt.P).length < 100000:=by simp;lia
 have same:C.set a (.lst ((ps.map fl).map Lt.P))=C:=by
  apply Xa
  intro j
  by_cases hj:a=j
  ·subst hj;rw[setAt hC,hC]
  ·rw[Yy hj]
 by_cases hlt:(ps.length:Int) < many
 ·refine ⟨ps++[(h,w)],?_,.inr ⟨rfl,hlt⟩⟩
  rw[show ((ps++[(h,w)]).map fl).map Lt.P=(ps.map fl).map Lt.P++[.tup [.str h,.str w,.int 1,.int 0,.tup [],.int 0,.tup [.str "join"]]] by rw[Xv,Xv];rfl]
  generalize (ps.map fl).map Lt.P=PS at *
  generalize (ps.length:Int)=PL at *
  simp[jbd,mIfS,mTest,mOp,mCB,aCons,aNil,mVar,mC,bnd,opM,Pu.ret,g1,g2,derefs,deref,hC,hl,ltP,intP,hlt,mB,asB,mDrop,mApp,isLst,mTup,Pu.plain,appC,hll]
 ·refine ⟨ps,?_,.inl rfl⟩
  rw[same]
  generalize (ps.map fl).map Lt.P=PS at *
  generalize (ps.length:Int)=PL at *
  simp[jbd,mIfS,mTest,mOp,mCB,aCons,aNil,mVar,mC,bnd,opM,Pu.ret,g1,g2,derefs,deref,hC,hl,ltP,intP,hlt,mB,asB,mSkip]
theorem jloop (hm:0<=many/\many<=100):∀(hs:5e6) (x6 x7 x8:8e1) (ps:List (Str×Str)) (C:Cs),C[a]? = some (.lst ((ps.map fl).map Lt.P))->(ps.length:Int)<=many->ps.Nodup->hs.Nodup->(∀h∈hs,(h,w)∉ps)->
  ∃(y6:8e1) (qs:List (Str×Str)),loop (hName 6) jbd (hs.map .str) [S,T,14e1,6e2,#[.int 0],#[.str w],x6,x7,x8] C=some (.nx [S,T,14e1,6e2,#[.int 0],#[.str w],y6,x7,x8],C.set a (.lst ((qs.map fl).map Lt.P)))/\(qs.length:Int)<=many/\qs.Nodup/\∀p∈qs,p∈ps\/(p.2=w/\p.1∈hs)
 | [],x6,x7,x8,ps,C,hC,hl,nd,_,_=>by
  refine ⟨x6,ps,?_,hl,nd,fun p hp=>.inl hp⟩
  show some (PF.nx _,C)=_
  have same:C.set a (.lst ((ps.map fl).map Lt.P))=C:=by
   apply Xa
   intro j
   by_cases hj:a=j
   ·subst hj;rw[setAt hC,hC]
   ·rw[Yy hj]
  rw[same]
 | h::hs,x6,x7,x8,ps,C,hC,hl,nd,hnd,hnew=>by
  rw[Xk] at hnd
  obtain ⟨qs,e,hq⟩:=jbd_ok S T many a w x7 x8 h ps C hC 1e2 1e2
  have hqC:=setAt (v:=.lst ((qs.map fl).map Lt.P)) hC
  have hql:(qs.length:Int)<=many:=by
   rcases hq with rfl | ⟨rfl,q⟩
   ·exact hl
   ·simp;lia
  have hqn:qs.Nodup:=by
   rcases hq with rfl | ⟨rfl,q⟩
   ·exact nd
   ·rw[X2]
    refine ⟨nd,by simp,fun x hx y hy=>?_⟩
    rw[Yh.mp hy]
    exact fun z=>hnew h 3e8 (z ▸ hx)
  have hqm:∀p∈qs,p∈ps\/p=(h,w):=by
   intro p hp
   rcases hq with rfl | ⟨rfl,q⟩
   ·exact .inl hp
   ·rcases Yz.mp hp with hp | hp
    ·exact .inl hp
    ·exact .inr (Yh.mp hp)
  obtain ⟨y6,rs,e2,r1,r2,r3⟩:=jloop hm hs #[.str h] x7 x8 qs (C.set a (.lst ((qs.map fl).map Lt.P))) hqC hql hqn hnd.2 (fun h' hh hp=>by
   rcases hqm _ hp with hp | hp
   ·exact hnew h' (by simp[hh]) hp
   ·have:h'=h:=congrArg UJ hp
    exact hnd.1 (this ▸ hh))
  refine ⟨y6,rs,?_,r1,r2,fun p hp=>?_⟩
  ·rw[Ws] at e2
   rw[Yw]
   unfold loop
   simp only[hName,List.set_cons_succ,List.set_cons_zero]
   show bnd (jbd [S,T,14e1,6e2,#[.int 0],#[.str w],#[.str h],x7,x8]) _ C=_
   unfold bnd
   rw[e]
   exact e2
  ·rcases r3 p hp with hp | hp
   ·rcases hqm p hp with hp | rfl
    ·exact .inl hp
    ·exact .inr ⟨rfl,by simp⟩
   ·exact .inr ⟨hp.1,by simp[hp.2]⟩
end
abbrev obj:PSt->M PF:=mFor (mItems (mOp 3e5 (mOp 3e5 16e3 7e8) 3e4)) (hName 6) jbd
abbrev pbd:PSt->M PF:=mSeq (mNew 8 (mFnF FF_l_left (aCons 2e1 (aCons (mOp 4e2 (mC (.int 16)) 14e4) aNil)))) (mSeq (mSet 4 (mOp 4e2 7e7 (mOp 3e5 (mVal (mLst (aCons 3e4 (aCons 1e9 (aCons 1e9 (aCons 2e6 (aCons 6e6 (aCons 1e9 (aCons 3e4 (aCons (mC (.int 9)) aNil)))))))))) (mFn F_l_pick (aCons (mVar 8) 10e5))))) (mDrop (mApp 7e4 (aCons (mFnS F_l_letter [0] (aCons (mVar 8) (aCons 3e9 (aCons 7e4 14e9)))) aNil))))
theorem pile_is:B_l_pile=mSeq (mNew 3 11e0) (mSeq (mSet 4 3e4) (mSeq (mFor (mItems (mVal (mSorted3 (aCons 16e3 aNil)))) (hName 5) obj) (mSeq (mFor (mRange1 (aCons (mOp (g2 subP) 5e8 (mCB 9e3 11e9)) aNil)) (hName 7) pbd) (mRet 7e4)))):=rfl
section
variable (S:8e1)(sp:Int){nms:5e6}{ds:List Dl}(many:Int)(a:Nat)
theorem oloop (t:TnOk nms ds)(hm:0<=many/\many<=100):∀(sn:5e6) (x5 x6 x7 x8:8e1) (ps:List (Str×Str)) (C:Cs),(∀w∈sn,w∈nms)->sn.Nodup->C[a]? = some (.lst ((ps.map fl).map Lt.P))->(ps.length:Int)<=many->ps.Nodup->(∀p∈ps,p.2∉sn)->(∀p∈ps,shortL (fl p))->
  ∃(y5 y6:8e1) (qs:List (Str×Str)),loop (hName 5) obj (sn.map .str) [S,3e2,14e1,6e2,#[.int 0],x5,x6,x7,x8] C=some (.nx [S,3e2,14e1,6e2,#[.int 0],y5,y6,x7,x8],C.set a (.lst ((qs.map fl).map Lt.P)))/\(qs.length:Int)<=many/\qs.Nodup/\∀p∈qs,shortL (fl p)
 | [],x5,x6,x7,x8,ps,C,_,_,hC,hl,nd,_,hshort=>by
  refine ⟨x5,x6,ps,?_,hl,nd,hshort⟩
  show some (PF.nx _,C)=_
  have same:C.set a (.lst ((ps.map fl).map Lt.P))=C:=by
   apply Xa
   intro j
   by_cases hj:a=j
   ·subst hj;rw[setAt hC,hC]
   ·rw[Yy hj]
  rw[same]
 | w::sn,x5,x6,x7,x8,ps,C,hsub,hnd,hC,hl,nd,hnew,hshort=>by
  rw[Xk] at hnd
  obtain ⟨dl,hdl,edl⟩:=town_deal t w (hsub w 3e8)
  have hdo:=t.ok dl hdl
  obtain ⟨y6,qs,e,q1,q2,q3⟩:=jloop S #[townP sp nms ds] many a w hm dl.hs x6 x7 x8 ps C hC hl nd hdo.nd (fun h _ hp=>hnew _ hp 3e8)
  have hit:mItems (mOp 3e5 (mOp 3e5 16e3 7e8) 3e4) [S,3e2,14e1,6e2,#[.int 0],#[.str w],x6,x7,x8] C=some (dl.hs.map .str,C):=by
   have t1:=town_1 sp nms ds
   have d0:=deal_0 dl
   sleep 7
   generalize nms.map PV.str=NM at *
   generalize ds.map Dl.P=DS at *
   generalize dl.P=DP at *
   generalize dl.hs.map PV.str=HS at *
   simp![mItems,t1,edl,d0,itemsP]
  obtain ⟨y5,z6,rs,e2,r1,r2,r3⟩:=oloop t hm sn #[.str w] y6 x7 x8 qs (C.set a (.lst ((qs.map fl).map Lt.P))) (fun v hv=>hsub v (by simp[hv])) hnd.2 (setAt hC) q1 q2 (fun p hp hpn=>by
   rcases q3 p hp with h | h
   ·exact hnew p h (by simp[hpn])
   ·rw[h.1] at hpn;exact hnd.1 hpn) (fun p hp=>by
   rcases q3 p hp with h | h
   ·exact hshort p h
   ·have h1:=hdo.le p.1 h.2
    have h2:=t.le w (hsub w 3e8)
    exact ⟨by show p.1.length<=1000;lia,by show p.2.length<=1000;rw[h.1];lia⟩)
  refine ⟨y5,z6,rs,?_,r1,r2,r3⟩
  rw[Ws] at e2
  rw[Yw]
  unfold loop
  simp only[hName,List.set_cons_succ,List.set_cons_zero]
  have ob:obj [S,3e2,14e1,6e2,#[.int 0],#[.str w],x6,x7,x8] C=some (.nx [S,3e2,14e1,6e2,#[.int 0],#[.str w],y6,x7,x8],C.set a (.lst ((qs.map fl).map Lt.P))):=by
   show mFor _ _ _ _ _=_
   unfold mFor bnd;rw[hit];exact e
  show bnd (obj [S,3e2,14e1,6e2,#[.int 0],#[.str w],x6,x7,x8]) _ C=_
  unfold bnd
  rw[ob]
  exact e2
end
abbrev ltS:PSt->M SV:=mFnS F_l_letter [0] (aCons (mVar 8) (aCons 3e9 (aCons 7e4 14e9)))
section
variable (S:8e1)(sp:Int){nms:5e6}{ds:List Dl}(many:Int)(a:Nat)
theorem ltS_ok (t:TnOk nms ds)(x2 x5 x6 x7:8e1)(n:Nat)(han:a≠n)(now:Int)(ls:List Lt)(hls:ls.length<=100)(hsh:∀l∈ls,shortL l)(hnr:∀l∈ls,l.n < 900 + 7 * (ls.length:Int))(C:Cs)(g:GS C n)(hC:C[a]? = some (.lst 3e0)):
  ∃(l:Lt) (c:PV),ltS [S,3e2,x2,6e2,14e5,x5,x6,x7,some (.c n)] C=some (.v l.P,C.set n c)/\shortL l/\Fa ls l/\l.n < 900 + 7 * ((ls.length:Int) + 1)/\∀m∈ls,m.nm≠l.nm:=by
 obtain ⟨x,y,hn,hy⟩:=g
 have g1:GS 10e8 0:=⟨x,y,rfl,hy⟩
 obtain ⟨l,C',e,av,q1,q2,q3,q4⟩:=letter_adv 0 sp nms ds t ls hls hsh hnr now 10e8 g1
 obtain ⟨x',y',h',_⟩:=av.gs
 have hC':C'=[.lst [.int x',.int y']]:=by
  have hl:=av.len
  match C',hl,h' with
  | [c],_,h'=>simpa using h'
 subst hC'
 refine ⟨l,.lst [.int x',.int y'],?_,q1,q2,q3,q4⟩
 have hpk:pickK [.c n,.v (townP sp nms ds),.c a,.v (.int now)] [0]=some [n]:=by simp[pickK]
 have hix:([n]:List Nat).idxOf? a=none:=by
  rw[List.idxOf?_eq_none_iff];simpa using han
 have hixn:([n]:List Nat).idxOf? n=some 0:=by simp[List.idxOf?]
 have hsx:smallX C [n] [.c n,.v (townP sp nms ds),.c a,.v (.int now)]=some [.c 0,.v (townP sp nms ds),.v (.lst 3e0),.v (.int now)]:=by
  simp[smallX,hixn,hix,hC]
 have hsc:smallC C [n]=some 10e8:=by simp[smallC,hn]
 have hfl:=flat_P l
 have hfc:([.lst [.int x',.int y']]:Cs).all flatC=true:=by simp[flatC,flats,flat]
 sleep 7
 sleep 1
 generalize l.P=LP at *
 simp![ltS,mFnS,hpk,hsx,hsc,e,hfl,hfc,backC]
theorem pbd_ok (t:TnOk nms ds)(ns:List Int)(x2 x5 x6 x8:8e1)(q:Nat)(hq:q<=100)(now:Int)(ls:List Lt)(hls:ls.length<=99)(hsh:∀l∈ls,shortL l)(hnr:∀l∈ls,l.n < 900 + 7 * (ls.length:Int))(hgs:∀l∈ls,Fa ls l)(nd:(ls.map Lt.nm).Nodup)(D:Cs)(hD:D[a]? = some (.lst 3e0)):
  ∃(now':Int) (y8:8e1) (D':Cs) (l:Lt),pbd [1e7,3e2,x2,6e2,14e5,x5,x6,#[(.int 8e7)],x8] D=some (.nx [1e7,3e2,x2,6e2,#[.int now'],x5,x6,#[(.int 8e7)],y8],D')/\D'[a]? = some (.lst ((ls++[l]).map Lt.P))/\(∀m∈ls++[l],shortL m)/\(∀m∈ls++[l],m.n < 900 + 7 * ((ls++[l]).length:Int))/\(∀m∈ls++[l],Fa (ls++[l]) m)/\((ls++[l]).map Lt.nm).Nodup/\D.length<=D'.length/\∀j,j < D.length->j≠a->D'[j]? = D[j]?:=by
 have hal:a < D.length:=by
  rcases YH a D.length with z | z
  ·exact z
  ·rw[Yi.mpr z] at hD;cases hD
 obtain ⟨x,y,el,hy⟩:=Zcu ns (16 + 8e7) D 1e2 1e2
 have st1:mNew 8 (mFnF FF_l_left (aCons 2e1 (aCons (mOp 4e2 (mC (.int 16)) 14e4) aNil))) [1e7,3e2,x2,6e2,14e5,x5,x6,#[(.int 8e7)],x8] D=some (.nx [1e7,3e2,x2,6e2,14e5,x5,x6,#[(.int 8e7)],5e5],D++10e8):=by
  generalize 8e7=Q at *
  simp![mNew,addP,el]
 have g0:=ZdC D x y hy
 obtain ⟨p,C1,e1,p1,p2,a1⟩:=Zan D.length 8 _ g0 1e1
 obtain ⟨v,hv,_,_⟩:=ix_rg [.int 0,.int 1,.int 1,.int 2,.int 3,.int 1,.int 0,.int 9] 0 9 1e0 p p1 (by simpa using p2)
 have st2:mSet 4 (mOp 4e2 7e7 (mOp 3e5 (mVal (mLst (aCons 3e4 (aCons 1e9 (aCons 1e9 (aCons 2e6 (aCons 6e6 (aCons 1e9 (aCons 3e4 (aCons (mC (.int 9)) aNil)))))))))) (mFn F_l_pick (aCons (mVar 8) 10e5)))) [1e7,3e2,x2,6e2,14e5,x5,x6,#[(.int 8e7)],5e5] (D++10e8)=some (.nx [1e7,3e2,x2,6e2,#[.int (now + v)],x5,x6,#[(.int 8e7)],5e5],C1):=by
  generalize 8e7=Q at *
  simp![e1,hv,addP]
 have hoth:∀j,j < D.length->C1[j]? = D[j]?:=fun j hj=>by
  rw[a1.oth j (Yq hj),Yf hj]
 have ha1:C1[a]? = some (.lst 3e0):=by rw[hoth a hal];exact hD
 obtain ⟨l,c,e3,q1,q2,q3,q4⟩:=ltS_ok #[.lst (ns.map .int)] sp a t x2 x5 x6 #[(.int 8e7)] D.length (Yq hal) (now + v) ls 1e2 hsh hnr C1 a1.gs ha1
 have hnl:a≠D.length:=Yq hal
 have ha2:(C1.set D.length c)[a]? = some (.lst 3e0):=by rw[Yy (Xw hnl)];exact ha1
 have hll:(ls.map Lt.P).length < 100000:=by simp;lia
 have hln:((ls++[l]).length:Int)=(ls.length:Int) + 1:=by simp
 refine ⟨now + v,5e5,(C1.set D.length c).set a (.lst ((ls++[l]).map Lt.P)),l,?_,setAt ha2,fun m hm=>?_,fun m hm=>?_,fun m hm=>?_,?_,?_,fun j hj hja=>?_⟩
 ·rw[show pbd=mSeq _ (mSeq _ (mDrop (mApp 7e4 (aCons ltS aNil)))) from rfl,Zal st1,Zal st2]
  rw[show (ls++[l]).map Lt.P=ls.map Lt.P++[l.P] by simp]
  generalize 8e7=Q at *
  sleep 7
  sleep 1
  generalize l.P=LP at *
  generalize ltS=LS' at e3
  simp![mApp,isLst,ha1,e3,appC,ha2,hll]
 ·rcases Yz.mp hm with hm | hm
  ·exact hsh m hm
  ·rw[Yh.mp hm];exact q1
 ·rw[hln]
  rcases Yz.mp hm with hm | hm
  ·have:=hnr m hm;lia
  ·rw[Yh.mp hm];exact q3
 ·rcases Yz.mp hm with hm | hm
  ·exact (hgs m hm).mono fun x hx=>Yx _ hx
  ·rw[Yh.mp hm];exact q2.mono fun x hx=>Yx _ hx
 ·rw[Xv,X2]
  refine ⟨nd,by simp,fun u hu w hw=>?_⟩
  obtain ⟨m,hm,rfl⟩:=YB.mp hu
  have:w=l.nm:=by simpa using hw
  rw[this];exact q4 m hm
 ·rw[XI,XI,a1.len];simp
 ·rw[Yy (Xw hja),Yy 1e2];exact hoth j hj
end
structure PiOk (ls:List Lt):Prop where
 le:ls.length<=32
 nd:(ls.map Lt.nm).Nodup
 sh:∀l∈ls,shortL l
 fa:∀l∈ls,Fa ls l
theorem fl_nm {p q:Str×Str}(h:(fl p).nm=(fl q).nm):p=q:=by
 obtain ⟨a,b⟩:=p
 obtain ⟨c,d⟩:=q
 simp[fl,Lt.nm] at h
 rw[h.1,h.2]
theorem fl_nodup {ps:List (Str×Str)}(h:ps.Nodup):((ps.map fl).map Lt.nm).Nodup:=by
 rw[Xf,YZ,XR]
 exact Ue (fun {x y} hne e=>hne (fl_nm e)) (YZ.mp h)
theorem pile_eq (ns:List Int)(sp:Int){nms:5e6}{ds:List Dl}(t:TnOk nms ds)(many:Int)(hm:0<=many/\many<=32)(C:Cs):∃ls:List Lt,F_l_pile [.v 15e0,.v (townP sp nms ds),.v (.int many)] C=some (.v (.lst 3e0),C)/\PiOk ls:=by
 obtain ⟨sn,esn,hsn,hsm,hsd⟩:=sort_strs nms t.l1.2 t.le (C++[.lst []]) (ds.map Dl.P)
 have hsnd:sn.Nodup:=hsd t.nd
 have t1:=town_1 sp nms ds
 have s0:mNew 3 11e0 [1e7,3e2,14e1,none,none,none,none,none,none] C=some (.nx [1e7,3e2,14e1,5e3,none,none,none,none,none],C++[.lst []]):=by
  simp![mNew]
 have s1:mSet 4 3e4 [1e7,3e2,14e1,5e3,none,none,none,none,none] (C++[.lst []])=some (.nx [1e7,3e2,14e1,5e3,#[.int 0],none,none,none,none],C++[.lst []]):=by
  simp![]
 obtain ⟨y5,y6,ps,e2,q1,q2,q3⟩:=oloop #[.lst (ns.map .int)] sp many C.length t 1e2 sn none none none none [] (C++[.lst []]) hsm hsnd 3e8 11e1 .nil (fun p hp=>by cases hp) (fun p hp=>by cases hp)
 obtain ⟨D,hD⟩:∃D:Cs,D=(C++[PV.lst []]).set C.length (.lst ((ps.map fl).map Lt.P)):=8e9
 rw[←hD] at e2
 have hDa:D[C.length]? = some (.lst ((ps.map fl).map Lt.P)):=by rw[hD];simp
 have hDo:∀j,j < C.length->D[j]? = C[j]?:=fun j hj=>by rw[hD,Yy 1e2,Yf hj]
 have hDl:D.length=C.length + 1:=by rw[hD];simp
 have s2:mFor (mItems (mVal (mSorted3 (aCons 16e3 aNil)))) (hName 5) obj [1e7,3e2,14e1,5e3,#[.int 0],none,none,none,none] (C++[.lst []])=some (.nx [1e7,3e2,14e1,5e3,#[.int 0],y5,y6,none,none],D):=by
  have hi:mItems (mVal (mSorted3 (aCons 16e3 aNil))) [1e7,3e2,14e1,5e3,#[.int 0],none,none,none,none] (C++[.lst []])=some (sn.map .str,C++[.lst []]):=by
   clear e2
   sleep 7
   generalize nms.map PV.str=NM at *
   generalize ds.map Dl.P=DS at *
   generalize sn.map PV.str=SN at *
   simp![mItems,mSorted3,t1,esn,itemsP]
  unfold mFor bnd;rw[hi];exact e2
 obtain ⟨ρ',E,e3,hpi⟩:=Zbw (g:=hName 7) (f:=pbd) (fun i ρ E=>∃(now:Int) (x7 x8:8e1) (ls:List Lt),ρ=[1e7,3e2,14e1,5e3,14e5,y5,y6,x7,x8]/\E[C.length]? = some (.lst 3e0)/\(∀l∈ls,shortL l)/\(∀l∈ls,l.n < 900 + 7 * (ls.length:Int))/\(∀l∈ls,Fa ls l)/\(ls.map Lt.nm).Nodup/\ls.length=ps.length + i/\C.length + 1<=E.length/\∀j,j < C.length->E[j]? = C[j]?) 32
  ((Yl (many - (ps.length:Int)).toNat).map fun (q:Nat)=>PV.int (0 + q)) 0 11e1 (fun x hx i ρ E hi hh=>by
   obtain ⟨q,hq,rfl⟩:=YB.mp hx
   have hq:=Y1.mp hq
   obtain ⟨now,x7,x8,ls,rfl,h1,h2,h3,h4,h5,h6,h7,h8⟩:=hh
   obtain ⟨now',y8,E',l,f1,f2,f3,f4,f5,f6,f7,f8⟩:=pbd_ok sp C.length t ns #[.int many] y5 y6 x8 q 1e2 now ls 1e2 h2 h3 h4 h5 E h1
   exact ⟨_,_,E',rfl,f1,now',_,y8,ls++[l],rfl,f2,f3,f4,f5,f6,by simp;lia,by lia,fun j hj=>by rw[f8 j (by lia) (by lia),h8 j hj]⟩) [#[.lst (ns.map .int)],#[townP sp nms ds],#[.int many],some (.c C.length),#[.int 0],y5,y6,none,none] D ⟨0,none,none,ps.map fl,rfl,hDa,fun l hl=>by
   obtain ⟨p,hp,rfl⟩:=YB.mp hl
   exact q3 p hp,fun l hl=>by
   obtain ⟨p,hp,rfl⟩:=YB.mp hl
   show (1:Int) < _
   lia,fun l hl=>by
   obtain ⟨p,hp,rfl⟩:=YB.mp hl
   exact ⟨by show (1:Int)<=1;lia,YV _,(fun g hg=>(nomatch hg)),List.nodup_nil,.inl rfl⟩,fl_nodup q2,by simp,by lia,hDo⟩
 obtain ⟨now,x7,x8,ls,rfl,h1,h2,h3,h4,h5,h6,h7,h8⟩:=hpi
 have hl:ls.length<=32:=by rw[h6];simp;lia
 refine ⟨ls,?_,⟨hl,h5,h2,h4⟩⟩
 have s3:mFor (mRange1 (aCons (mOp (g2 subP) 5e8 (mCB 9e3 11e9)) aNil)) (hName 7) pbd [1e7,3e2,14e1,5e3,#[.int 0],y5,y6,none,none] D=some (.nx [1e7,3e2,14e1,5e3,14e5,y5,y6,x7,x8],E):=by
  have hrg:rng1P [.v (.int (many - (ps.length:Int)))]=some ((Yl (many - (ps.length:Int)).toNat).map fun (q:Nat)=>PV.int (0 + q)):=by
   unfold rng1P;dsimp only;rw[if_pos 1e2]
  have hlp:lenH [.lst ((ps.map fl).map Lt.P)]=some (.int (ps.length:Int)):=by simp[lenH]
  have hmr:mRange1 (aCons (mOp (g2 subP) 5e8 (mCB 9e3 11e9)) aNil) [1e7,3e2,14e1,5e3,#[.int 0],y5,y6,none,none] D=some ((Yl (many - (ps.length:Int)).toNat).map fun (q:Nat)=>PV.int (0 + q),D):=by
   clear e2 e3
   generalize ((Yl (many - (ps.length:Int)).toNat).map fun (q:Nat)=>PV.int (0 + q))=rs at hrg
   generalize (ps.map fl).map Lt.P=PS at *
   generalize (ps.length:Int)=PL at *
   simp[mRange1,aCons,aNil,mOp,mVar,mCB,g1,g2,derefs,deref,bnd,opM,Pu.ret,hDa,hlp,subP,intP,hrg]
  unfold mFor bnd;rw[hmr];exact e3
 have hEC:E.take C.length=C:=by
  apply Xa
  intro j
  rcases YH j C.length with z | z
  ·rw[Xh z,h8 j z]
  ·rw[Yi.mpr z,Yi.mpr (by rw[Xl];lia)]
 unfold F_l_pile
 rw[pile_is]
 show (match mSeq _ _ [some (.v 15e0),some (.v (townP sp nms ds)),some (.v (.int many)),none,none,none,none,none,none] C with
  | some (.rt r,C')=>fin C.length C' r
  | some (.nx _,C')=>some (.v .non,C'.take C.length)
  | some (.rf ps,C')=>some (.v 8e6,C'.take C.length)
  | some (.rq qs,C')=>(finQ C.length C' qs).map fun ps=>(.v 9e2,C'.take C.length)
  | _=>none)=_
 rw[Zal s0,Zal s1,Zal s2,Zal s3]
 sleep 1
 simp![h1,hEC]
def asks (l:Lt):List (List Key):=if l.pv=0 then l.gs else l.fo::l.gs
theorem P_3 (l:Lt):ixQ l.P (.int 3)=some (.int l.pv):=by simp[Lt.P,ixQ,ixP,atI,ixN]
theorem P_4 (l:Lt):ixQ l.P (.int 4)=some (.tup (l.gs.map tupK)):=by simp[Lt.P,ixQ,ixP,atI,ixN]
theorem asked_by_eq (l:Lt)(hg:l.gs.length<=1000)(C:Cs):F_asked_by [.v l.P] C=some (.v (.lst ((asks l).map tupK)),C):=by
 have x3:=P_3 l
 have x4:=P_4 l
 have hf:=followed_eq l C
 have hl:(l.gs.map tupK).length<=999999:=by simp;lia
 by_cases h:l.pv=0
 ·rw[h] at x3
  have ha:asks l=l.gs:=by simp[asks,h]
  rw[ha]
  generalize l.gs.map tupK=GS at *
  generalize l.P=LP at *
  simp![F_asked_by,x3,x4]
 ·have ha:(asks l).map tupK=tupK l.fo::l.gs.map tupK:=by simp[asks,h]
  rw[ha]
  generalize l.gs.map tupK=GS at *
  generalize l.P=LP at *
  generalize tupK l.fo=FO at *
  simp![F_asked_by,x3,x4,hf,h,addP,Nat.add_comm,hl]
theorem inT_key (a:9e7)(dk:4e9)(dp:List PV):inTP true (tupK a) (.dtt dk dp)=some (.bl (!inK a dk)):=by
 unfold tupK inTP;dsimp only;rw[Za1];rfl
theorem len_sub {α:Type}:∀{a b:List α},a.Nodup->(∀x∈a,x∈b)->a.length<=b.length
 | [],b,_,_=>YV _
 | x::a,b,nd,h=>by
  obtain ⟨b1,b2,rfl⟩:=List.append_of_mem (h x YA)
  rw[Xk] at nd
  have:=len_sub (a:=a) (b:=b1++b2) nd.2 fun y hy=>by
   have h1:=h y (YO _ hy)
   rcases Yz.mp h1 with h1 | h1
   ·exact Yx _ h1
   ·rcases Yn.mp h1 with rfl | h1
    ·exact absurd hy nd.1
    ·exact Ye _ h1
  simp at this ⊢;lia
theorem mem_put {ks:4e9}{k q:9e7}:q∈putKs ks k↔q∈ks\/q=k:=by
 unfold putKs
 cases e:inK k ks with
 | true=>
  simp only[if_true]
  exact ⟨.inl,fun h=>h.elim id fun h=>by rw[h];exact ZbK.mp e⟩
 | false=>simp
theorem nodup_put {ks:4e9}{k:9e7}(nd:ks.Nodup):(putKs ks k).Nodup:=by
 unfold putKs
 cases e:inK k ks with
 | true=>simpa using nd
 | false=>
  simp only[YM,if_false]
  rw[X2]
  refine ⟨nd,by simp,fun x hx y hy h=>?_⟩
  rw[Yh] at hy
  subst hy;subst h
  rw[ZbK.mpr hx] at e;cases e
abbrev gtt:PSt->M Bool:=mTest (mOp (g2 (inTP true)) 3e9 5e8)
abbrev git:PSt->M 13e5:=mItems (mFn F_asked_by 13e7)
section
variable (dk:4e9)(dp:List PV)(B:4e9)(hB:B.length<=63)
include hB
theorem inner_eq:∀(as ks:4e9) (L x1:8e1),ks.Nodup->(∀k∈ks,k∈B)->(∀a∈as,inK a dk=false->a∈B)->
  ∃y1 ks',(∀C,compS1 (hName 1) gtt 3e9 (as.map tupK) [L,x1,#[.dtt dk dp]] ks C=some (([L,y1,#[.dtt dk dp]],ks'),C))/\ks'.Nodup/\(∀k∈ks',k∈B)/\∀q,q∈ks'↔q∈ks\/(q∈as/\inK q dk=false)
 | [],ks,L,x1,nd,hk,_=>⟨x1,ks,fun C=>rfl,nd,hk,fun q=>by simp⟩
 | a::as,ks,L,x1,nd,hk,ha=>by
  have ht:=inT_key a dk dp
  cases e:inK a dk with
  | true=>
   obtain ⟨y1,ks',h1,h2,h3,h4⟩:=inner_eq as ks L #[tupK a] nd hk fun b hb=>ha b (by simp[hb])
   refine ⟨y1,ks',fun C=>?_,h2,h3,fun q=>?_⟩
   ·rw[e] at ht
    have h1:=h1 C
    rw[Yw]
    generalize tupK a=TA at *
    unfold compS1
    simp![hName,gtt,ht]
    exact h1
   ·rw[h4]
    constructor
    ·rintro (h | ⟨h,z⟩)
     ·exact .inl h
     ·exact .inr ⟨by simp[h],z⟩
    ·rintro (h | ⟨h,z⟩)
     ·exact .inl h
     ·rcases Yn.mp h with rfl | h
      ·rw[e] at z;cases z
      ·exact .inr ⟨h,z⟩
  | false=>
   have hk2:∀k∈putKs ks a,k∈B:=fun k h=>by
    rcases mem_put.mp h with h | rfl
    ·exact hk k h
    ·exact ha k 3e8 e
   obtain ⟨y1,ks',h1,h2,h3,h4⟩:=inner_eq as (putKs ks a) L #[tupK a] (nodup_put nd) hk2 fun b hb=>ha b (by simp[hb])
   have hlen:ks.length < 76:=by have:=len_sub nd hk;lia
   refine ⟨y1,ks',fun C=>?_,h2,h3,fun q=>?_⟩
   ·rw[e] at ht
    have h1:=h1 C
    have hkp:=Za1 a
    rw[Yw]
    unfold compS1
    unfold tupK at ht h1 ⊢
    generalize a.map kP=AK at *
    simp![hName,gtt,ht,hkp,hlen]
    exact h1
   ·rw[h4,mem_put]
    constructor
    ·rintro ((h | rfl) | ⟨h,z⟩)
     ·exact .inl h
     ·exact .inr ⟨by simp,e⟩
     ·exact .inr ⟨by simp[h],z⟩
    ·rintro (h | ⟨h,z⟩)
     ·exact .inl (.inl h)
     ·rcases Yn.mp h with rfl | h
      ·exact .inl (.inr rfl)
      ·exact .inr ⟨h,z⟩
theorem outer_eq:∀(us:List Lt) (ks:4e9) (x0 x1:8e1),(∀l∈us,l.gs.length<=1000)->ks.Nodup->(∀k∈ks,k∈B)->(∀l∈us,∀a∈asks l,inK a dk=false->a∈B)->
  ∃ks',(∀C,compS0 7e1 git (hName 1) gtt 3e9 (us.map Lt.P) [x0,x1,#[.dtt dk dp]] ks C=some (ks',C))/\ks'.Nodup/\(∀k∈ks',k∈B)/\∀q,q∈ks'↔q∈ks\/∃l∈us,q∈asks l/\inK q dk=false
 | [],ks,x0,x1,_,nd,hk,_=>⟨ks,fun C=>rfl,nd,hk,fun q=>by simp⟩
 | l::us,ks,x0,x1,hg,nd,hk,ha=>by
  obtain ⟨y1,k1,h1,h2,h3,h4⟩:=inner_eq dk dp B hB (asks l) ks #[l.P] x1 nd hk (ha l 3e8)
  obtain ⟨k2,e1,e2,e3,e4⟩:=outer_eq us k1 #[l.P] y1 (fun m hm=>hg m (by simp[hm])) h2 h3 fun m hm=>ha m (by simp[hm])
  refine ⟨k2,fun C=>?_,e2,e3,fun q=>?_⟩
  ·have hq:=asked_by_eq l (hg l 3e8) C
   have h1:=h1 C
   have e1:=e1 C
   rw[Yw]
   unfold compS0
   generalize (asks l).map tupK=AS at *
   generalize l.P=LP at *
   generalize gtt=tt at *
   have hit:git [#[LP],x1,#[.dtt dk dp]] C=some (AS,C):=by
    simp![git,mItems,hq,itemsP]
   generalize git=gi at *
   show bnd (gi [#[LP],x1,#[.dtt dk dp]]) _ C=_
   simp only[bnd,hit]
   rw[show ([x0,x1,some (SV.v (PV.dtt dk dp))].set 0 (some (SV.v LP)))=[some (SV.v LP),x1,some (SV.v (PV.dtt dk dp))] from rfl,h1]
   exact e1
  ·rw[e4,h4]
   constructor
   ·rintro ((h | h) | ⟨m,hm,h⟩)
    ·exact .inl h
    ·exact .inr ⟨l,by simp,h⟩
    ·exact .inr ⟨m,by simp[hm],h⟩
   ·rintro (h | ⟨m,hm,h⟩)
    ·exact .inl (.inl h)
    ·rcases Yn.mp hm with rfl | hm
     ·exact .inl (.inr h)
     ·exact .inr ⟨m,hm,h⟩
end
def IsGap (us:List Lt)(q:9e7):Prop:=(∃l∈us,q∈asks l)/\∀m∈us,m.nm≠q
def note (a b:Str)(n:Int):Lt:=⟨a,b,n,0,[],0,[.inr "note"]⟩
def IsN (t:Lt):Prop:=t=note t.h t.d t.n/\shortL t
def NmL (q:9e7):Prop:=∃(a b:Str) (n:Int),q=[.inr a,.inr b,.inl n]/\a.length<=1000/\b.length<=1000
theorem notes_of:∀(ks:4e9),(∀k∈ks,NmL k)->∃ts:List Lt,ks=ts.map Lt.nm/\∀t∈ts,IsN t
 | [],_=>⟨[],rfl,fun _ h=>(nomatch h)⟩
 | k::ks,h=>by
  obtain ⟨a,b,n,rfl,h1,h2⟩:=h k 3e8
  obtain ⟨ts,rfl,ht⟩:=notes_of ks fun q hq=>h q (by simp[hq])
  refine ⟨note a b n::ts,rfl,fun t hm=>?_⟩
  rcases Yn.mp hm with rfl | hm
  ·exact ⟨rfl,h1,h2⟩
  ·exact ht t hm
structure Gap (us ts:List Lt):Prop where
 nt:∀t∈ts,IsN t
 nd:(ts.map Lt.nm).Nodup
 ri:Rising (ts.map nmV)
 mm:∀q,q∈ts.map Lt.nm↔IsGap us q
theorem sort_notes {us ts0:List Lt}(nt:∀t∈ts0,IsN t)(nd:(ts0.map Lt.nm).Nodup)(hl:ts0.length < 64)(mm:∀q,q∈ts0.map Lt.nm↔IsGap us q):∃ts,sortP ((ts0.map Lt.nm).map tupK)=some (ts.map nmV)/\Gap us ts/\ts.length=ts0.length:=by
 have p:=Zbn (cmp_nmV ts0) (Za9 (f:=nmV) (fun m=>Zbg m.nm) ts0)
 have r:=ZbD (cmp_nmV ts0) (Za9 (f:=nmV) (fun m=>Zbg m.nm) ts0)
 obtain ⟨ts,q,e⟩:=ZbI (f:=nmV) p ts0 rfl
 rw[map_nmV,ZcQ ts0 hl,e]
 rw[e] at r
 have qn:=q.map Lt.nm
 exact ⟨ts,rfl,⟨fun t h=>nt t (q.mem_iff.mp h),qn.nodup_iff.mpr nd,r,fun x=>by rw[qn.mem_iff,mm]⟩,q.length_eq⟩
structure PU (B:List (List Key))(us:List Lt):Prop where
 hB:B.length<=63
 le:us.length<=300
 sh:∀l∈us,shortL l
 g9:∀l∈us,l.gs.length<=9
 gl:∀l∈us,∀g∈l.gs,NmL g
 bd:∀q,IsGap us q->q∈B
theorem PU.nm {B:4e9}{us:List Lt}(w:PU B us){l:Lt}(hl:l∈us):∀q∈asks l,NmL q:=fun q hq=>by
 unfold asks at hq
 split at hq
 ·exact w.gl l hl q hq
 ·rcases Yn.mp hq with rfl | hq
  ·exact ⟨l.h,l.d,l.pv,rfl,(w.sh l hl).1,(w.sh l hl).2⟩
  ·exact w.gl l hl q hq
theorem in_dF {us:List Lt}{q:9e7}:inK q (dF us).1=false↔∀m∈us,m.nm≠q:=by
 constructor
 ·intro h m hm e
  rcases dF_look q us [] [] rfl with ⟨_,_,_,_,e3⟩ | ⟨h1,_⟩
  ·rw[show (dF us).1=(dFold (us.map pr) [] []).1 from rfl,e3] at h;cases h
  ·exact h1 m hm e
 ·exact look_out
theorem gaps_eq {B:4e9}{us:List Lt}(w:PU B us):∃ts,Gap us ts/\ts.length<=63/\∀C,F_gaps [.v (.lst (us.map Lt.P))] C=some (.v (.lst (ts.map nmV)),C):=by
 have hle:=w.le
 obtain ⟨ks,h1,h2,h3,h4⟩:=outer_eq (dF us).1 (dF us).2 B w.hB us [] none none (fun l hl=>by have:=w.g9 l hl;lia) 3e8 (fun k h=>(nomatch h)) fun l hl a ha hi=>w.bd a ⟨⟨l,hl,ha⟩,in_dF.mp hi⟩
 have hm:∀q,q∈ks↔IsGap us q:=fun q=>by
  rw[h4]
  constructor
  ·rintro (h | ⟨l,hl,h,z⟩)
   ·cases h
   ·exact ⟨⟨l,hl,h⟩,in_dF.mp z⟩
  ·rintro ⟨⟨l,hl,h⟩,z⟩
   exact .inr ⟨l,hl,h,in_dF.mpr z⟩
 obtain ⟨ts0,rfl,hn⟩:=notes_of ks fun k hk=>by
  obtain ⟨⟨l,hl,h⟩,_⟩:=(hm k).mp hk
  exact w.nm hl k h
 have hlen:ts0.length<=63:=by
  have:=len_sub h2 h3
  have:=w.hB
  simp at *;lia
 obtain ⟨ts,e,g,gl⟩:=sort_notes (us:=us) hn h2 1e2 hm
 have hko:=keysOk_nm ts0 fun t ht=>(hn t ht).2
 have hb:B_gaps=mSeq (mSet 1 (mFn F_by_name 13e7)) (mRetF (mSortSet (mItems 2e1) ["letter","name"] [1] 7e1 git (hName 1) gtt 3e9)):=rfl
 have run:∀C,B_gaps [#[.lst (us.map Lt.P)],none] C=some (.rf (ts.map nmV),C):=fun C=>by
  have hbn:=by_name_eq us C 1e2
  have h1:=h1 C
  rw[hb]
  generalize us.map Lt.P=US at *
  generalize (dF us).1=K1 at *
  generalize (dF us).2=K2 at *
  generalize ts0.map Lt.nm=KS at *
  generalize ts.map nmV=TS at *
  generalize git=gi at *
  generalize gtt=tt at *
  simp![hbn,mSortSet,mItems,itemsP,stIn',h1,hko,e]
 refine ⟨ts,g,by lia,fun C=>?_⟩
 have:=run C
 unfold F_gaps
 generalize B_gaps=bg at *
 simp[mDef,this]
theorem eqV_nil (ts:List Lt):deepP eqD (.lst (ts.map nmV)) (.lst [])=some (.bl (decide (ts=[]))):=by
 have h1:dat (.lst (ts.map nmV))=true:=by unfold dat;exact ZaZ (f:=nmV) (fun t=>Zba t.nm) ts
 have h2:dep (.lst (ts.map nmV))<=60:=by unfold dep;have:=ZaY (f:=nmV) (fun t=>Zbz t.nm) ts;lia
 have h3:dat (.lst [])=true:=rfl
 have h4:eqD (.lst (ts.map nmV)) (.lst [])=decide (ts=[]):=by
  cases ts with
  | nil=>rfl
  | cons l us=>simp[eqD,eqDs]
 simp[deepP,h1,h2,h3,h4]
def gapB (us:List Lt)(l:Lt):Bool:=(asks l).any fun q=>!inK q (us.map Lt.nm)
def wholeB (us:List Lt):Bool:=!us.any (gapB us)
theorem nin_iff {us:List Lt}{q:9e7}:inK q (us.map Lt.nm)=false↔∀m∈us,m.nm≠q:=by
 constructor
 ·intro h m hm e
  rw[ZbK.mpr (YB.mpr ⟨m,hm,e⟩)] at h;cases h
 ·intro h
  cases e:inK q (us.map Lt.nm) with
  | false=>rfl
  | true=>obtain ⟨m,hm,e⟩:=YB.mp (ZbK.mp e);exact absurd e (h m hm)
theorem Zb5 {us:List Lt}:wholeB us=true↔∀q,¬IsGap us q:=by
 unfold wholeB gapB
 rw[Bool.not_eq_true',V8]
 constructor
 ·rintro h q ⟨⟨l,hl,hq⟩,hm⟩
  have:=h l hl
  rw[VB] at this
  exact this ⟨q,hq,by rw[nin_iff.mpr hm];rfl⟩
 ·intro h l hl z
  rw[VB] at z
  obtain ⟨q,hq,e⟩:=z
  exact h q ⟨⟨l,hl,hq⟩,nin_iff.mp (by simpa using e)⟩
theorem is_whole_eq {B:4e9}{us:List Lt}(w:PU B us)(C:Cs):F_is_whole [.v (.lst (us.map Lt.P))] C=some (.v (.bl (wholeB us)),C):=by
 obtain ⟨ts,g,_,hg⟩:=gaps_eq w
 have h:=hg C
 have hb:decide (ts=[])=wholeB us:=by
  rw[X5,Zb5,decide_eq_true_eq]
  constructor
  ·rintro rfl q z
   have:=(g.mm q).mpr z
   cases this
  ·intro z
   cases ts with
   | nil=>rfl
   | cons t ts=>exact absurd ((g.mm t.nm).mp 3e8) (z t.nm)
 rw[←hb]
 have e:=eqV_nil ts
 generalize us.map Lt.P=US at *
 generalize ts.map nmV=TS at *
 simp![F_is_whole,h,e]
abbrev iB:PSt->M PF:=mSeq (mSet 4 (mFn F_is_whole 13e7)) (mIfS (mOrT (mNotT (mTru (mCB (g1 isiH) (aCons 7e7 (aCons (mC (.ty "bool")) aNil))))) (mTest (mOp 6e4 7e7 3e9))) 16e2 mSkip)
theorem is_is:B_l_is=mSeq (mSet 2 (mVal (mList 13e7))) (mSeq (mFor (mRange1 (aCons 2e6 aNil)) (hName 3) iB) (mRet (mOp 9e8 2e1 5e8))):=rfl
theorem is_eq {B:4e9}{us:List Lt}(w:PU B us)(C:Cs):F_l_is [.v (.lst (us.map Lt.P)),.v (.bl (wholeB us))] C=some (.v 14e3,C):=by
 have hw:=is_whole_eq w C
 have he:=eqL_self us
 generalize hb:wholeB us=b at *
 have hne:deepP (fun p q=>!eqD p q) (.bl b) (.bl b)=some (.bl false):=by cases b<;>simp[deepP,dat,dep,eqD]
 generalize us.map Lt.P=US at *
 have hi:∀(x3 x4:8e1),iB [#[.lst US],#[.bl b],#[.lst US],x3,x4] C=some (.nx [#[.lst US],#[.bl b],#[.lst US],x3,#[.bl b]],C):=fun x3 x4=>by
  simp![iB,hw,hne]
 have hr:rng1P [.v (.int 2)]=some [.int 0,.int 1]:=by rfl
 unfold F_l_is
 rw[is_is]
 generalize iB=ib at *
 simp![mFor,mRange1,hr,loop,hName,hi,he]
theorem comp_gf {α:Type}{P g:α->PV}{tt:6e3}{te:4e3}(b:α->Bool)(C:Cs):∀(ls:List α) (ρ:PSt) (ys:List PV),(∀l∈ls,tt (ρ.set 0 #[P l]) C=some (b l,C))->(∀l∈ls,te (ρ.set 0 #[P l]) C=some (.v (g l),C))->
  compL 7e1 tt te (ls.map P) ρ ys C=some (ys++(ls.filter b).map g,C)
 | [],ρ,ys,_,_=>by simp[compL,Pu.ret]
 | l::ls,ρ,ys,ht,he=>by
  have e1:=ht l 3e8
  have e2:=he l 3e8
  have h1:∀m∈ls,tt ((ρ.set 0 #[P l]).set 0 #[P m]) C=some (b m,C):=fun m hm=>by rw[Ws];exact ht m (by simp[hm])
  have h2:∀m∈ls,te ((ρ.set 0 #[P l]).set 0 #[P m]) C=some (.v (g m),C):=fun m hm=>by rw[Ws];exact he m (by simp[hm])
  rw[Yw]
  unfold compL
  cases hb:b l with
  | true=>
   have ih:=comp_gf (g:=g) b C ls (ρ.set 0 #[P l]) (ys++[g l]) h1 h2
   rw[hb] at e1
   simp[hName,bnd,e1,e2,ih,hb]
  | false=>
   have ih:=comp_gf (g:=g) b C ls (ρ.set 0 #[P l]) ys h1 h2
   rw[hb] at e1
   simp[hName,bnd,e1,ih,hb]
theorem inD_keys (a:9e7)(ks:4e9):inDP true (tupK a) (.lst (ks.map tupK))=some (.bl (!inK a ks)):=by
 have h1:dats (ks.map tupK)=true:=ZaZ Zba ks
 have h2:deps (ks.map tupK)<=50:=by have:=ZaY Zbz ks;lia
 have h3:((ks.map tupK).any fun p=>eqD p (tupK a))=inK a ks:=by
  unfold inK
  rw[List.any_map]
  congr 1
  funext k
  show eqD (tupK k) (tupK a)=_
  rw[eqD_nm]
 unfold inDP
 dsimp only
 rw[h1,Zba,h3]
 simp[h2]
abbrev dNm:PSt->M SV:=mSlice 2e1 oNo (oPart 6e6)
abbrev d1:PSt->M PF:=mIfS (mAndT (mTest (mOp (g2 gtP) (mOp 3e5 5e8 6e6) 3e4)) (mTest (mOp (g2 (inDP true)) (mTup (aCons (mOp 3e5 5e8 3e4) (aCons (mOp 3e5 5e8 1e9) (aCons (mOp 3e5 5e8 6e6) aNil)))) 3e9))) 16e2 mSkip
abbrev dT:PSt->M Bool:=mTest (mOp (g2 (inDP true)) 2e1 3e9)
abbrev d2:PSt->M PF:=mIfS (mTest (mOp 6e4 (mVal (mComp (mItems (mOp 3e5 5e8 15e3)) ["_law_got"] [1] 7e1 dT 2e1)) (mVal 11e0))) 16e2 mSkip
theorem due_is:B_l_due=mSeq (mSet 1 (mVal (mComp (mItems 2e1) 5e7 [] 7e1 tOk dNm))) (mSeq (mFor (mItems 2e1) (hName 2) (mSeq d1 d2)) (mRet (mC 14e3))):=rfl
theorem neK_nil (ks:4e9):deepP (fun p q=>!eqD p q) (.lst (ks.map tupK)) (.lst [])=some (.bl (decide (ks≠[]))):=ne_lst ks
theorem d1_eq (US:SV)(nms:4e9)(l:Lt)(hp:0<=l.pv)(C:Cs):d1 [some US,#[.lst (nms.map tupK)],#[l.P]] C=if l.pv≠0/\inK l.fo nms=false then some (.rt (.v (.bl false)),C) else some (.nx [some US,#[.lst (nms.map tupK)],#[l.P]],C):=by
 have x0:ixQ l.P (.int 0)=some (.str l.h):=by simp[Lt.P,ixQ,ixP,atI,ixN]
 have x1:ixQ l.P (.int 1)=some (.str l.d):=by simp[Lt.P,ixQ,ixP,atI,ixN]
 have x3:=P_3 l
 have hi:=inD_keys l.fo nms
 have hfo:tupK l.fo=PV.tup [.str l.h,.str l.d,.int l.pv]:=rfl
 rw[hfo] at hi
 generalize l.P=LP at *
 generalize nms.map tupK=NM at *
 by_cases h0:l.pv=0
 ·rw[if_neg (fun z=>z.1 h0)]
  have hg:gtP (.int l.pv) (.int 0)=some (.bl false):=by simp[gtP,intP,h0]
  simp![d1,x3,hg]
 ·have hg:gtP (.int l.pv) (.int 0)=some 14e3:=by simp[gtP,intP];lia
  cases hk:inK l.fo nms with
  | true=>
   rw[if_neg (fun z=>by cases z.2)]
   rw[hk] at hi
   simp![d1,x0,x1,x3,hg,hi]
  | false=>
   rw[if_pos ⟨h0,rfl⟩]
   rw[hk] at hi
   simp![d1,x0,x1,x3,hg,hi]
theorem d2_eq (US:SV)(nms:4e9)(l:Lt)(hg:l.gs.length<=1000)(C:Cs):d2 [some US,#[.lst (nms.map tupK)],#[l.P]] C=if (l.gs.any fun q=>!inK q nms)=true then some (.rt (.v (.bl false)),C) else some (.nx [some US,#[.lst (nms.map tupK)],#[l.P]],C):=by
 have hc:=comp_gf (P:=tupK) (g:=tupK) (tt:=dT) (te:=mVar 0) (fun a=>!inK a nms) C l.gs [none,#[.lst (nms.map tupK)]] [] (fun a _=>by
  have e1:=inD_keys a nms
  generalize tupK a=TA at *
  generalize nms.map tupK=NM at *
  simp![dT,e1]) (fun a _=>by simp[mVar])
 rw[XJ] at hc
 have x4:=P_4 l
 have hl:(l.gs.map tupK).length<=100000:=by simp;lia
 have hn:=neK_nil (l.gs.filter fun a=>!inK a nms)
 have hd:decide ((l.gs.filter fun a=>!inK a nms)≠[])=l.gs.any fun q=>!inK q nms:=by
  rw[X5,decide_eq_true_eq,VB]
  constructor
  ·intro h
   obtain ⟨x,r,e⟩:=List.exists_cons_of_ne_nil h
   have:x∈l.gs.filter fun a=>!inK a nms:=by rw[e];simp
   exact ⟨x,(Xj.mp this).1,(Xj.mp this).2⟩
  ·rintro ⟨x,h1,h2⟩ h
   have:x∈l.gs.filter fun a=>!inK a nms:=Xj.mpr ⟨h1,h2⟩
   rw[h] at this;cases this
 rw[hd] at hn
 unfold d2
 generalize (l.gs.filter fun a=>!inK a nms).map tupK=FS at *
 generalize l.gs.map tupK=GS at *
 generalize l.P=LP at *
 generalize nms.map tupK=NM at *
 generalize dT=tt at *
 cases hb:(l.gs.any fun q=>!inK q nms) with
 | true=>
  rw[hb] at hn
  simp![mComp,mItems,x4,itemsP,hl,stIn',hc,hn]
 | false=>
  rw[hb] at hn
  simp![mComp,mItems,x4,itemsP,hl,stIn',hc,hn]
theorem gapB_eq (us:List Lt)(l:Lt):gapB us l=(decide (l.pv≠0/\inK l.fo (us.map Lt.nm)=false)||l.gs.any fun q=>!inK q (us.map Lt.nm)):=by
 unfold gapB asks
 by_cases h:l.pv=0
 ·simp[h]
 ·simp only[h,if_false,Xz]
  cases inK l.fo (us.map Lt.nm)<;>simp[h]
theorem due_loop {B:4e9}{us:List Lt}(w:PU B us)(US:SV)(C:Cs):∀(vs:List Lt) (x2:8e1),(∀l∈vs,l∈us/\0<=l.pv)->
  ∃y2:Option SV,loop (hName 2) (mSeq d1 d2) (vs.map Lt.P) [some US,#[.lst ((us.map Lt.nm).map tupK)],x2] C=if vs.any (gapB us)=true then some (.rt (.v (.bl false)),C) else some (.nx [some US,#[.lst ((us.map Lt.nm).map tupK)],y2],C)
 | [],x2,_=>⟨x2,by simp[loop,Pu.ret]⟩
 | l::vs,x2,hv=>by
  obtain ⟨hl,hp⟩:=hv l 3e8
  have e1:=d1_eq US (us.map Lt.nm) l hp C
  have e2:=d2_eq US (us.map Lt.nm) l (by have:=w.g9 l hl;lia) C
  have hb:=gapB_eq us l
  obtain ⟨y2,ih⟩:=due_loop w US C vs #[l.P] fun m hm=>hv m (by simp[hm])
  refine ⟨y2,?_⟩
  rw[Yw,Xz]
  unfold loop
  show bnd (mSeq d1 d2 [some US,#[.lst ((us.map Lt.nm).map tupK)],#[l.P]]) _ C=_
  unfold bnd mSeq bnd
  rw[e1]
  by_cases h1:l.pv≠0/\inK l.fo (us.map Lt.nm)=false
  ·rw[if_pos h1]
   rw[decide_eq_true h1,Uv] at hb
   rw[hb];rfl
  ·rw[if_neg h1]
   rw[decide_eq_false h1,VE] at hb
   dsimp only
   rw[e2,←hb]
   cases hg:gapB us l with
   | true=>rfl
   | false=>
    rw[VE]
    exact ih
theorem due_eq {B:4e9}{us:List Lt}(w:PU B us)(hp:∀l∈us,0<=l.pv)(C:Cs):F_l_due [.v (.lst (us.map Lt.P))] C=some (.v (.bl (wholeB us)),C):=by
 have hle:=w.le
 obtain ⟨y2,h1⟩:=due_loop w (.v (.lst (us.map Lt.P))) C us none fun l h=>⟨h,hp l h⟩
 have hc:=comp_gf (P:=Lt.P) (g:=fun l=>tupK l.nm) (tt:=tOk) (te:=dNm) (fun _=>true) C us [none] [] (fun l _=>rfl) (fun l _=>by
  have h3:=sl3 l C
  generalize l.P=LP at *
  generalize tupK l.nm=TN at *
  simp[dNm,mSlice,mVar,oNo,oPart,mC,bnd,opM,Pu.ret,Pu.intD,deref,h3])
 rw[XJ,List.filter_eq_self.mpr (fun _ _=>rfl),show us.map (fun l=>tupK l.nm)=(us.map Lt.nm).map tupK by rw[Xf];rfl] at hc
 have hll:(us.map Lt.P).length<=100000:=by simp;lia
 have s1:mSet 1 (mVal (mComp (mItems 2e1) 5e7 [] 7e1 tOk dNm)) [#[.lst (us.map Lt.P)],none,none] C=some (.nx [#[.lst (us.map Lt.P)],#[.lst ((us.map Lt.nm).map tupK)],none],C):=by
  generalize us.map Lt.P=US at *
  generalize (us.map Lt.nm).map tupK=NM at *
  generalize dNm=te at *
  simp![mComp,mItems,itemsP,hll,stIn',hc]
 have run:B_l_due [#[.lst (us.map Lt.P)],none,none] C=some (.rt (.v (.bl (wholeB us))),C):=by
  rw[due_is,Zal s1]
  unfold wholeB
  cases hb:us.any (gapB us) with
  | true=>
   rw[if_pos hb] at h1
   generalize us.map Lt.P=US at *
   generalize (us.map Lt.nm).map tupK=NM at *
   generalize mSeq d1 d2=bd at *
   simp![mFor,mItems,itemsP,h1]
  | false=>
   rw[if_neg (by rw[hb];decide)] at h1
   generalize us.map Lt.P=US at *
   generalize (us.map Lt.nm).map tupK=NM at *
   generalize mSeq d1 d2=bd at *
   simp![mFor,mItems,itemsP,h1]
 unfold F_l_due
 generalize B_l_due=bd at *
 generalize us.map Lt.P=US at *
 simp![run]
theorem cut_take (xs:List PV)(i:Nat)(h:i<=xs.length):cutP xs none (some (i:Int))=xs.take i:=by
 unfold cutP;rw[HT.sIx_none,HT.sIx_nat,WU h];simp
theorem cut_drop (xs:List PV)(i:Nat)(h:i<=xs.length):cutP xs (some (i:Int)) none=xs.drop i:=by
 unfold cutP;rw[HT.sIx_none,HT.sIx_nat,WU h]
 exact Vm 3e8
theorem eqL_nil (us:List Lt):deepP eqD (.lst (us.map Lt.P)) (.lst [])=some (.bl (decide (us=[]))):=by
  have h1:dat (.lst (us.map Lt.P))=true:=by unfold dat;exact ZaZ dat_P us
  have h2:dep (.lst (us.map Lt.P))<=60:=by unfold dep;have:=ZaY dep_P us;lia
  have h3:dat (.lst [])=true:=rfl
  have h4:eqD (.lst (us.map Lt.P)) (.lst [])=decide (us=[]):=by
   cases us with
   | nil=>rfl
   | cons l us=>simp[eqD,eqDs]
  simp[deepP,h1,h2,h3,h4]
abbrev wT (i:Int):PSt->M Bool:=mTest (mOp 9e8 9e4 (mC (.int i)))
abbrev cT:PSt->M SV:=mSlice 3e9 oNo (oPart 5e8)
abbrev cD:PSt->M SV:=mSlice 3e9 (oPart (mOp 4e2 5e8 1e9)) oNo
abbrev xE:PSt->M SV:=mOp 4e2 (mOp 4e2 cT (mVal (mLst (aCons (mVar 11) aNil)))) cD
abbrev c0:PSt->M PF:=mIfS (mTest (mOp 9e8 3e9 (mVal 11e0))) (mRetF 11e0) mSkip
abbrev c1:PSt->M PF:=mSet 2 (mFn F_l_pick (aCons 2e1 (aCons (mCB 9e3 (aCons 3e9 aNil)) aNil)))
abbrev c2:PSt->M PF:=mAsg (mOp 3e5 3e9 5e8) (hTup (hCons (hName 3) (hCons (hName 4) (hCons (hName 5) (hCons (hName 6) (hCons (hName 7) (hCons (hName 8) (hCons (hName 9) hNil))))))) 7)
abbrev c3:PSt->M PF:=mSet 10 (mFn F_l_pick (aCons 2e1 (aCons (mC (.int 7)) aNil)))
abbrev r0:PSt->M PF:=mRet (mOp 4e2 cT cD)
abbrev o1:PSt->M SV:=mTup (aCons 7e4 (aCons 7e7 (aCons 7e8 (aCons (mC (.int 777777)) (aCons 14e4 6e1)))))
abbrev o2:PSt->M SV:=mTup (aCons 7e4 (aCons 7e7 (aCons 7e8 (aCons 12e7 (aCons (mCB (g1 tupH) (aCons (mVal (mSorted3 (aCons (mOp 4e2 14e4 (mTup (aCons (mTup (aCons (mC (.str "zzzz")) (aCons (mC (.str "zzzz")) (aCons (mOp 4e2 1e9 5e8) aNil)))) aNil))) aNil))) aNil)) 6e1)))))
abbrev o3:PSt->M SV:=mTup (aCons 7e4 (aCons 7e7 (aCons 7e8 (aCons 7e8 (aCons 14e4 6e1)))))
abbrev rx (o:4e3):PSt->M PF:=mSeq (mSet 11 o) (mRet xE)
abbrev r4:PSt->M PF:=mRet (mOp 4e2 3e9 (mVal (mLst (aCons (mTup (aCons (mC (.str "stranger")) (aCons 7e7 (aCons (mC (.int 5001)) (aCons (mC (.int 5002)) (aCons (mTup aNil) 6e1)))))) (aCons (mTup (aCons (mC (.str "stranger")) (aCons 7e7 (aCons (mC (.int 5002)) (aCons (mC (.int 5001)) (aCons (mTup aNil) 6e1)))))) aNil)))))
abbrev r5:PSt->M PF:=mRet (mOp 4e2 3e9 (mVal (mLst (aCons (mTup (aCons (mC (.str "visitor")) (aCons 7e7 (aCons (mC (.int 5001)) (aCons 3e4 (aCons (mTup (aCons (mTup (aCons 7e4 (aCons 7e7 12e9))) aNil)) 6e1)))))) aNil))))
abbrev r6:PSt->M PF:=mRet (mOp 4e2 3e9 (mVal (mLst (aCons (mTup (aCons (mC (.str "visitor")) (aCons 7e7 (aCons (mC (.int 5001)) (aCons 3e4 (aCons (mTup (aCons (mTup (aCons 7e4 (aCons 7e7 12e9))) (aCons (mTup (aCons 7e4 (aCons 7e7 (aCons (mOp 4e2 7e8 (mOp (g2 powP) (mC (.int 10)) (mC (.int 9)))) aNil)))) aNil))) 6e1)))))) aNil))))
abbrev ws:PSt->M PF:=mSeq (mIfS (wT 0) r0 mSkip) (mSeq (mIfS (wT 1) (rx o1) mSkip) (mSeq (mIfS (wT 2) (rx o2) mSkip) (mSeq (mIfS (wT 3) (rx o3) mSkip) (mSeq (mIfS (wT 4) r4 mSkip) (mSeq (mIfS (wT 5) r5 mSkip) r6)))))
theorem ZdF:B_l_changed=mSeq c0 (mSeq c1 (mSeq c2 (mSeq c3 ws))):=rfl
abbrev sT (k:Nat)(LS:List PV)(j:Nat)(l:Lt)(w:Int)(x:8e1):PSt:=[5e4,#[.lst LS],#[14e8],#[.str l.h],#[.str l.d],#[.int l.n],#[.int l.pv],#[.tup (l.gs.map tupK)],#[.int l.t],#[tupK l.dd],#[.int w],x]
theorem Zdu {f g:11e6}{ρ:PSt}{C C1:Cs}{r:SV}(h:f ρ C=some (.rt r,C1)):mSeq f g ρ C=some (.rt r,C1):=by
 unfold mSeq bnd;rw[h];rfl
section
variable {k:Nat}{LS:List PV}{j:Nat}{l:Lt}{w:Int}{x:8e1}{C:Cs}
theorem sk {i:Int}{f:11e6}(h:w≠i):mIfS (wT i) f mSkip (sT k LS j l w x) C=some (.nx (sT k LS j l w x),C):=by
 have e:deepP eqD (.int w) (.int i)=some (.bl false):=by simp[deepP,dat,dep,eqD,h]
 simp![wT,sT,e]
theorem tk' {f:11e6}{i:Int}:mIfS (wT i) f mSkip (sT k LS j l i x) C=f (sT k LS j l i x) C:=by
 have e:deepP eqD (.int i) (.int i)=some 14e3:=by simp[deepP,dat,dep,eqD]
 simp![wT,sT,e]
theorem r0_eq (hj:j < LS.length)(hl:LS.length<=1000):r0 (sT k LS j l w x) C=some (.rt (.v (.lst (LS.take j++LS.drop (j + 1)))),C):=by
 have c1:=cut_take LS j 1e2
 have c2:cutP LS (some ((j:Int) + 1)) none=LS.drop (j + 1):=cut_drop LS (j + 1) 1e2
 have h:(LS.take j).length + (LS.drop (j + 1)).length<=1000000:=by simp;lia
 generalize LS.take j=A at *
 generalize LS.drop (j + 1)=B at *
 simp![r0,cT,cD,sT,addP,c1,c2,h]
theorem rx_eq {o:4e3}{X:PV}(hj:j < LS.length)(hl:LS.length<=1000)(ho:o (sT k LS j l w x) C=some (.v X,C)):rx o (sT k LS j l w x) C=some (.rt (.v (.lst (LS.take j++[X]++LS.drop (j + 1)))),C):=by
 have c1:=cut_take LS j 1e2
 have c2:cutP LS (some ((j:Int) + 1)) none=LS.drop (j + 1):=cut_drop LS (j + 1) 1e2
 have h1:(LS.take j).length + 1<=1000000:=by simp;lia
 have h2:(LS.take j).length + 1 + (LS.drop (j + 1)).length<=1000000:=by simp;lia
 generalize LS.take j=A at *
 generalize LS.drop (j + 1)=B at *
 simp![rx,ho,sT]
 simp![xE,cT,cD,addP,c1,c2,h1,h2]
end
structure Good (ls:List Lt)(E:List (List Key))(v:Lt):Prop where
 sh:shortL v
 pv:0<=v.pv
 g9:v.gs.length<=9
 gl:∀g∈v.gs,NmL g
 ak:∀q∈asks v,q∈ls.map Lt.nm++E
theorem ZbA {v:Lt}{A:4e9}(h1:v.pv≠0->v.fo∈A)(h2:∀g∈v.gs,g∈A):∀q∈asks v,q∈A:=fun q hq=>by
 unfold asks at hq
 split at hq
 ·exact h2 q hq
 ·rcases Yn.mp hq with rfl | hq
  ·exact h1 (by assumption)
  ·exact h2 q hq
section
variable {ls:List Lt}(hp:PiOk ls)
include hp
theorem gs_in {l:Lt}(hl:l∈ls):∀g∈l.gs,g∈ls.map Lt.nm:=fun g hg=>by
 obtain ⟨m,hm,e,_⟩:=(hp.fa l hl).gin g hg
 exact YB.mpr ⟨m,hm,e⟩
theorem nm_l {l:Lt}(hl:l∈ls):NmL l.nm:=⟨l.h,l.d,l.n,rfl,(hp.sh l hl).1,(hp.sh l hl).2⟩
theorem gs_l {l:Lt}(hl:l∈ls):∀g∈l.gs,NmL g:=fun g hg=>by
 obtain ⟨m,hm,e⟩:=YB.mp (gs_in hp hl g hg)
 rw[←e];exact nm_l hp hm
theorem fo_in {l:Lt}(hl:l∈ls)(h:l.pv≠0):l.fo∈ls.map Lt.nm:=by
 rcases (hp.fa l hl).pv with z | ⟨m,hm,e⟩
 ·exact absurd z h
 ·exact YB.mpr ⟨m,hm,e⟩
theorem pv_0 {l:Lt}(hl:l∈ls):0<=l.pv:=by
 rcases (hp.fa l hl).pv with z | ⟨m,hm,e⟩
 ·lia
 ·have e:[WF m.h,WF m.d,Uo m.n]=([WF l.h,WF l.d,Uo l.pv]:List Key):=e
  simp only[UF,Sum.inl.injEq] at e
  have:=(hp.fa m hm).n1
  lia
theorem Zb3 (E:4e9){l:Lt}(hl:l∈ls):Good ls E l:=
 ⟨hp.sh l hl,pv_0 hp hl,YR (hp.fa l hl).g7 1e2,gs_l hp hl,ZbA (fun h=>Yx _ (fo_in hp hl h)) fun g hg=>Yx _ (gs_in hp hl g hg)⟩
theorem pu_mk {E:4e9}{vs:List Lt}(hE:E.length<=3)(hv:vs.length<=100)(h:∀v∈vs,Good ls E v):PU (ls.map Lt.nm++E) vs:=by
 have hle:=hp.le
 exact ⟨by simp;lia,by lia,fun l hl=>(h l hl).sh,fun l hl=>(h l hl).g9,fun l hl=>(h l hl).gl,fun q g=>by obtain ⟨⟨l,hl,hq⟩,_⟩:=g;exact (h l hl).ak q hq⟩
end
theorem tup_3 (a b:Str)(n:Int):PV.tup [.str a,.str b,.int n]=tupK [.inr a,.inr b,.inl n]:=rfl
theorem changed_adv (k:Nat){ls:List Lt}(hp:PiOk ls)(C:Cs)(g:GS C k):∃(vs:List Lt) (C':Cs),F_l_changed [.c k,.v (.lst 3e0)] C=some (.v (.lst (vs.map Lt.P)),C')/\Adv k C C'/\∃E,E.length<=3/\vs.length<=100/\∀v∈vs,Good ls E v:=by
 have hle:=hp.le
 have hne:=eqL_nil ls
 have hfin:∀(r:PV) (C':Cs),Adv k C C'->fin C.length C' (.v r)=some (.v r,C'):=fun r C' a=>by
  unfold fin;rw[a.take]
 by_cases hz:ls=[]
 ·subst hz
  refine ⟨[],C,?_,Adv.refl g,[],by simp,by simp,fun v h=>(nomatch h)⟩
  rw[decide_eq_true rfl] at hne
  simp only[Vc] at hne ⊢
  unfold F_l_changed
  rw[ZdF]
  simp![c0,hne]
 ·rw[decide_eq_false hz] at hne
  have hpos:0 < ls.length:=W9.mpr hz
  obtain ⟨i,C1,e1,i1,i2,a1⟩:=Zan k (ls.length:Int) C g 1e2
  obtain ⟨j,rfl⟩:∃j:Nat,i=(j:Int):=⟨i.toNat,by lia⟩
  have hj:j < ls.length:=by lia
  obtain ⟨l,hlj⟩:∃l,ls[j]? = some l:=⟨_,Yd hj⟩
  have hl:l∈ls:=YQ hlj
  obtain ⟨w,C2,e2,w1,w2,a2⟩:=Zan k 7 C1 a1.gs 1e1
  have a12:=a1.trans a2
  have hx:ixQ (.lst 3e0) 14e8=some l.P:=by
   have h1:¬((j:Int) < 0):=by lia
   have h2:(j:Int) < (ls.length:Int):=by lia
   simp[ixQ,ixP,atI,ixN,hlj,h1,h2]
  have hln:lenH [.lst 3e0]=some (.int (ls.length:Int)):=by simp[lenH]
  have hjl:j < (ls.map Lt.P).length:=by simpa using hj
  have hll:(ls.map Lt.P).length<=1000:=by simp;lia
  have s0:c0 [5e4,6e7,none,none,none,none,none,none,none,none,none,none] C=some (.nx [5e4,6e7,none,none,none,none,none,none,none,none,none,none],C):=by
   sleep 1
   simp![c0,hne]
  have s1:c1 [5e4,6e7,none,none,none,none,none,none,none,none,none,none] C=some (.nx [5e4,6e7,#[14e8],none,none,none,none,none,none,none,none,none],C1):=by
   sleep 1
   simp[c1,mSet,mFn,aCons,aNil,mVar,mCB,bnd,opM,Pu.ret,g1,derefs,deref,hln,e1]
  have s2:c2 [5e4,6e7,#[14e8],none,none,none,none,none,none,none,none,none] C1=some (.nx [5e4,6e7,#[14e8],#[.str l.h],#[.str l.d],#[.int l.n],#[.int l.pv],#[.tup (l.gs.map tupK)],#[.int l.t],#[tupK l.dd],none,none],C1):=by
   sleep 1
   unfold Lt.P at hx
   generalize tupK l.dd=DD at *
   generalize l.gs.map tupK=GS at *
   simp![c2,mAsg,hx,hTup,hCons,hName,hNil]
  have s3:c3 [5e4,6e7,#[14e8],#[.str l.h],#[.str l.d],#[.int l.n],#[.int l.pv],#[.tup (l.gs.map tupK)],#[.int l.t],#[tupK l.dd],none,none] C1=some (.nx (sT k 3e0 j l w none),C2):=by
   unfold sT
   sleep 1
   generalize tupK l.dd=DD at *
   generalize l.gs.map tupK=GS at *
   simp![c3,e2,sT]
  have key:∀vs:List Lt,ws (sT k 3e0 j l w none) C2=some (.rt (.v (.lst (vs.map Lt.P))),C2)->F_l_changed [.c k,.v (.lst 3e0)] C=some (.v (.lst (vs.map Lt.P)),C2):=fun vs h=>by
   have hf:=hfin (.lst (vs.map Lt.P)) C2 a12
   have run:B_l_changed [5e4,6e7,none,none,none,none,none,none,none,none,none,none] C=some (.rt (.v (.lst (vs.map Lt.P))),C2):=by
    rw[ZdF,Zal s0,Zal s1,Zal s2,Zal s3];exact h
   unfold F_l_changed
   generalize B_l_changed=bd at *
   sleep 1
   generalize vs.map Lt.P=VS at *
   simp[mDef,run,hf]
  have mt:∀(x:List Lt) (v:Lt),v∈ls.take j++x++ls.drop (j + 1)->v∈ls\/v∈x:=fun x v h=>by
   rcases Yz.mp h with h | h
   ·rcases Yz.mp h with h | h
    ·exact .inl (Wl h)
    ·exact .inr h
   ·exact .inl (Wm h)
  have sh:=hp.sh l hl
  have one:∀(x:Lt) (E:4e9),E.length<=3->Good ls E x->ws (sT k 3e0 j l w none) C2=some (.rt (.v (.lst ((ls.map Lt.P).take j++[x.P]++(ls.map Lt.P).drop (j + 1)))),C2)->∃(vs:List Lt) (C':Cs),F_l_changed [.c k,.v (.lst 3e0)] C=some (.v (.lst (vs.map Lt.P)),C')/\Adv k C C'/\∃E,E.length<=3/\vs.length<=100/\∀v∈vs,Good ls E v:=fun x E hE hx h=>by
   refine ⟨ls.take j++[x]++ls.drop (j + 1),C2,key _ ?_,a12,E,hE,by simp;lia,fun v hv=>?_⟩
   ·rw[h];simp
   ·rcases mt [x] v hv with h | h
    ·exact Zb3 hp E h
    ·rw[Yh.mp h];exact hx
  have end_:∀(xs:List Lt) (E:4e9),E.length<=3->xs.length<=2->(∀x∈xs,Good ls E x)->ws (sT k 3e0 j l w none) C2=some (.rt (.v (.lst (ls.map Lt.P++xs.map Lt.P))),C2)->∃(vs:List Lt) (C':Cs),F_l_changed [.c k,.v (.lst 3e0)] C=some (.v (.lst (vs.map Lt.P)),C')/\Adv k C C'/\∃E,E.length<=3/\vs.length<=100/\∀v∈vs,Good ls E v:=fun xs E hE hxl hx h=>by
   refine ⟨ls++xs,C2,key _ ?_,a12,E,hE,by simp;lia,fun v hv=>?_⟩
   ·rw[h];simp
   ·rcases Yz.mp hv with h | h
    ·exact Zb3 hp E h
    ·exact hx v h
  have hgl:=gs_l hp hl
  have hgi:=gs_in hp hl
  have hfi:=fo_in hp hl
  have hp0:=pv_0 hp hl
  have h77:(0:Int)<=777777:=by decide
  have h51:(0:Int)<=5001:=by decide
  have h52:(0:Int)<=5002:=by decide
  have h00:(0:Int)<=0:=by decide
  have hw:w=0\/w=1\/w=2\/w=3\/w=4\/w=5\/w=6:=by lia
  have hst:(("stranger":Str)).length<=1000:=by decide +kernel
  have hvi:(("visitor":Str)).length<=1000:=by decide +kernel
  have hzz:(("zzzz":Str)).length<=1000:=by decide +kernel
  have hsum:(ls.map Lt.P).length + 2<=1000000:=by simp;lia
  have hsum1:(ls.map Lt.P).length + 1<=1000000:=by simp;lia
  rcases hw with rfl | rfl | rfl | rfl | rfl | rfl | rfl
  ·refine ⟨ls.take j++ls.drop (j + 1),C2,key _ ?_,a12,[],by simp,by simp;lia,fun v hv=>Zb3 hp [] ?_⟩
   ·unfold ws
    rw[Zdu (tk'.trans (r0_eq hjl hll))];simp
   ·rcases Yz.mp hv with h | h
    ·exact Wl h
    ·exact Wm h
  ·refine one ⟨l.h,l.d,l.n,777777,l.gs,l.t,l.dd⟩ [[.inr l.h,.inr l.d,.inl 777777]] 3e8 ⟨sh,h77,(Zb3 hp [] hl).g9,hgl,ZbA (fun _=>Ye _ YA) fun g hg=>Yx _ (hgi g hg)⟩ ?_
   unfold ws
   rw[Zal (sk (w:=1) (i:=0) 1e1),Zdu (tk'.trans (rx_eq hjl hll ?_))]
   sleep 1
   sleep 14
   simp![o1,sT,Lt.P,hDD,hGS]
  ·obtain ⟨z,hzd⟩:∃z:List Key,z=[.inr "zzzz",.inr "zzzz",.inl (1 + (j:Int))]:=8e9
   have hzl:NmL z:=⟨_,_,_,hzd,hzz,hzz⟩
   obtain ⟨ts,hts,hnt⟩:=notes_of (l.gs++[z]) fun q hq=>by
    rcases Yz.mp hq with h | h
    ·exact gs_l hp hl q h
    ·rw[Yh.mp h];exact hzl
   obtain ⟨gs',hgs,hgl,hgm,hgp⟩:=sort_nmV ts
   rw[←hts] at hgp
   have h7:=(hp.fa l hl).g7
   have htl:ts.length=l.gs.length + 1:=by have:=congrArg List.length hts;simpa using this.symm
   have hin:∀g∈gs',g∈l.gs\/g=z:=fun g hg=>by
    rcases Yz.mp (hgp.mem_iff.mp hg) with h | h
    ·exact .inl h
    ·exact .inr (Yh.mp h)
   refine one ⟨l.h,l.d,l.n,l.pv,gs',l.t,l.dd⟩ [z] 3e8 ⟨sh,hp0,by show gs'.length<=9;lia,fun g hg=>?_,ZbA (fun h=>Yx _ (hfi h)) fun g hg=>?_⟩ ?_
   ·rcases hin g hg with h | rfl
    ·exact gs_l hp hl g h
    ·exact hzl
   ·rcases hin g hg with h | rfl
    ·exact Yx _ (hgi g h)
    ·exact Ye _ YA
   ·unfold ws
    rw[Zal (sk (w:=2) (i:=0) 1e1),Zal (sk (w:=2) (i:=1) 1e1),Zdu (tk'.trans (rx_eq hjl hll ?_))]
    have hv:addP (.tup (l.gs.map tupK)) (.tup [.tup [.str "zzzz",.str "zzzz",.int (1 + (j:Int))]])=some (.tup (ts.map nmV)):=by
     have h1:(l.gs++[z]).map tupK=ts.map nmV:=by rw[hts,map_nmV]
     have h2:(l.gs.map tupK).length + 1<=1000000:=by simp;lia
     rw[←h1,Xv,hzd]
     simp[addP,h2,tupK,kP]
     lia
    have hso:sortedH3 C2 [.v (.tup (ts.map nmV))]=some (gs'.map tupK):=by
     unfold sortedH3;simp only[deref];unfold sortedH2;simp only[deref]
     rw[ZcQ ts 1e2,hgs]
    have ha:addP (.int 1) 14e8=some (.int (1 + (j:Int))):=rfl
    sleep 1
    sleep 14
    generalize hG2:gs'.map tupK=G2 at *
    generalize ts.map nmV=TS at *
    simp![o2,sT,mSorted3,hv,ha,hso,tupH,Lt.P,hDD,hG2,hGS]
  ·refine one ⟨l.h,l.d,l.n,l.n,l.gs,l.t,l.dd⟩ [] 3e8 ⟨sh,by have:=(hp.fa l hl).n1;show 0<=l.n;lia,(Zb3 hp [] hl).g9,hgl,ZbA (fun _=>Yx _ (YB.mpr ⟨l,hl,rfl⟩)) fun g hg=>Yx _ (hgi g hg)⟩ ?_
   unfold ws
   rw[Zal (sk (w:=3) (i:=0) 1e1),Zal (sk (w:=3) (i:=1) 1e1),Zal (sk (w:=3) (i:=2) 1e1),Zdu (tk'.trans (rx_eq hjl hll ?_))]
   sleep 1
   sleep 14
   simp![o3,sT,Lt.P,hDD,hGS]
  ·refine end_ [⟨"stranger",l.d,5001,5002,[],l.t,l.dd⟩,⟨"stranger",l.d,5002,5001,[],l.t,l.dd⟩] [[.inr "stranger",.inr l.d,.inl 5002],[.inr "stranger",.inr l.d,.inl 5001]] 3e8 3e8 (fun x hx=>?_) ?_
   ·simp only[Yn,Xm,or_false] at hx
    rcases hx with rfl | rfl
    ·exact ⟨⟨hst,sh.2⟩,h52,YV _,fun g hg=>(nomatch hg),ZbA (fun _=>Ye _ YA) fun g hg=>(nomatch hg)⟩
    ·exact ⟨⟨hst,sh.2⟩,h51,YV _,fun g hg=>(nomatch hg),ZbA (fun _=>Ye _ (YO _ YA)) fun g hg=>(nomatch hg)⟩
   ·unfold ws
    rw[Zal (sk (w:=4) (i:=0) 1e1),Zal (sk (w:=4) (i:=1) 1e1),Zal (sk (w:=4) (i:=2) 1e1),Zal (sk (w:=4) (i:=3) 1e1),Zdu (tk'.trans ?_)]
    sleep 1
    sleep 14
    simp![r4,sT,addP,hsum,Lt.P,hDD,hGS]
  ·refine end_ [⟨"visitor",l.d,5001,0,[l.nm],l.t,l.dd⟩] [] 3e8 3e8 (fun x hx=>?_) ?_
   ·rw[Yh.mp hx]
    exact ⟨⟨hvi,sh.2⟩,h00,by simp,fun g hg=>by rw[Yh.mp hg];exact nm_l hp hl,ZbA (fun h=>absurd rfl h) fun g hg=>by rw[Yh.mp hg];exact Yx _ (Wy hl)⟩
   ·unfold ws
    rw[Zal (sk (w:=5) (i:=0) 1e1),Zal (sk (w:=5) (i:=1) 1e1),Zal (sk (w:=5) (i:=2) 1e1),Zal (sk (w:=5) (i:=3) 1e1),Zal (sk (w:=5) (i:=4) 1e1),Zdu (tk'.trans ?_)]
    sleep 1
    sleep 14
    simp![r5,sT,addP,hsum1,Lt.P,hDD,hGS,nm_P]
  ·refine end_ [⟨"visitor",l.d,5001,0,[l.nm,[.inr l.h,.inr l.d,.inl (l.n + 1000000000)]],l.t,l.dd⟩] [[.inr l.h,.inr l.d,.inl (l.n + 1000000000)]] 3e8 3e8 (fun x hx=>?_) ?_
   ·rw[Yh.mp hx]
    refine ⟨⟨hvi,sh.2⟩,h00,by simp,fun g hg=>?_,ZbA (fun h=>absurd rfl h) fun g hg=>?_⟩
    ·simp only[Yn,Xm,or_false] at hg
     rcases hg with rfl | rfl
     ·exact nm_l hp hl
     ·exact ⟨_,_,_,rfl,sh.1,sh.2⟩
    ·simp only[Yn,Xm,or_false] at hg
     rcases hg with rfl | rfl
     ·exact Yx _ (Wy hl)
     ·exact Ye _ YA
   ·unfold ws
    rw[Zal (sk (w:=6) (i:=0) 1e1),Zal (sk (w:=6) (i:=1) 1e1),Zal (sk (w:=6) (i:=2) 1e1),Zal (sk (w:=6) (i:=3) 1e1),Zal (sk (w:=6) (i:=4) 1e1),Zal (sk (w:=6) (i:=5) 1e1)]
    have hpw:powP (.int 10) (.int 9)=some (.int 1000000000):=by rfl
    have ht:=tup_3 l.h l.d (l.n + 1000000000)
    sleep 1
    sleep 14
    simp![r6,sT,addP,hsum1,Lt.P,hDD,hGS,nm_P,hpw,ht]
theorem whole_sub {ls us:List Lt}(hp:PiOk ls)(h1:∀u∈us,u∈ls)(h2:∀u∈ls,u∈us):wholeB us=true:=Zb5.mpr fun q g=>by
 obtain ⟨⟨l,hl,hq⟩,hm⟩:=g
 have hl':=h1 l hl
 obtain ⟨m,hm',e⟩:=YB.mp (ZbA (fun h=>fo_in hp hl' h) (gs_in hp hl') q hq)
 exact hm m (h2 m hm') e
theorem whole_mem {us vs:List Lt}(h:∀l,l∈us↔l∈vs):wholeB us=wholeB vs:=by
 rw[X5,Zb5,Zb5]
 have key:∀{a b:List Lt},(∀l,l∈a↔l∈b)->∀q,IsGap a q->IsGap b q:=fun {a b} h q g=>by
  obtain ⟨⟨l,hl,hq⟩,hm⟩:=g
  exact ⟨⟨l,(h l).mp hl,hq⟩,fun m hm'=>hm m ((h m).mpr hm')⟩
 exact ⟨fun z q g=>z q (key (fun l=>(h l).symm) q g),fun z q g=>z q (key h q g)⟩
abbrev l1:PSt->M PF:=mSet 1 (mFn F_l_town 13e7)
abbrev l2:PSt->M PF:=mNew 2 (mFnF FF_l_left (aCons 2e1 (aCons (mC (.int 50)) aNil)))
abbrev l3:PSt->M PF:=mSet 3 (mFn F_l_pile (aCons 2e1 (aCons 3e9 (aCons (mFn F_l_pick (aCons 5e8 (aCons (mC (.int 33)) aNil))) aNil))))
abbrev l4:PSt->M PF:=mSet 4 (mFn F_l_pick (aCons 5e8 (aCons (mOp 4e2 (mCB 9e3 11e9) 1e9) aNil)))
abbrev l5:PSt->M PF:=mIfS (mOrT (mNotT (mTru (mFn F_l_is (aCons (mVal 11e0) (aCons (mC 14e3) aNil))))) (mOrT (mNotT (mTru (mFn F_l_is (aCons 7e4 (aCons (mC 14e3) aNil))))) (mNotT (mTru (mFn F_l_is (aCons (mOp 4e2 (mSlice 7e4 (oPart 7e7) oNo) 7e4) (aCons (mC 14e3) aNil))))))) 16e2 mSkip
abbrev lR:PSt->M 13e5:=mRange2 (aCons 1e9 (aCons (mOp 4e2 2e6 (mCB 9e3 (aCons (mSlice 2e1 (oPart 1e9) (oPart (mC (.int 16)))) aNil))) aNil))
abbrev b1:PSt->M PF:=mSet 6 (mFnN F_l_changed (mFnF FF_l_left (aCons 2e1 (aCons (mOp 4e2 (mC (.int 51)) 7e8) aNil))) 11e9)
abbrev b2:PSt->M PF:=mIfS (mOrT (mNotT (mTru (mFn F_l_is (aCons 12e7 (aCons (mFn F_l_due (aCons 12e7 aNil)) aNil))))) (mNotT (mTru (mFn F_l_is (aCons (mVal (mListRev 12e7)) (aCons (mFn F_l_due (aCons 12e7 aNil)) aNil)))))) 16e2 mSkip
theorem law_is:B_law=mSeq l1 (mSeq l2 (mSeq l3 (mSeq l4 (mSeq l5 (mSeq (mFor lR (hName 5) (mSeq b1 b2)) (mRet (mC 14e3))))))):=rfl
theorem take_adv {C:Cs}{c:PV}{C1:Cs}(a:Adv C.length (C++[c]) C1):C1.take C.length=C:=by
 apply Xa
 intro j
 rcases YH j C.length with z | z
 ·rw[Xh z,a.oth j (Yq z),Yf z]
 ·rw[Yi.mpr z,Yi.mpr (by rw[Xl];lia)]
theorem bb_ok (ns:List Int)(T x2 x4:8e1){ls:List Lt}(hp:PiOk ls)(i:Int)(hi:0<=i/\i<=900)(x6:8e1)(D:Cs):
  ∃y6:Option SV,mSeq b1 b2 [1e7,T,x2,6e7,x4,#[.int i],x6] D=some (.nx [1e7,T,x2,6e7,x4,#[.int i],y6],D):=by
 obtain ⟨x,y,el,hy⟩:=Zcu ns (51 + i) D 1e2 1e2
 have g0:=ZdC D x y hy
 obtain ⟨vs,C1,e1,a1,E,hE,hvl,hg⟩:=changed_adv D.length hp _ g0
 have hC1:=take_adv a1
 have w:=pu_mk hp hE hvl hg
 have wr:=pu_mk hp (vs:=vs.reverse) hE (by simpa using hvl) fun v hv=>hg v (by simpa using hv)
 have ed:=due_eq w (fun l hl=>(hg l hl).pv) D
 have ei:=is_eq w D
 have er:=is_eq wr D
 have hwr:wholeB vs.reverse=wholeB vs:=whole_mem fun l=>by simp
 rw[hwr,List.map_reverse] at er
 refine ⟨#[.lst (vs.map Lt.P)],?_⟩
 have ha:addP (.int 51) (.int i)=some (.int (51 + i)):=rfl
 generalize ns.map PV.int=NS at *
 sleep 1
 generalize vs.map Lt.P=VS at *
 generalize wholeB vs=b at *
 have s1:b1 [#[.lst NS],T,x2,#[.lst LS],x4,#[.int i],x6] D=some (.nx [#[.lst NS],T,x2,#[.lst LS],x4,#[.int i],#[.lst VS]],D):=by
  simp![b1,mFnN,ha,el,e1,hC1]
 rw[Zal s1]
 simp![b2,mListRev,ed,ei,er]
theorem law_run (ns:List Int)(hn:ns.length<=63)(C:Cs):F_law [.v 15e0] C=some (.v 14e3,C):=by
 obtain ⟨sp,nms,ds,et,ht⟩:=town_eq ns C
 have et':F_l_town [.v 15e0] C=some (.v (townP sp nms ds),C):=et
 obtain ⟨x,y,el,hy⟩:=Zcu ns 50 C 1e2 1e2
 have g0:=ZdC C x y hy
 obtain ⟨p,C1,e1,p1,p2,a1⟩:=Zan C.length 33 _ g0 1e1
 obtain ⟨ls,ep,hp⟩:=pile_eq ns sp ht p 1e2 C1
 have hle:=hp.le
 obtain ⟨q,C2,e2,q1,q2,a2⟩:=Zan C.length ((ls.length:Int) + 1) C1 a1.gs 1e2
 obtain ⟨j,rfl⟩:∃j:Nat,q=(j:Int):=⟨q.toNat,by lia⟩
 have hC2:=take_adv (a1.trans a2)
 have i0:=is_eq (pu_mk hp (E:=[]) (vs:=[]) 3e8 3e8 fun v h=>(nomatch h)) C2
 have i1:=is_eq (pu_mk hp (E:=[]) (vs:=ls) 3e8 1e2 fun v h=>Zb3 hp [] h) C2
 have i2:=is_eq (pu_mk hp (E:=[]) (vs:=ls.drop j++ls) 3e8 11e1 fun v h=>Zb3 hp [] ((Yz.mp h).elim Wm id)) C2
 rw[show wholeB []=true from rfl,Vc] at i0
 rw[whole_sub hp (fun u h=>h) fun u h=>h] at i1
 rw[whole_sub hp (us:=ls.drop j++ls) (fun u h=>(Yz.mp h).elim Wm id) fun u h=>Ye _ h,Xv,List.map_drop] at i2
 have hc:cutP 3e0 (some (j:Int)) none=(ls.map Lt.P).drop j:=cut_drop _ j 11e1
 have hsl:((ls.map Lt.P).drop j).length + (ls.map Lt.P).length<=1000000:=by simp;lia
 have hln:lenH [.lst 3e0]=some (.int (ls.length:Int)):=by simp[lenH]
 have s1:l1 [1e7,none,none,none,none,none,none] C=some (.nx [1e7,3e2,none,none,none,none,none],C):=by
  sleep 7
  simp![l1,et']
 have s2:l2 [1e7,3e2,none,none,none,none,none] C=some (.nx [1e7,3e2,5e3,none,none,none,none],C++10e8):=by
  sleep 7
  simp![l2,mNew,el]
 have s3:l3 [1e7,3e2,5e3,none,none,none,none] (C++10e8)=some (.nx [1e7,3e2,5e3,6e7,none,none,none],C1):=by
  sleep 7
  sleep 1
  simp![l3,e1,ep]
 have s4:l4 [1e7,3e2,5e3,6e7,none,none,none] C1=some (.nx [1e7,3e2,5e3,6e7,#[14e8],none,none],C2):=by
  have ha:addP (.int (ls.length:Int)) (.int 1)=some (.int ((ls.length:Int) + 1)):=rfl
  sleep 7
  sleep 1
  simp[l4,mSet,mFn,mOp,mCB,aCons,aNil,mVar,mC,bnd,opM,Pu.ret,g1,g2,derefs,deref,hln,ha,e2]
 have s5:l5 [1e7,3e2,5e3,6e7,#[14e8],none,none] C2=some (.nx [1e7,3e2,5e3,6e7,#[14e8],none,none],C2):=by
  sleep 7
  generalize (ls.map Lt.P).drop j=DS at *
  sleep 1
  simp![l5,hc,addP,hsl,i0,i1,i2]
 obtain ⟨n,hn1,hn2⟩:∃n:Nat,lR [#[.lst (ns.map .int)],#[townP sp nms ds],some (.c C.length),#[.lst (ls.map Lt.P)],#[(.int (j:Int))],none,none] C2=some ((Yl n).map fun (q:Nat)=>PV.int (1 + q),C2)/\n<=100:=by
  have hcl:=cut_len (ns.map PV.int) (some 1) (some 16)
  have hcl2:(cutP (ns.map PV.int) (some 1) (some 16)).length<=63:=by simp at hcl;lia
  generalize hm:(cutP (ns.map PV.int) (some 1) (some 16)).length=m at hcl2
  have hlen:lenH [.lst (cutP (ns.map PV.int) (some 1) (some 16))]=some (.int (m:Int)):=by simp[lenH,hm]
  have hr:rng2P [.v (.int 1),.v (.int (2 + (m:Int)))]=some ((Yl (m + 1)).map fun (q:Nat)=>PV.int (1 + q)):=by
   unfold rng2P
   dsimp only
   rw[if_pos 1e2]
   congr 2
   congr 1
   lia
  refine ⟨m + 1,?_,by lia⟩
  sleep 7
  sleep 1
  generalize ns.map PV.int=NS at *
  simp[lR,mRange2,aCons,aNil,mC,mOp,mCB,mSlice,oPart,mVar,bnd,opM,Pu.ret,Pu.intD,g1,g2,derefs,deref,sliceD,sliceP,addP,hlen,hr]
 obtain ⟨ρ',D,e5,hpi⟩:=Zbw (g:=hName 5) (f:=mSeq b1 b2) (fun i ρ D=>∃(x5 x6:8e1),ρ=[1e7,3e2,5e3,6e7,#[14e8],x5,x6]/\D=C2) 100
  ((Yl n).map fun (q:Nat)=>PV.int (1 + q)) 0 11e1 (fun z hz i ρ D hi hh=>by
   obtain ⟨q,hq,rfl⟩:=YB.mp hz
   have hq:=Y1.mp hq
   obtain ⟨x5,x6,rfl,rfl⟩:=hh
   obtain ⟨y6,e⟩:=bb_ok ns #[townP sp nms ds] (some (.c C.length)) #[14e8] hp (1 + (q:Int)) 1e2 x6 D
   exact ⟨_,_,_,rfl,e,_,y6,rfl,rfl⟩) [#[.lst (ns.map .int)],#[townP sp nms ds],some (.c C.length),#[.lst (ls.map Lt.P)],#[(.int (j:Int))],none,none] C2 ⟨none,none,rfl,rfl⟩
 obtain ⟨y5,y6,rfl,rfl⟩:=hpi
 have s6:mFor lR (hName 5) (mSeq b1 b2) [1e7,3e2,5e3,6e7,#[14e8],none,none] D=some (.nx [1e7,3e2,5e3,6e7,#[14e8],y5,y6],D):=by
  unfold mFor bnd
  rw[hn1];exact e5
 have run:B_law [1e7,none,none,none,none,none,none] C=some (.rt (.v 14e3),D):=by
  rw[law_is,Zal s1,Zal s2,Zal s3,Zal s4,Zal s5,Zal s6];rfl
 unfold F_law
 generalize B_law=bl at *
 generalize ns.map PV.int=NS at *
 simp![run,hC2]
theorem law_pure (_:True)(ns:List Int)(hn:ns.length<=63):F_law [.v 15e0] []=some (.v 14e3,[]):=law_run ns hn []
def qv:Program:=W.view PySem.Challenge.pw_holdword_k16_whole_or_not [1,3,4,5,6,7,9,10,11,12,13,14,15,16,17,18,19,20,21,22,23,24,25]
def fnames:List Str:=List.map WK ["name_of","by_name","followed","asked_by","gaps","is_whole","_law_cell_at","_law_left","_law_pick","_law_words","_law_event","_law_clauses","_law_town","_law_deed","_law_name","_law_last","_law_gots","_law_letter","_law_pile","_law_changed","_law_due","_law_is","law"]
def sts:List (Str×Stmt):=fnames.zip (List.map top [1,3,4,5,6,7,9,10,11,12,13,14,15,16,17,18,19,20,21,22,23,24,25])
theorem sts_ok:(recsOf qv).map Hd.four=sts.map Hd.fourS:=by kernel_rfl
def hk:W.Hook:=W.Hook.none
theorem hl:W.LeftO PySem.Challenge.pw_holdword_k16_whole_or_not qv [] (fun s=>W.xlAt qv [] s&&W.recOk [] s) hk.obs hk.val 1580:=
 W.LeftO.of_split "special-get-raises" (fun w=>by kernel_rfl)
theorem all_mk {P:YC}{w:World}{K:W.Frag}{mg:3e1}{fa:Addr}(hfa:mg "law"=some (.ref fa))(T:Txt mg)
  (e_name_of:Hd.FnAt K mg "name_of" ZcU)
  (e_by_name:Hd.FnAt K mg "by_name" ZcX)
  (e_followed:Hd.FnAt K mg "followed" Zcr)
  (e_asked_by:Hd.FnAt K mg "asked_by" Zcs)
  (e_gaps:Hd.FnAt K mg "gaps" s_gaps)
  (e_is_whole:Hd.FnAt K mg "is_whole" Zcq)
  (e__law_cell_at:Hd.FnAt K mg "_law_cell_at" Zb0)
  (e__law_left:Hd.FnAt K mg "_law_left" ZcE)
  (e__law_pick:Hd.FnAt K mg "_law_pick" s_l_pick)
  (e__law_words:Hd.FnAt K mg "_law_words" ZcV)
  (e__law_event:Hd.FnAt K mg "_law_event" ZcW)
  (e__law_clauses:Hd.FnAt K mg "_law_clauses" ZbY)
  (e__law_town:Hd.FnAt K mg "_law_town" s_l_town)
  (e__law_deed:Hd.FnAt K mg "_law_deed" s_l_deed)
  (e__law_name:Hd.FnAt K mg "_law_name" s_l_name)
  (e__law_last:Hd.FnAt K mg "_law_last" s_l_last)
  (e__law_gots:Hd.FnAt K mg "_law_gots" s_l_gots)
  (e__law_letter:Hd.FnAt K mg "_law_letter" Zcp)
  (e__law_pile:Hd.FnAt K mg "_law_pile" s_l_pile)
  (e__law_changed:Hd.FnAt K mg "_law_changed" ZbZ)
  (e__law_due:Hd.FnAt K mg "_law_due" s_l_due)
  (e__law_is:Hd.FnAt K mg "_law_is" s_l_is)
  (e_law:Hd.FnAt K mg "law" s_law)
  :∃fd:XZ,(∀(s:Shared) (v:Value),BindsTo s fd ⟨[v],[]⟩ [("_law_script",v)])/\∀base:Heap,FnOk P w K mg base CX0 6 fa fd ["_law_script"] (Hd.spLaw K):=by
 obtain ⟨f_law,fd_law,m_law,N_law⟩:=e_law
 have e:=hfa.symm.trans m_law;cases e
 have hb:∀(s:Shared) (v:Value),BindsTo s fd_law ⟨[v],[]⟩ [("_law_script",v)]:=by
  obtain ⟨oc,od,kV,doc,pm,an,cdv,ct,osl,rfl,lk,hcd⟩:=N_law.ex
  exact fun s v=>.of_eq rfl
 refine ⟨fd_law,hb,fun base=>?_⟩
 have E_name_of:=ok_name_of (P:=P) (w:=w) (base:=base) e_name_of T
 have E_by_name:=ok_by_name (P:=P) (w:=w) (base:=base) e_by_name T E_name_of
 have E_followed:=ok_followed (P:=P) (w:=w) (base:=base) e_followed T
 have E_asked_by:=ok_asked_by (P:=P) (w:=w) (base:=base) e_asked_by T E_followed
 have E_gaps:=ok_gaps (P:=P) (w:=w) (base:=base) e_gaps T E_by_name E_asked_by
 have E_is_whole:=ok_is_whole (P:=P) (w:=w) (base:=base) e_is_whole T E_gaps
 have E__law_cell_at:=ok_l_cell_at (P:=P) (w:=w) (base:=base) e__law_cell_at T
 have E__law_left:=ok_l_left (P:=P) (w:=w) (base:=base) e__law_left T E__law_cell_at
 have EF__law_left:=okF_l_left (P:=P) (w:=w) (base:=base) e__law_left T E__law_cell_at
 have E__law_pick:=ok_l_pick (P:=P) (w:=w) (base:=base) e__law_pick T
 have E__law_words:=ok_l_words (P:=P) (w:=w) (base:=base) e__law_words T E__law_pick
 have E__law_event:=ok_l_event (P:=P) (w:=w) (base:=base) e__law_event T E__law_pick
 have E__law_clauses:=ok_l_clauses (P:=P) (w:=w) (base:=base) e__law_clauses T E__law_pick E__law_event
 have E__law_town:=ok_l_town (P:=P) (w:=w) (base:=base) e__law_town T EF__law_left E__law_words E__law_pick E__law_clauses
 have E__law_deed:=ok_l_deed (P:=P) (w:=w) (base:=base) e__law_deed T E__law_pick
 have E__law_name:=ok_l_name (P:=P) (w:=w) (base:=base) e__law_name T
 have E__law_last:=ok_l_last (P:=P) (w:=w) (base:=base) e__law_last T
 have E__law_gots:=ok_l_gots (P:=P) (w:=w) (base:=base) e__law_gots T E__law_pick E__law_name
 have E__law_letter:=ok_l_letter (P:=P) (w:=w) (base:=base) e__law_letter T E__law_pick E__law_last E__law_deed E__law_gots
 have E__law_pile:=ok_l_pile (P:=P) (w:=w) (base:=base) e__law_pile T EF__law_left E__law_pick E__law_letter
 have E__law_changed:=ok_l_changed (P:=P) (w:=w) (base:=base) e__law_changed T E__law_pick
 have E__law_due:=ok_l_due (P:=P) (w:=w) (base:=base) e__law_due T
 have E__law_is:=ok_l_is (P:=P) (w:=w) (base:=base) e__law_is T E_is_whole
 have E_law:=ok_law (P:=P) (w:=w) (base:=base) N_law T E__law_town EF__law_left E__law_pick E__law_pile E__law_is E__law_left E__law_changed E__law_due
 exact E_law.imp (Hd.spLaw_lift fun ns hl=>law_pure trivial ns hl)
def bl:List Str:=["bool","enumerate","int","isinstance","len","list","max","min","range","reversed","sorted","tuple"]
theorem hbl:bl.all (fun x=>!Hd.isHere qv (W.looseW qv []) x)=true:=by kernel_rfl
theorem said:PySem.Challenge.rw_holdword_k16_whole_or_not.wellSaid=true:=by kernel_rfl
end K16
open PySem PySem.W PyProof.Rows
set_option maxRecDepth 100000 in
set_option maxHeartbeats 0 in
theorem PySem.Challenge.cw_holdword_k16_whole_or_not_holds : PySem.Challenge.rw_holdword_k16_whole_or_not.Holds := by
 refine holds_law K16.said fun said=>?_
 refine holds_open (q:=K16.qv) (loose:=[]) (Xt:=fun s=>xlAt K16.qv [] s&&recOk [] s) (XP:=XL K16.qv []) (YP:=K16.hk.says) K16.hl (Hook.of K16.hk) (Hook.keeps K16.hk) (fun s e=>xl_of s (Bool.and_eq_true_iff.mp e).1) XL.keeps (d:=⟨"law",L2.defArgs K16.s_law,L2.defBody K16.s_law,L2.defScope K16.s_law,Hd.defPos K16.s_law⟩) (kwd:=[]) (by kernel_rfl) (by kernel_rfl) (by kernel_rfl) (fun s e=>recFacts_of (Bool.and_eq_true_iff.mp e).2) 1e0 said (by kernel_rfl) ⟨rfl,rfl,rfl,rfl,rfl,by decide +kernel⟩ ⟨[.list []],by decide +kernel,by decide +kernel⟩ ?_
 refine Hd.walk (k:=6) rfl rfl ⟨rfl,by decide,by decide⟩ [] fun w s₀ mg mb h as G Y h0 A fa hmg=>?_
 refine K16.all_mk hmg ⟨Hd.nones G.T K16.hbl 0 rfl,Hd.nones G.T K16.hbl 1 rfl,Hd.nones G.T K16.hbl 2 rfl,Hd.nones G.T K16.hbl 3 rfl,Hd.nones G.T K16.hbl 4 rfl,Hd.nones G.T K16.hbl 5 rfl,Hd.nones G.T K16.hbl 6 rfl,Hd.nones G.T K16.hbl 7 rfl,Hd.nones G.T K16.hbl 8 rfl,Hd.nones G.T K16.hbl 9 rfl,Hd.nones G.T K16.hbl 10 rfl,Hd.nones G.T K16.hbl 11 rfl⟩ (Hd.fn_at A K16.sts_ok 0 rfl) (Hd.fn_at A K16.sts_ok 1 rfl) (Hd.fn_at A K16.sts_ok 2 rfl) (Hd.fn_at A K16.sts_ok 3 rfl) (Hd.fn_at A K16.sts_ok 4 rfl) (Hd.fn_at A K16.sts_ok 5 rfl) (Hd.fn_at A K16.sts_ok 6 rfl) (Hd.fn_at A K16.sts_ok 7 rfl) (Hd.fn_at A K16.sts_ok 8 rfl) (Hd.fn_at A K16.sts_ok 9 rfl) (Hd.fn_at A K16.sts_ok 10 rfl) (Hd.fn_at A K16.sts_ok 11 rfl) (Hd.fn_at A K16.sts_ok 12 rfl) (Hd.fn_at A K16.sts_ok 13 rfl) (Hd.fn_at A K16.sts_ok 14 rfl) (Hd.fn_at A K16.sts_ok 15 rfl) (Hd.fn_at A K16.sts_ok 16 rfl) (Hd.fn_at A K16.sts_ok 17 rfl) (Hd.fn_at A K16.sts_ok 18 rfl) (Hd.fn_at A K16.sts_ok 19 rfl) (Hd.fn_at A K16.sts_ok 20 rfl) (Hd.fn_at A K16.sts_ok 21 rfl) (Hd.fn_at A K16.sts_ok 22 rfl)